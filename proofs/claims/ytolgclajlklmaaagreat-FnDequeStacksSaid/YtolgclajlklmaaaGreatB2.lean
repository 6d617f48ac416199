/-
  The exported functions of chapter 1 at some kinds, each against plain mathematics.
-/
import Derived.Test.YtolgclajlklmaaaGreatMa
import Derived.Test.YtolgclajlklmaaaGreatA1
import Derived.Test.YtolgclajlklmaaaGreatA2
namespace Go.Proofs.YtolgclajlklmaaaGreat
open Go.RowKit
set_option linter.unusedSimpArgs false
theorem checked_4 (x y z : Int) (w : World) :
    Calls Tryz.prog 94 #[.iface 155 (.agg #[]), .agg #[.int .i64 x, .int .i64 y, .int .i64 z]] w fun e w' => e = .returned (.tuple #[.agg #[.int .i64 (Agg.give (Agg.ok 4 ⟨x, y, z⟩) ⟨x, y, z⟩).1.x, .int .i64 (Agg.give (Agg.ok 4 ⟨x, y, z⟩) ⟨x, y, z⟩).1.y, .int .i64 (Agg.give (Agg.ok 4 ⟨x, y, z⟩) ⟨x, y, z⟩).1.z], .bool (Agg.give (Agg.ok 4 ⟨x, y, z⟩) ⟨x, y, z⟩).2]) ∧ Below w.heap.size w w' := by
  cases ha : Agg.ok 4 ⟨x, y, z⟩
  all_goals
    go_enter Tryz.func94, Tryz.ntmps94
    go_wp2_with (go_at_call 148; refine (valid_4 _ _ _ _).mono ?_; rintro e w1 ⟨rfl, hb1⟩; obtain ⟨hc1, hf1⟩ := bcell hb1; obtain ⟨hz0, hz1⟩ : w.heap.size < w1.heap.size ∧ w.heap.size + 1 < w1.heap.size := (by have hzz := hb1.size; (try simp at hzz); omega); have hB1 : Below w.heap.size w w1 := Below.trans (by go_grown) (hb1.mono (by first | (simp; done) | (simp; omega) | omega)); clear hb1)
    refine bodyPost_ret (by simp [results, Tryz.results94, go_sem, *]; try rfl) rfl ?_
    exact ⟨ret_agg_bool (by simp [Agg.give, Agg.zero]) (by simp [Agg.give, Agg.zero]) (by simp [Agg.give, Agg.zero]) (by simp [Agg.give]), (by first | (go_grown; done) | (refine below_drewN ?_ _; go_grown; done) | (refine (below_drewN _ ?_); go_grown; done))⟩

set_option maxHeartbeats 4000000 in
theorem combineValues_4 (ax ay az bx by' bz : Int) (w : World) :
    Calls Tryz.prog 85 #[.int .i64 4, .agg #[.int .i64 ax, .int .i64 ay, .int .i64 az], .agg #[.int .i64 bx, .int .i64 by', .int .i64 bz]] w fun e w' => e = .returned (.tuple #[.agg #[.int .i64 (Agg.aComb 4 ⟨ax, ay, az⟩ ⟨bx, by', bz⟩).1.x, .int .i64 (Agg.aComb 4 ⟨ax, ay, az⟩ ⟨bx, by', bz⟩).1.y, .int .i64 (Agg.aComb 4 ⟨ax, ay, az⟩ ⟨bx, by', bz⟩).1.z], .bool (Agg.aComb 4 ⟨ax, ay, az⟩ ⟨bx, by', bz⟩).2]) ∧ Below w.heap.size w w' := by
  cases ha : Agg.ok 4 ⟨ax, ay, az⟩
  · have e : Agg.aComb 4 ⟨ax, ay, az⟩ ⟨bx, by', bz⟩ = (Agg.zero, false) := by simp [Agg.aComb, Agg.give, Agg.valid, ha]
    rw [e]
    go_enter Tryz.func85, Tryz.ntmps85
    go_wp2_with (first | (go_at_call 74; refine (kindOf_4 _).mono ?_; rintro e w1 ⟨rfl, rfl⟩) | (go_at_call 148; refine (valid_4 _ _ _ _).mono ?_; rintro e w1 ⟨rfl, hb1⟩; obtain ⟨hc1, hf1⟩ := bcell hb1; obtain ⟨hz0, hz1, hz2⟩ : w.heap.size < w1.heap.size ∧ w.heap.size + 1 < w1.heap.size ∧ w.heap.size + 1 + 1 < w1.heap.size := (by have hzz := hb1.size; (try simp at hzz); omega); have hB1 : Below w.heap.size w w1 := Below.trans (by go_grown) (hb1.mono (by first | (simp; done) | (simp; omega) | omega)); clear hb1))
    refine bodyPost_ret (by simp [results, Tryz.results85, go_sem, *]; try rfl) rfl ?_
    exact ⟨ret_agg_bool rfl rfl rfl rfl, (by first | (go_grown; done) | (refine below_drewN ?_ _; go_grown; done) | (refine (below_drewN _ ?_); go_grown; done))⟩
  · cases hb : Agg.ok 4 ⟨bx, by', bz⟩
    · have e : Agg.aComb 4 ⟨ax, ay, az⟩ ⟨bx, by', bz⟩ = (Agg.zero, false) := by simp [Agg.aComb, Agg.give, Agg.valid, hb]
      rw [e]
      go_enter Tryz.func85, Tryz.ntmps85
      go_wp2_with (first | (go_at_call 74; refine (kindOf_4 _).mono ?_; rintro e w1 ⟨rfl, rfl⟩) | (go_at_call 148; refine (valid_4 _ _ _ _).mono ?_; rintro e w1 ⟨rfl, hb1⟩; obtain ⟨hc1, hf1⟩ := bcell hb1; obtain ⟨hz0, hz1, hz2⟩ : w.heap.size < w1.heap.size ∧ w.heap.size + 1 < w1.heap.size ∧ w.heap.size + 1 + 1 < w1.heap.size := (by have hzz := hb1.size; (try simp at hzz); omega); have hB1 : Below w.heap.size w w1 := Below.trans (by go_grown) (hb1.mono (by first | (simp; done) | (simp; omega) | omega)); clear hb1))
      refine bodyPost_ret (by simp [results, Tryz.results85, go_sem, *]; try rfl) rfl ?_
      exact ⟨ret_agg_bool rfl rfl rfl rfl, (by first | (go_grown; done) | (refine below_drewN ?_ _; go_grown; done) | (refine (below_drewN _ ?_); go_grown; done))⟩
    · have e : Agg.aComb 4 ⟨ax, ay, az⟩ ⟨bx, by', bz⟩ = Agg.give (Agg.ok 4 (Agg.comb 4 ⟨ax, ay, az⟩ ⟨bx, by', bz⟩)) (Agg.comb 4 ⟨ax, ay, az⟩ ⟨bx, by', bz⟩) := by simp [Agg.aComb, Agg.valid, Agg.isKind, ha, hb]
      rw [e]
      go_enter Tryz.func85, Tryz.ntmps85
      go_wp2_with (first | (go_at_call 74; refine (kindOf_4 _).mono ?_; rintro e w1 ⟨rfl, rfl⟩) | (go_at_call 148; refine (valid_4 _ _ _ _).mono ?_; rintro e w1 ⟨rfl, hb1⟩; obtain ⟨hc1, hf1⟩ := bcell hb1; obtain ⟨hz0, hz1, hz2⟩ : w.heap.size < w1.heap.size ∧ w.heap.size + 1 < w1.heap.size ∧ w.heap.size + 1 + 1 < w1.heap.size := (by have hzz := hb1.size; (try simp at hzz); omega); have hB1 : Below w.heap.size w w1 := Below.trans (by go_grown) (hb1.mono (by first | (simp; done) | (simp; omega) | omega)); clear hb1) | (go_at_call 143; refine (combine_4 _ _ _ _ _ _ _ ha hb).mono ?_; rintro e w1 ⟨rfl, hb1⟩; obtain ⟨hc1, hf1⟩ := bcell hb1; obtain ⟨hz0, hz1, hz2⟩ : w.heap.size < w1.heap.size ∧ w.heap.size + 1 < w1.heap.size ∧ w.heap.size + 1 + 1 < w1.heap.size := (by have hzz := hb1.size; (try simp at hzz); omega); have hB1 : Below w.heap.size w w1 := Below.trans (by go_grown) (hb1.mono (by first | (simp; done) | (simp; omega) | omega)); clear hb1) | (go_at_call 94; refine (checked_4 _ _ _ _).mono ?_; rintro e w1 ⟨rfl, hb1⟩; obtain ⟨hc1, hf1⟩ := bcell hb1; obtain ⟨hz0, hz1, hz2⟩ : w.heap.size < w1.heap.size ∧ w.heap.size + 1 < w1.heap.size ∧ w.heap.size + 1 + 1 < w1.heap.size := (by have hzz := hb1.size; (try simp at hzz); omega); have hB1 : Below w.heap.size w w1 := Below.trans (by go_grown) (hb1.mono (by first | (simp; done) | (simp; omega) | omega)); clear hb1))
      refine bodyPost_ret (by simp [results, Tryz.results85, go_sem, *]; try rfl) rfl ?_
      exact ⟨rfl, (by first | (go_grown; done) | (refine below_drewN ?_ _; go_grown; done) | (refine (below_drewN _ ?_); go_grown; done))⟩

theorem kindValid_4 (w : World) : Calls Tryz.prog 43 #[.int .i64 4] w fun e w' => e = .returned (.bool true) ∧ w = w' := by
  go_enter Tryz.func43, Tryz.ntmps43
  go_wp2_with (go_at_call 74; refine (kindOf_4 _).mono ?_; rintro e w1 ⟨rfl, rfl⟩)
  go_returns
  exact ⟨rfl, rfl⟩

theorem valueValid_4 (x y z : Int) (w : World) :
    Calls Tryz.prog 92 #[.int .i64 4, .agg #[.int .i64 x, .int .i64 y, .int .i64 z]] w fun e w' => e = .returned (.bool (Agg.valid 4 ⟨x, y, z⟩)) ∧ Below w.heap.size w w' := by
  go_enter Tryz.func92, Tryz.ntmps92
  go_wp2_with (first | (go_at_call 74; refine (kindOf_4 _).mono ?_; rintro e w1 ⟨rfl, rfl⟩) | (go_at_call 148; refine (valid_4 _ _ _ _).mono ?_; rintro e w1 ⟨rfl, hb1⟩; obtain ⟨hc1, hf1⟩ := bcell hb1; obtain hz0 : w.heap.size < w1.heap.size := (by have hzz := hb1.size; (try simp at hzz); omega); have hB1 : Below w.heap.size w w1 := Below.trans (by go_grown) (hb1.mono (by first | (simp; done) | (simp; omega) | omega)); clear hb1))
  go_returns
  exact ⟨ret_bool (by simp [Agg.valid, Agg.isKind]), (by first | (go_grown; done) | (refine below_drewN ?_ _; go_grown; done) | (refine (below_drewN _ ?_); go_grown; done))⟩


theorem unitOf_4 (w : World) :
    Calls Tryz.prog 79 #[.int .i64 4] w fun e w' => e = .returned (.tuple #[.agg #[.int .i64 (Agg.aUnit 4).1.x, .int .i64 (Agg.aUnit 4).1.y, .int .i64 (Agg.aUnit 4).1.z], .bool (Agg.aUnit 4).2]) ∧ Below w.heap.size w w' := by
  have e : Agg.aUnit 4 = (Agg.unit 4, true) := by simp [Agg.aUnit, Agg.give, Agg.isKind]
  rw [e]
  go_enter Tryz.func79, Tryz.ntmps79
  go_wp2_with (first | (go_at_call 74; refine (kindOf_4 _).mono ?_; rintro e w1 ⟨rfl, rfl⟩) | (go_at_call 147; refine (unit_4 _).mono ?_; rintro e w1 ⟨rfl, hb1⟩; obtain ⟨hc1, hf1⟩ := bcell hb1; obtain hz0 : w.heap.size < w1.heap.size := (by have hzz := hb1.size; (try simp at hzz); omega); have hB1 : Below w.heap.size w w1 := Below.trans (by go_grown) (hb1.mono (by first | (simp; done) | (simp; omega) | omega)); clear hb1))
  refine bodyPost_ret (by simp [results, Tryz.results79, go_sem, *]; try rfl) rfl ?_
  exact ⟨rfl, (by first | (go_grown; done) | (refine below_drewN ?_ _; go_grown; done) | (refine (below_drewN _ ?_); go_grown; done))⟩


theorem lowerValue_4 (x y z : Int) (w : World) :
    Calls Tryz.prog 91 #[.int .i64 4, .agg #[.int .i64 x, .int .i64 y, .int .i64 z]] w fun e w' => e = .returned (.tuple #[.int .i64 (Agg.aLow 4 ⟨x, y, z⟩).1, .bool (Agg.aLow 4 ⟨x, y, z⟩).2]) ∧ Below w.heap.size w w' := by
  cases ha : Agg.ok 4 ⟨x, y, z⟩
  · have e : Agg.aLow 4 ⟨x, y, z⟩ = (0, false) := by simp [Agg.aLow, Agg.valid, ha]
    rw [e]
    go_enter Tryz.func91, Tryz.ntmps91
    go_wp2_with (first | (go_at_call 74; refine (kindOf_4 _).mono ?_; rintro e w1 ⟨rfl, rfl⟩) | (go_at_call 148; refine (valid_4 _ _ _ _).mono ?_; rintro e w1 ⟨rfl, hb1⟩; obtain ⟨hc1, hf1⟩ := bcell hb1; obtain hz0 : w.heap.size < w1.heap.size := (by have hzz := hb1.size; (try simp at hzz); omega); have hB1 : Below w.heap.size w w1 := Below.trans (by go_grown) (hb1.mono (by first | (simp; done) | (simp; omega) | omega)); clear hb1))
    go_returns
    exact ⟨rfl, (by first | (go_grown; done) | (refine below_drewN ?_ _; go_grown; done) | (refine (below_drewN _ ?_); go_grown; done))⟩
  · have e : Agg.aLow 4 ⟨x, y, z⟩ = Agg.low 4 ⟨x, y, z⟩ := Agg.aLow_of (by decide) ha
    rw [e]
    go_enter Tryz.func91, Tryz.ntmps91
    go_wp2_with (first | (go_at_call 74; refine (kindOf_4 _).mono ?_; rintro e w1 ⟨rfl, rfl⟩) | (go_at_call 148; refine (valid_4 _ _ _ _).mono ?_; rintro e w1 ⟨rfl, hb1⟩; obtain ⟨hc1, hf1⟩ := bcell hb1; obtain hz0 : w.heap.size < w1.heap.size := (by have hzz := hb1.size; (try simp at hzz); omega); have hB1 : Below w.heap.size w w1 := Below.trans (by go_grown) (hb1.mono (by first | (simp; done) | (simp; omega) | omega)); clear hb1) | (go_at_call 146; refine (lower_4 _ _ _ _ ha).mono ?_; rintro e w1 ⟨rfl, hb1⟩; obtain ⟨hc1, hf1⟩ := bcell hb1; obtain hz0 : w.heap.size < w1.heap.size := (by have hzz := hb1.size; (try simp at hzz); omega); have hB1 : Below w.heap.size w w1 := Below.trans (by go_grown) (hb1.mono (by first | (simp; done) | (simp; omega) | omega)); clear hb1))
    go_returns
    exact ⟨rfl, (by first | (go_grown; done) | (refine below_drewN ?_ _; go_grown; done) | (refine (below_drewN _ ?_); go_grown; done))⟩
theorem checked_5 (x y z : Int) (w : World) :
    Calls Tryz.prog 94 #[.iface 158 (.agg #[]), .agg #[.int .i64 x, .int .i64 y, .int .i64 z]] w fun e w' => e = .returned (.tuple #[.agg #[.int .i64 (Agg.give (Agg.ok 5 ⟨x, y, z⟩) ⟨x, y, z⟩).1.x, .int .i64 (Agg.give (Agg.ok 5 ⟨x, y, z⟩) ⟨x, y, z⟩).1.y, .int .i64 (Agg.give (Agg.ok 5 ⟨x, y, z⟩) ⟨x, y, z⟩).1.z], .bool (Agg.give (Agg.ok 5 ⟨x, y, z⟩) ⟨x, y, z⟩).2]) ∧ Below w.heap.size w w' := by
  cases ha : Agg.ok 5 ⟨x, y, z⟩
  all_goals
    go_enter Tryz.func94, Tryz.ntmps94
    go_wp2_with (go_at_call 156; refine (valid_5 _ _ _ _).mono ?_; rintro e w1 ⟨rfl, hb1⟩; obtain ⟨hc1, hf1⟩ := bcell hb1; obtain ⟨hz0, hz1⟩ : w.heap.size < w1.heap.size ∧ w.heap.size + 1 < w1.heap.size := (by have hzz := hb1.size; (try simp at hzz); omega); have hB1 : Below w.heap.size w w1 := Below.trans (by go_grown) (hb1.mono (by first | (simp; done) | (simp; omega) | omega)); clear hb1)
    refine bodyPost_ret (by simp [results, Tryz.results94, go_sem, *]; try rfl) rfl ?_
    exact ⟨ret_agg_bool (by simp [Agg.give, Agg.zero]) (by simp [Agg.give, Agg.zero]) (by simp [Agg.give, Agg.zero]) (by simp [Agg.give]), (by first | (go_grown; done) | (refine below_drewN ?_ _; go_grown; done) | (refine (below_drewN _ ?_); go_grown; done))⟩

set_option maxHeartbeats 4000000 in
theorem combineValues_5 (ax ay az bx by' bz : Int) (w : World) :
    Calls Tryz.prog 85 #[.int .i64 5, .agg #[.int .i64 ax, .int .i64 ay, .int .i64 az], .agg #[.int .i64 bx, .int .i64 by', .int .i64 bz]] w fun e w' => e = .returned (.tuple #[.agg #[.int .i64 (Agg.aComb 5 ⟨ax, ay, az⟩ ⟨bx, by', bz⟩).1.x, .int .i64 (Agg.aComb 5 ⟨ax, ay, az⟩ ⟨bx, by', bz⟩).1.y, .int .i64 (Agg.aComb 5 ⟨ax, ay, az⟩ ⟨bx, by', bz⟩).1.z], .bool (Agg.aComb 5 ⟨ax, ay, az⟩ ⟨bx, by', bz⟩).2]) ∧ Below w.heap.size w w' := by
  cases ha : Agg.ok 5 ⟨ax, ay, az⟩
  · have e : Agg.aComb 5 ⟨ax, ay, az⟩ ⟨bx, by', bz⟩ = (Agg.zero, false) := by simp [Agg.aComb, Agg.give, Agg.valid, ha]
    rw [e]
    go_enter Tryz.func85, Tryz.ntmps85
    go_wp2_with (first | (go_at_call 74; refine (kindOf_5 _).mono ?_; rintro e w1 ⟨rfl, rfl⟩) | (go_at_call 156; refine (valid_5 _ _ _ _).mono ?_; rintro e w1 ⟨rfl, hb1⟩; obtain ⟨hc1, hf1⟩ := bcell hb1; obtain ⟨hz0, hz1, hz2⟩ : w.heap.size < w1.heap.size ∧ w.heap.size + 1 < w1.heap.size ∧ w.heap.size + 1 + 1 < w1.heap.size := (by have hzz := hb1.size; (try simp at hzz); omega); have hB1 : Below w.heap.size w w1 := Below.trans (by go_grown) (hb1.mono (by first | (simp; done) | (simp; omega) | omega)); clear hb1))
    refine bodyPost_ret (by simp [results, Tryz.results85, go_sem, *]; try rfl) rfl ?_
    exact ⟨ret_agg_bool rfl rfl rfl rfl, (by first | (go_grown; done) | (refine below_drewN ?_ _; go_grown; done) | (refine (below_drewN _ ?_); go_grown; done))⟩
  · cases hb : Agg.ok 5 ⟨bx, by', bz⟩
    · have e : Agg.aComb 5 ⟨ax, ay, az⟩ ⟨bx, by', bz⟩ = (Agg.zero, false) := by simp [Agg.aComb, Agg.give, Agg.valid, hb]
      rw [e]
      go_enter Tryz.func85, Tryz.ntmps85
      go_wp2_with (first | (go_at_call 74; refine (kindOf_5 _).mono ?_; rintro e w1 ⟨rfl, rfl⟩) | (go_at_call 156; refine (valid_5 _ _ _ _).mono ?_; rintro e w1 ⟨rfl, hb1⟩; obtain ⟨hc1, hf1⟩ := bcell hb1; obtain ⟨hz0, hz1, hz2⟩ : w.heap.size < w1.heap.size ∧ w.heap.size + 1 < w1.heap.size ∧ w.heap.size + 1 + 1 < w1.heap.size := (by have hzz := hb1.size; (try simp at hzz); omega); have hB1 : Below w.heap.size w w1 := Below.trans (by go_grown) (hb1.mono (by first | (simp; done) | (simp; omega) | omega)); clear hb1))
      refine bodyPost_ret (by simp [results, Tryz.results85, go_sem, *]; try rfl) rfl ?_
      exact ⟨ret_agg_bool rfl rfl rfl rfl, (by first | (go_grown; done) | (refine below_drewN ?_ _; go_grown; done) | (refine (below_drewN _ ?_); go_grown; done))⟩
    · have e : Agg.aComb 5 ⟨ax, ay, az⟩ ⟨bx, by', bz⟩ = Agg.give (Agg.ok 5 (Agg.comb 5 ⟨ax, ay, az⟩ ⟨bx, by', bz⟩)) (Agg.comb 5 ⟨ax, ay, az⟩ ⟨bx, by', bz⟩) := by simp [Agg.aComb, Agg.valid, Agg.isKind, ha, hb]
      rw [e]
      go_enter Tryz.func85, Tryz.ntmps85
      go_wp2_with (first | (go_at_call 74; refine (kindOf_5 _).mono ?_; rintro e w1 ⟨rfl, rfl⟩) | (go_at_call 156; refine (valid_5 _ _ _ _).mono ?_; rintro e w1 ⟨rfl, hb1⟩; obtain ⟨hc1, hf1⟩ := bcell hb1; obtain ⟨hz0, hz1, hz2⟩ : w.heap.size < w1.heap.size ∧ w.heap.size + 1 < w1.heap.size ∧ w.heap.size + 1 + 1 < w1.heap.size := (by have hzz := hb1.size; (try simp at hzz); omega); have hB1 : Below w.heap.size w w1 := Below.trans (by go_grown) (hb1.mono (by first | (simp; done) | (simp; omega) | omega)); clear hb1) | (go_at_call 151; refine (combine_5 _ _ _ _ _ _ _ ha hb).mono ?_; rintro e w1 ⟨rfl, hb1⟩; obtain ⟨hc1, hf1⟩ := bcell hb1; obtain ⟨hz0, hz1, hz2⟩ : w.heap.size < w1.heap.size ∧ w.heap.size + 1 < w1.heap.size ∧ w.heap.size + 1 + 1 < w1.heap.size := (by have hzz := hb1.size; (try simp at hzz); omega); have hB1 : Below w.heap.size w w1 := Below.trans (by go_grown) (hb1.mono (by first | (simp; done) | (simp; omega) | omega)); clear hb1) | (go_at_call 94; refine (checked_5 _ _ _ _).mono ?_; rintro e w1 ⟨rfl, hb1⟩; obtain ⟨hc1, hf1⟩ := bcell hb1; obtain ⟨hz0, hz1, hz2⟩ : w.heap.size < w1.heap.size ∧ w.heap.size + 1 < w1.heap.size ∧ w.heap.size + 1 + 1 < w1.heap.size := (by have hzz := hb1.size; (try simp at hzz); omega); have hB1 : Below w.heap.size w w1 := Below.trans (by go_grown) (hb1.mono (by first | (simp; done) | (simp; omega) | omega)); clear hb1))
      refine bodyPost_ret (by simp [results, Tryz.results85, go_sem, *]; try rfl) rfl ?_
      exact ⟨rfl, (by first | (go_grown; done) | (refine below_drewN ?_ _; go_grown; done) | (refine (below_drewN _ ?_); go_grown; done))⟩

theorem kindValid_5 (w : World) : Calls Tryz.prog 43 #[.int .i64 5] w fun e w' => e = .returned (.bool true) ∧ w = w' := by
  go_enter Tryz.func43, Tryz.ntmps43
  go_wp2_with (go_at_call 74; refine (kindOf_5 _).mono ?_; rintro e w1 ⟨rfl, rfl⟩)
  go_returns
  exact ⟨rfl, rfl⟩

theorem valueValid_5 (x y z : Int) (w : World) :
    Calls Tryz.prog 92 #[.int .i64 5, .agg #[.int .i64 x, .int .i64 y, .int .i64 z]] w fun e w' => e = .returned (.bool (Agg.valid 5 ⟨x, y, z⟩)) ∧ Below w.heap.size w w' := by
  go_enter Tryz.func92, Tryz.ntmps92
  go_wp2_with (first | (go_at_call 74; refine (kindOf_5 _).mono ?_; rintro e w1 ⟨rfl, rfl⟩) | (go_at_call 156; refine (valid_5 _ _ _ _).mono ?_; rintro e w1 ⟨rfl, hb1⟩; obtain ⟨hc1, hf1⟩ := bcell hb1; obtain hz0 : w.heap.size < w1.heap.size := (by have hzz := hb1.size; (try simp at hzz); omega); have hB1 : Below w.heap.size w w1 := Below.trans (by go_grown) (hb1.mono (by first | (simp; done) | (simp; omega) | omega)); clear hb1))
  go_returns
  exact ⟨ret_bool (by simp [Agg.valid, Agg.isKind]), (by first | (go_grown; done) | (refine below_drewN ?_ _; go_grown; done) | (refine (below_drewN _ ?_); go_grown; done))⟩


theorem unitOf_5 (w : World) :
    Calls Tryz.prog 79 #[.int .i64 5] w fun e w' => e = .returned (.tuple #[.agg #[.int .i64 (Agg.aUnit 5).1.x, .int .i64 (Agg.aUnit 5).1.y, .int .i64 (Agg.aUnit 5).1.z], .bool (Agg.aUnit 5).2]) ∧ Below w.heap.size w w' := by
  have e : Agg.aUnit 5 = (Agg.unit 5, true) := by simp [Agg.aUnit, Agg.give, Agg.isKind]
  rw [e]
  go_enter Tryz.func79, Tryz.ntmps79
  go_wp2_with (first | (go_at_call 74; refine (kindOf_5 _).mono ?_; rintro e w1 ⟨rfl, rfl⟩) | (go_at_call 155; refine (unit_5 _).mono ?_; rintro e w1 ⟨rfl, hb1⟩; obtain ⟨hc1, hf1⟩ := bcell hb1; obtain hz0 : w.heap.size < w1.heap.size := (by have hzz := hb1.size; (try simp at hzz); omega); have hB1 : Below w.heap.size w w1 := Below.trans (by go_grown) (hb1.mono (by first | (simp; done) | (simp; omega) | omega)); clear hb1))
  refine bodyPost_ret (by simp [results, Tryz.results79, go_sem, *]; try rfl) rfl ?_
  exact ⟨rfl, (by first | (go_grown; done) | (refine below_drewN ?_ _; go_grown; done) | (refine (below_drewN _ ?_); go_grown; done))⟩


theorem lowerValue_5 (x y z : Int) (w : World) :
    Calls Tryz.prog 91 #[.int .i64 5, .agg #[.int .i64 x, .int .i64 y, .int .i64 z]] w fun e w' => e = .returned (.tuple #[.int .i64 (Agg.aLow 5 ⟨x, y, z⟩).1, .bool (Agg.aLow 5 ⟨x, y, z⟩).2]) ∧ Below w.heap.size w w' := by
  cases ha : Agg.ok 5 ⟨x, y, z⟩
  · have e : Agg.aLow 5 ⟨x, y, z⟩ = (0, false) := by simp [Agg.aLow, Agg.valid, ha]
    rw [e]
    go_enter Tryz.func91, Tryz.ntmps91
    go_wp2_with (first | (go_at_call 74; refine (kindOf_5 _).mono ?_; rintro e w1 ⟨rfl, rfl⟩) | (go_at_call 156; refine (valid_5 _ _ _ _).mono ?_; rintro e w1 ⟨rfl, hb1⟩; obtain ⟨hc1, hf1⟩ := bcell hb1; obtain hz0 : w.heap.size < w1.heap.size := (by have hzz := hb1.size; (try simp at hzz); omega); have hB1 : Below w.heap.size w w1 := Below.trans (by go_grown) (hb1.mono (by first | (simp; done) | (simp; omega) | omega)); clear hb1))
    go_returns
    exact ⟨rfl, (by first | (go_grown; done) | (refine below_drewN ?_ _; go_grown; done) | (refine (below_drewN _ ?_); go_grown; done))⟩
  · have e : Agg.aLow 5 ⟨x, y, z⟩ = Agg.low 5 ⟨x, y, z⟩ := Agg.aLow_of (by decide) ha
    rw [e]
    go_enter Tryz.func91, Tryz.ntmps91
    go_wp2_with (first | (go_at_call 74; refine (kindOf_5 _).mono ?_; rintro e w1 ⟨rfl, rfl⟩) | (go_at_call 156; refine (valid_5 _ _ _ _).mono ?_; rintro e w1 ⟨rfl, hb1⟩; obtain ⟨hc1, hf1⟩ := bcell hb1; obtain hz0 : w.heap.size < w1.heap.size := (by have hzz := hb1.size; (try simp at hzz); omega); have hB1 : Below w.heap.size w w1 := Below.trans (by go_grown) (hb1.mono (by first | (simp; done) | (simp; omega) | omega)); clear hb1) | (go_at_call 154; refine (lower_5 _ _ _ _ ha).mono ?_; rintro e w1 ⟨rfl, hb1⟩; obtain ⟨hc1, hf1⟩ := bcell hb1; obtain hz0 : w.heap.size < w1.heap.size := (by have hzz := hb1.size; (try simp at hzz); omega); have hB1 : Below w.heap.size w w1 := Below.trans (by go_grown) (hb1.mono (by first | (simp; done) | (simp; omega) | omega)); clear hb1))
    go_returns
    exact ⟨rfl, (by first | (go_grown; done) | (refine below_drewN ?_ _; go_grown; done) | (refine (below_drewN _ ?_); go_grown; done))⟩
theorem checked_6 (x y z : Int) (w : World) :
    Calls Tryz.prog 94 #[.iface 161 (.agg #[]), .agg #[.int .i64 x, .int .i64 y, .int .i64 z]] w fun e w' => e = .returned (.tuple #[.agg #[.int .i64 (Agg.give (Agg.ok 6 ⟨x, y, z⟩) ⟨x, y, z⟩).1.x, .int .i64 (Agg.give (Agg.ok 6 ⟨x, y, z⟩) ⟨x, y, z⟩).1.y, .int .i64 (Agg.give (Agg.ok 6 ⟨x, y, z⟩) ⟨x, y, z⟩).1.z], .bool (Agg.give (Agg.ok 6 ⟨x, y, z⟩) ⟨x, y, z⟩).2]) ∧ Below w.heap.size w w' := by
  cases ha : Agg.ok 6 ⟨x, y, z⟩
  all_goals
    go_enter Tryz.func94, Tryz.ntmps94
    go_wp2_with (go_at_call 164; refine (valid_6 _ _ _ _).mono ?_; rintro e w1 ⟨rfl, hb1⟩; obtain ⟨hc1, hf1⟩ := bcell hb1; obtain ⟨hz0, hz1⟩ : w.heap.size < w1.heap.size ∧ w.heap.size + 1 < w1.heap.size := (by have hzz := hb1.size; (try simp at hzz); omega); have hB1 : Below w.heap.size w w1 := Below.trans (by go_grown) (hb1.mono (by first | (simp; done) | (simp; omega) | omega)); clear hb1)
    refine bodyPost_ret (by simp [results, Tryz.results94, go_sem, *]; try rfl) rfl ?_
    exact ⟨ret_agg_bool (by simp [Agg.give, Agg.zero]) (by simp [Agg.give, Agg.zero]) (by simp [Agg.give, Agg.zero]) (by simp [Agg.give]), (by first | (go_grown; done) | (refine below_drewN ?_ _; go_grown; done) | (refine (below_drewN _ ?_); go_grown; done))⟩

set_option maxHeartbeats 4000000 in
theorem combineValues_6 (ax ay az bx by' bz : Int) (w : World) :
    Calls Tryz.prog 85 #[.int .i64 6, .agg #[.int .i64 ax, .int .i64 ay, .int .i64 az], .agg #[.int .i64 bx, .int .i64 by', .int .i64 bz]] w fun e w' => e = .returned (.tuple #[.agg #[.int .i64 (Agg.aComb 6 ⟨ax, ay, az⟩ ⟨bx, by', bz⟩).1.x, .int .i64 (Agg.aComb 6 ⟨ax, ay, az⟩ ⟨bx, by', bz⟩).1.y, .int .i64 (Agg.aComb 6 ⟨ax, ay, az⟩ ⟨bx, by', bz⟩).1.z], .bool (Agg.aComb 6 ⟨ax, ay, az⟩ ⟨bx, by', bz⟩).2]) ∧ Below w.heap.size w w' := by
  cases ha : Agg.ok 6 ⟨ax, ay, az⟩
  · have e : Agg.aComb 6 ⟨ax, ay, az⟩ ⟨bx, by', bz⟩ = (Agg.zero, false) := by simp [Agg.aComb, Agg.give, Agg.valid, ha]
    rw [e]
    go_enter Tryz.func85, Tryz.ntmps85
    go_wp2_with (first | (go_at_call 74; refine (kindOf_6 _).mono ?_; rintro e w1 ⟨rfl, rfl⟩) | (go_at_call 164; refine (valid_6 _ _ _ _).mono ?_; rintro e w1 ⟨rfl, hb1⟩; obtain ⟨hc1, hf1⟩ := bcell hb1; obtain ⟨hz0, hz1, hz2⟩ : w.heap.size < w1.heap.size ∧ w.heap.size + 1 < w1.heap.size ∧ w.heap.size + 1 + 1 < w1.heap.size := (by have hzz := hb1.size; (try simp at hzz); omega); have hB1 : Below w.heap.size w w1 := Below.trans (by go_grown) (hb1.mono (by first | (simp; done) | (simp; omega) | omega)); clear hb1))
    refine bodyPost_ret (by simp [results, Tryz.results85, go_sem, *]; try rfl) rfl ?_
    exact ⟨ret_agg_bool rfl rfl rfl rfl, (by first | (go_grown; done) | (refine below_drewN ?_ _; go_grown; done) | (refine (below_drewN _ ?_); go_grown; done))⟩
  · cases hb : Agg.ok 6 ⟨bx, by', bz⟩
    · have e : Agg.aComb 6 ⟨ax, ay, az⟩ ⟨bx, by', bz⟩ = (Agg.zero, false) := by simp [Agg.aComb, Agg.give, Agg.valid, hb]
      rw [e]
      go_enter Tryz.func85, Tryz.ntmps85
      go_wp2_with (first | (go_at_call 74; refine (kindOf_6 _).mono ?_; rintro e w1 ⟨rfl, rfl⟩) | (go_at_call 164; refine (valid_6 _ _ _ _).mono ?_; rintro e w1 ⟨rfl, hb1⟩; obtain ⟨hc1, hf1⟩ := bcell hb1; obtain ⟨hz0, hz1, hz2⟩ : w.heap.size < w1.heap.size ∧ w.heap.size + 1 < w1.heap.size ∧ w.heap.size + 1 + 1 < w1.heap.size := (by have hzz := hb1.size; (try simp at hzz); omega); have hB1 : Below w.heap.size w w1 := Below.trans (by go_grown) (hb1.mono (by first | (simp; done) | (simp; omega) | omega)); clear hb1))
      refine bodyPost_ret (by simp [results, Tryz.results85, go_sem, *]; try rfl) rfl ?_
      exact ⟨ret_agg_bool rfl rfl rfl rfl, (by first | (go_grown; done) | (refine below_drewN ?_ _; go_grown; done) | (refine (below_drewN _ ?_); go_grown; done))⟩
    · have e : Agg.aComb 6 ⟨ax, ay, az⟩ ⟨bx, by', bz⟩ = Agg.give (Agg.ok 6 (Agg.comb 6 ⟨ax, ay, az⟩ ⟨bx, by', bz⟩)) (Agg.comb 6 ⟨ax, ay, az⟩ ⟨bx, by', bz⟩) := by simp [Agg.aComb, Agg.valid, Agg.isKind, ha, hb]
      rw [e]
      go_enter Tryz.func85, Tryz.ntmps85
      go_wp2_with (first | (go_at_call 74; refine (kindOf_6 _).mono ?_; rintro e w1 ⟨rfl, rfl⟩) | (go_at_call 164; refine (valid_6 _ _ _ _).mono ?_; rintro e w1 ⟨rfl, hb1⟩; obtain ⟨hc1, hf1⟩ := bcell hb1; obtain ⟨hz0, hz1, hz2⟩ : w.heap.size < w1.heap.size ∧ w.heap.size + 1 < w1.heap.size ∧ w.heap.size + 1 + 1 < w1.heap.size := (by have hzz := hb1.size; (try simp at hzz); omega); have hB1 : Below w.heap.size w w1 := Below.trans (by go_grown) (hb1.mono (by first | (simp; done) | (simp; omega) | omega)); clear hb1) | (go_at_call 159; refine (combine_6 _ _ _ _ _ _ _ ha hb).mono ?_; rintro e w1 ⟨rfl, hb1⟩; obtain ⟨hc1, hf1⟩ := bcell hb1; obtain ⟨hz0, hz1, hz2⟩ : w.heap.size < w1.heap.size ∧ w.heap.size + 1 < w1.heap.size ∧ w.heap.size + 1 + 1 < w1.heap.size := (by have hzz := hb1.size; (try simp at hzz); omega); have hB1 : Below w.heap.size w w1 := Below.trans (by go_grown) (hb1.mono (by first | (simp; done) | (simp; omega) | omega)); clear hb1) | (go_at_call 94; refine (checked_6 _ _ _ _).mono ?_; rintro e w1 ⟨rfl, hb1⟩; obtain ⟨hc1, hf1⟩ := bcell hb1; obtain ⟨hz0, hz1, hz2⟩ : w.heap.size < w1.heap.size ∧ w.heap.size + 1 < w1.heap.size ∧ w.heap.size + 1 + 1 < w1.heap.size := (by have hzz := hb1.size; (try simp at hzz); omega); have hB1 : Below w.heap.size w w1 := Below.trans (by go_grown) (hb1.mono (by first | (simp; done) | (simp; omega) | omega)); clear hb1))
      refine bodyPost_ret (by simp [results, Tryz.results85, go_sem, *]; try rfl) rfl ?_
      exact ⟨rfl, (by first | (go_grown; done) | (refine below_drewN ?_ _; go_grown; done) | (refine (below_drewN _ ?_); go_grown; done))⟩

theorem kindValid_6 (w : World) : Calls Tryz.prog 43 #[.int .i64 6] w fun e w' => e = .returned (.bool true) ∧ w = w' := by
  go_enter Tryz.func43, Tryz.ntmps43
  go_wp2_with (go_at_call 74; refine (kindOf_6 _).mono ?_; rintro e w1 ⟨rfl, rfl⟩)
  go_returns
  exact ⟨rfl, rfl⟩

theorem valueValid_6 (x y z : Int) (w : World) :
    Calls Tryz.prog 92 #[.int .i64 6, .agg #[.int .i64 x, .int .i64 y, .int .i64 z]] w fun e w' => e = .returned (.bool (Agg.valid 6 ⟨x, y, z⟩)) ∧ Below w.heap.size w w' := by
  go_enter Tryz.func92, Tryz.ntmps92
  go_wp2_with (first | (go_at_call 74; refine (kindOf_6 _).mono ?_; rintro e w1 ⟨rfl, rfl⟩) | (go_at_call 164; refine (valid_6 _ _ _ _).mono ?_; rintro e w1 ⟨rfl, hb1⟩; obtain ⟨hc1, hf1⟩ := bcell hb1; obtain hz0 : w.heap.size < w1.heap.size := (by have hzz := hb1.size; (try simp at hzz); omega); have hB1 : Below w.heap.size w w1 := Below.trans (by go_grown) (hb1.mono (by first | (simp; done) | (simp; omega) | omega)); clear hb1))
  go_returns
  exact ⟨ret_bool (by simp [Agg.valid, Agg.isKind]), (by first | (go_grown; done) | (refine below_drewN ?_ _; go_grown; done) | (refine (below_drewN _ ?_); go_grown; done))⟩


theorem unitOf_6 (w : World) :
    Calls Tryz.prog 79 #[.int .i64 6] w fun e w' => e = .returned (.tuple #[.agg #[.int .i64 (Agg.aUnit 6).1.x, .int .i64 (Agg.aUnit 6).1.y, .int .i64 (Agg.aUnit 6).1.z], .bool (Agg.aUnit 6).2]) ∧ Below w.heap.size w w' := by
  have e : Agg.aUnit 6 = (Agg.unit 6, true) := by simp [Agg.aUnit, Agg.give, Agg.isKind]
  rw [e]
  go_enter Tryz.func79, Tryz.ntmps79
  go_wp2_with (first | (go_at_call 74; refine (kindOf_6 _).mono ?_; rintro e w1 ⟨rfl, rfl⟩) | (go_at_call 163; refine (unit_6 _).mono ?_; rintro e w1 ⟨rfl, hb1⟩; obtain ⟨hc1, hf1⟩ := bcell hb1; obtain hz0 : w.heap.size < w1.heap.size := (by have hzz := hb1.size; (try simp at hzz); omega); have hB1 : Below w.heap.size w w1 := Below.trans (by go_grown) (hb1.mono (by first | (simp; done) | (simp; omega) | omega)); clear hb1))
  refine bodyPost_ret (by simp [results, Tryz.results79, go_sem, *]; try rfl) rfl ?_
  exact ⟨rfl, (by first | (go_grown; done) | (refine below_drewN ?_ _; go_grown; done) | (refine (below_drewN _ ?_); go_grown; done))⟩


theorem lowerValue_6 (x y z : Int) (w : World) :
    Calls Tryz.prog 91 #[.int .i64 6, .agg #[.int .i64 x, .int .i64 y, .int .i64 z]] w fun e w' => e = .returned (.tuple #[.int .i64 (Agg.aLow 6 ⟨x, y, z⟩).1, .bool (Agg.aLow 6 ⟨x, y, z⟩).2]) ∧ Below w.heap.size w w' := by
  cases ha : Agg.ok 6 ⟨x, y, z⟩
  · have e : Agg.aLow 6 ⟨x, y, z⟩ = (0, false) := by simp [Agg.aLow, Agg.valid, ha]
    rw [e]
    go_enter Tryz.func91, Tryz.ntmps91
    go_wp2_with (first | (go_at_call 74; refine (kindOf_6 _).mono ?_; rintro e w1 ⟨rfl, rfl⟩) | (go_at_call 164; refine (valid_6 _ _ _ _).mono ?_; rintro e w1 ⟨rfl, hb1⟩; obtain ⟨hc1, hf1⟩ := bcell hb1; obtain hz0 : w.heap.size < w1.heap.size := (by have hzz := hb1.size; (try simp at hzz); omega); have hB1 : Below w.heap.size w w1 := Below.trans (by go_grown) (hb1.mono (by first | (simp; done) | (simp; omega) | omega)); clear hb1))
    go_returns
    exact ⟨rfl, (by first | (go_grown; done) | (refine below_drewN ?_ _; go_grown; done) | (refine (below_drewN _ ?_); go_grown; done))⟩
  · have e : Agg.aLow 6 ⟨x, y, z⟩ = Agg.low 6 ⟨x, y, z⟩ := Agg.aLow_of (by decide) ha
    rw [e]
    go_enter Tryz.func91, Tryz.ntmps91
    go_wp2_with (first | (go_at_call 74; refine (kindOf_6 _).mono ?_; rintro e w1 ⟨rfl, rfl⟩) | (go_at_call 164; refine (valid_6 _ _ _ _).mono ?_; rintro e w1 ⟨rfl, hb1⟩; obtain ⟨hc1, hf1⟩ := bcell hb1; obtain hz0 : w.heap.size < w1.heap.size := (by have hzz := hb1.size; (try simp at hzz); omega); have hB1 : Below w.heap.size w w1 := Below.trans (by go_grown) (hb1.mono (by first | (simp; done) | (simp; omega) | omega)); clear hb1) | (go_at_call 162; refine (lower_6 _ _ _ _ ha).mono ?_; rintro e w1 ⟨rfl, hb1⟩; obtain ⟨hc1, hf1⟩ := bcell hb1; obtain hz0 : w.heap.size < w1.heap.size := (by have hzz := hb1.size; (try simp at hzz); omega); have hB1 : Below w.heap.size w w1 := Below.trans (by go_grown) (hb1.mono (by first | (simp; done) | (simp; omega) | omega)); clear hb1))
    go_returns
    exact ⟨rfl, (by first | (go_grown; done) | (refine below_drewN ?_ _; go_grown; done) | (refine (below_drewN _ ?_); go_grown; done))⟩
end Go.Proofs.YtolgclajlklmaaaGreat
