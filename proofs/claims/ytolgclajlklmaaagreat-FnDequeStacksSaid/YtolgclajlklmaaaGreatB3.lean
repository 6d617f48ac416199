/-
  The exported functions of chapter 1 at some kinds, each against plain mathematics.
-/
import Derived.Test.YtolgclajlklmaaaGreatMa
import Derived.Test.YtolgclajlklmaaaGreatA2
namespace Go.Proofs.YtolgclajlklmaaaGreat
open Go.RowKit
set_option linter.unusedSimpArgs false
theorem checked_7 (x y z : Int) (w : World) :
    Calls Tryz.prog 94 #[.iface 162 (.agg #[]), .agg #[.int .i64 x, .int .i64 y, .int .i64 z]] w fun e w' => e = .returned (.tuple #[.agg #[.int .i64 (Agg.give (Agg.ok 7 ⟨x, y, z⟩) ⟨x, y, z⟩).1.x, .int .i64 (Agg.give (Agg.ok 7 ⟨x, y, z⟩) ⟨x, y, z⟩).1.y, .int .i64 (Agg.give (Agg.ok 7 ⟨x, y, z⟩) ⟨x, y, z⟩).1.z], .bool (Agg.give (Agg.ok 7 ⟨x, y, z⟩) ⟨x, y, z⟩).2]) ∧ Below w.heap.size w w' := by
  cases ha : Agg.ok 7 ⟨x, y, z⟩
  all_goals
    go_enter Tryz.func94, Tryz.ntmps94
    go_wp2_with (go_at_call 170; refine (valid_7 _ _ _ _).mono ?_; rintro e w1 ⟨rfl, hb1⟩; obtain ⟨hc1, hf1⟩ := bcell hb1; obtain ⟨hz0, hz1⟩ : w.heap.size < w1.heap.size ∧ w.heap.size + 1 < w1.heap.size := (by have hzz := hb1.size; (try simp at hzz); omega); have hB1 : Below w.heap.size w w1 := Below.trans (by go_grown) (hb1.mono (by first | (simp; done) | (simp; omega) | omega)); clear hb1)
    refine bodyPost_ret (by simp [results, Tryz.results94, go_sem, *]; try rfl) rfl ?_
    exact ⟨ret_agg_bool (by simp [Agg.give, Agg.zero]) (by simp [Agg.give, Agg.zero]) (by simp [Agg.give, Agg.zero]) (by simp [Agg.give]), (by first | (go_grown; done) | (refine below_drewN ?_ _; go_grown; done) | (refine (below_drewN _ ?_); go_grown; done))⟩

set_option maxHeartbeats 4000000 in
theorem combineValues_7 (ax ay az bx by' bz : Int) (w : World) :
    Calls Tryz.prog 85 #[.int .i64 7, .agg #[.int .i64 ax, .int .i64 ay, .int .i64 az], .agg #[.int .i64 bx, .int .i64 by', .int .i64 bz]] w fun e w' => e = .returned (.tuple #[.agg #[.int .i64 (Agg.aComb 7 ⟨ax, ay, az⟩ ⟨bx, by', bz⟩).1.x, .int .i64 (Agg.aComb 7 ⟨ax, ay, az⟩ ⟨bx, by', bz⟩).1.y, .int .i64 (Agg.aComb 7 ⟨ax, ay, az⟩ ⟨bx, by', bz⟩).1.z], .bool (Agg.aComb 7 ⟨ax, ay, az⟩ ⟨bx, by', bz⟩).2]) ∧ Below w.heap.size w w' := by
  cases ha : Agg.ok 7 ⟨ax, ay, az⟩
  · have e : Agg.aComb 7 ⟨ax, ay, az⟩ ⟨bx, by', bz⟩ = (Agg.zero, false) := by simp [Agg.aComb, Agg.give, Agg.valid, ha]
    rw [e]
    go_enter Tryz.func85, Tryz.ntmps85
    go_wp2_with (first | (go_at_call 74; refine (kindOf_7 _).mono ?_; rintro e w1 ⟨rfl, rfl⟩) | (go_at_call 170; refine (valid_7 _ _ _ _).mono ?_; rintro e w1 ⟨rfl, hb1⟩; obtain ⟨hc1, hf1⟩ := bcell hb1; obtain ⟨hz0, hz1, hz2⟩ : w.heap.size < w1.heap.size ∧ w.heap.size + 1 < w1.heap.size ∧ w.heap.size + 1 + 1 < w1.heap.size := (by have hzz := hb1.size; (try simp at hzz); omega); have hB1 : Below w.heap.size w w1 := Below.trans (by go_grown) (hb1.mono (by first | (simp; done) | (simp; omega) | omega)); clear hb1))
    refine bodyPost_ret (by simp [results, Tryz.results85, go_sem, *]; try rfl) rfl ?_
    exact ⟨ret_agg_bool rfl rfl rfl rfl, (by first | (go_grown; done) | (refine below_drewN ?_ _; go_grown; done) | (refine (below_drewN _ ?_); go_grown; done))⟩
  · cases hb : Agg.ok 7 ⟨bx, by', bz⟩
    · have e : Agg.aComb 7 ⟨ax, ay, az⟩ ⟨bx, by', bz⟩ = (Agg.zero, false) := by simp [Agg.aComb, Agg.give, Agg.valid, hb]
      rw [e]
      go_enter Tryz.func85, Tryz.ntmps85
      go_wp2_with (first | (go_at_call 74; refine (kindOf_7 _).mono ?_; rintro e w1 ⟨rfl, rfl⟩) | (go_at_call 170; refine (valid_7 _ _ _ _).mono ?_; rintro e w1 ⟨rfl, hb1⟩; obtain ⟨hc1, hf1⟩ := bcell hb1; obtain ⟨hz0, hz1, hz2⟩ : w.heap.size < w1.heap.size ∧ w.heap.size + 1 < w1.heap.size ∧ w.heap.size + 1 + 1 < w1.heap.size := (by have hzz := hb1.size; (try simp at hzz); omega); have hB1 : Below w.heap.size w w1 := Below.trans (by go_grown) (hb1.mono (by first | (simp; done) | (simp; omega) | omega)); clear hb1))
      refine bodyPost_ret (by simp [results, Tryz.results85, go_sem, *]; try rfl) rfl ?_
      exact ⟨ret_agg_bool rfl rfl rfl rfl, (by first | (go_grown; done) | (refine below_drewN ?_ _; go_grown; done) | (refine (below_drewN _ ?_); go_grown; done))⟩
    · have e : Agg.aComb 7 ⟨ax, ay, az⟩ ⟨bx, by', bz⟩ = Agg.give (Agg.ok 7 (Agg.comb 7 ⟨ax, ay, az⟩ ⟨bx, by', bz⟩)) (Agg.comb 7 ⟨ax, ay, az⟩ ⟨bx, by', bz⟩) := by simp [Agg.aComb, Agg.valid, Agg.isKind, ha, hb]
      rw [e]
      go_enter Tryz.func85, Tryz.ntmps85
      go_wp2_with (first | (go_at_call 74; refine (kindOf_7 _).mono ?_; rintro e w1 ⟨rfl, rfl⟩) | (go_at_call 170; refine (valid_7 _ _ _ _).mono ?_; rintro e w1 ⟨rfl, hb1⟩; obtain ⟨hc1, hf1⟩ := bcell hb1; obtain ⟨hz0, hz1, hz2⟩ : w.heap.size < w1.heap.size ∧ w.heap.size + 1 < w1.heap.size ∧ w.heap.size + 1 + 1 < w1.heap.size := (by have hzz := hb1.size; (try simp at hzz); omega); have hB1 : Below w.heap.size w w1 := Below.trans (by go_grown) (hb1.mono (by first | (simp; done) | (simp; omega) | omega)); clear hb1) | (go_at_call 165; refine (combine_7 _ _ _ _ _ _ _ ha hb).mono ?_; rintro e w1 ⟨rfl, hb1⟩; obtain ⟨hc1, hf1⟩ := bcell hb1; obtain ⟨hz0, hz1, hz2⟩ : w.heap.size < w1.heap.size ∧ w.heap.size + 1 < w1.heap.size ∧ w.heap.size + 1 + 1 < w1.heap.size := (by have hzz := hb1.size; (try simp at hzz); omega); have hB1 : Below w.heap.size w w1 := Below.trans (by go_grown) (hb1.mono (by first | (simp; done) | (simp; omega) | omega)); clear hb1) | (go_at_call 94; refine (checked_7 _ _ _ _).mono ?_; rintro e w1 ⟨rfl, hb1⟩; obtain ⟨hc1, hf1⟩ := bcell hb1; obtain ⟨hz0, hz1, hz2⟩ : w.heap.size < w1.heap.size ∧ w.heap.size + 1 < w1.heap.size ∧ w.heap.size + 1 + 1 < w1.heap.size := (by have hzz := hb1.size; (try simp at hzz); omega); have hB1 : Below w.heap.size w w1 := Below.trans (by go_grown) (hb1.mono (by first | (simp; done) | (simp; omega) | omega)); clear hb1))
      refine bodyPost_ret (by simp [results, Tryz.results85, go_sem, *]; try rfl) rfl ?_
      exact ⟨rfl, (by first | (go_grown; done) | (refine below_drewN ?_ _; go_grown; done) | (refine (below_drewN _ ?_); go_grown; done))⟩

theorem kindValid_7 (w : World) : Calls Tryz.prog 43 #[.int .i64 7] w fun e w' => e = .returned (.bool true) ∧ w = w' := by
  go_enter Tryz.func43, Tryz.ntmps43
  go_wp2_with (go_at_call 74; refine (kindOf_7 _).mono ?_; rintro e w1 ⟨rfl, rfl⟩)
  go_returns
  exact ⟨rfl, rfl⟩

theorem valueValid_7 (x y z : Int) (w : World) :
    Calls Tryz.prog 92 #[.int .i64 7, .agg #[.int .i64 x, .int .i64 y, .int .i64 z]] w fun e w' => e = .returned (.bool (Agg.valid 7 ⟨x, y, z⟩)) ∧ Below w.heap.size w w' := by
  go_enter Tryz.func92, Tryz.ntmps92
  go_wp2_with (first | (go_at_call 74; refine (kindOf_7 _).mono ?_; rintro e w1 ⟨rfl, rfl⟩) | (go_at_call 170; refine (valid_7 _ _ _ _).mono ?_; rintro e w1 ⟨rfl, hb1⟩; obtain ⟨hc1, hf1⟩ := bcell hb1; obtain hz0 : w.heap.size < w1.heap.size := (by have hzz := hb1.size; (try simp at hzz); omega); have hB1 : Below w.heap.size w w1 := Below.trans (by go_grown) (hb1.mono (by first | (simp; done) | (simp; omega) | omega)); clear hb1))
  go_returns
  exact ⟨ret_bool (by simp [Agg.valid, Agg.isKind]), (by first | (go_grown; done) | (refine below_drewN ?_ _; go_grown; done) | (refine (below_drewN _ ?_); go_grown; done))⟩


theorem unitOf_7 (w : World) :
    Calls Tryz.prog 79 #[.int .i64 7] w fun e w' => e = .returned (.tuple #[.agg #[.int .i64 (Agg.aUnit 7).1.x, .int .i64 (Agg.aUnit 7).1.y, .int .i64 (Agg.aUnit 7).1.z], .bool (Agg.aUnit 7).2]) ∧ Below w.heap.size w w' := by
  have e : Agg.aUnit 7 = (Agg.unit 7, true) := by simp [Agg.aUnit, Agg.give, Agg.isKind]
  rw [e]
  go_enter Tryz.func79, Tryz.ntmps79
  go_wp2_with (first | (go_at_call 74; refine (kindOf_7 _).mono ?_; rintro e w1 ⟨rfl, rfl⟩) | (go_at_call 169; refine (unit_7 _).mono ?_; rintro e w1 ⟨rfl, hb1⟩; obtain ⟨hc1, hf1⟩ := bcell hb1; obtain hz0 : w.heap.size < w1.heap.size := (by have hzz := hb1.size; (try simp at hzz); omega); have hB1 : Below w.heap.size w w1 := Below.trans (by go_grown) (hb1.mono (by first | (simp; done) | (simp; omega) | omega)); clear hb1))
  refine bodyPost_ret (by simp [results, Tryz.results79, go_sem, *]; try rfl) rfl ?_
  exact ⟨rfl, (by first | (go_grown; done) | (refine below_drewN ?_ _; go_grown; done) | (refine (below_drewN _ ?_); go_grown; done))⟩


theorem lowerValue_7 (x y z : Int) (w : World) :
    Calls Tryz.prog 91 #[.int .i64 7, .agg #[.int .i64 x, .int .i64 y, .int .i64 z]] w fun e w' => e = .returned (.tuple #[.int .i64 (Agg.aLow 7 ⟨x, y, z⟩).1, .bool (Agg.aLow 7 ⟨x, y, z⟩).2]) ∧ Below w.heap.size w w' := by
  cases ha : Agg.ok 7 ⟨x, y, z⟩
  · have e : Agg.aLow 7 ⟨x, y, z⟩ = (0, false) := by simp [Agg.aLow, Agg.valid, ha]
    rw [e]
    go_enter Tryz.func91, Tryz.ntmps91
    go_wp2_with (first | (go_at_call 74; refine (kindOf_7 _).mono ?_; rintro e w1 ⟨rfl, rfl⟩) | (go_at_call 170; refine (valid_7 _ _ _ _).mono ?_; rintro e w1 ⟨rfl, hb1⟩; obtain ⟨hc1, hf1⟩ := bcell hb1; obtain hz0 : w.heap.size < w1.heap.size := (by have hzz := hb1.size; (try simp at hzz); omega); have hB1 : Below w.heap.size w w1 := Below.trans (by go_grown) (hb1.mono (by first | (simp; done) | (simp; omega) | omega)); clear hb1))
    go_returns
    exact ⟨rfl, (by first | (go_grown; done) | (refine below_drewN ?_ _; go_grown; done) | (refine (below_drewN _ ?_); go_grown; done))⟩
  · have e : Agg.aLow 7 ⟨x, y, z⟩ = Agg.low 7 ⟨x, y, z⟩ := Agg.aLow_of (by decide) ha
    rw [e]
    go_enter Tryz.func91, Tryz.ntmps91
    go_wp2_with (first | (go_at_call 74; refine (kindOf_7 _).mono ?_; rintro e w1 ⟨rfl, rfl⟩) | (go_at_call 170; refine (valid_7 _ _ _ _).mono ?_; rintro e w1 ⟨rfl, hb1⟩; obtain ⟨hc1, hf1⟩ := bcell hb1; obtain hz0 : w.heap.size < w1.heap.size := (by have hzz := hb1.size; (try simp at hzz); omega); have hB1 : Below w.heap.size w w1 := Below.trans (by go_grown) (hb1.mono (by first | (simp; done) | (simp; omega) | omega)); clear hb1) | (go_at_call 168; refine (lower_7 _ _ _ _ ha).mono ?_; rintro e w1 ⟨rfl, hb1⟩; obtain ⟨hc1, hf1⟩ := bcell hb1; obtain hz0 : w.heap.size < w1.heap.size := (by have hzz := hb1.size; (try simp at hzz); omega); have hB1 : Below w.heap.size w w1 := Below.trans (by go_grown) (hb1.mono (by first | (simp; done) | (simp; omega) | omega)); clear hb1))
    go_returns
    exact ⟨rfl, (by first | (go_grown; done) | (refine below_drewN ?_ _; go_grown; done) | (refine (below_drewN _ ?_); go_grown; done))⟩
theorem checked_8 (x y z : Int) (w : World) :
    Calls Tryz.prog 94 #[.iface 163 (.agg #[]), .agg #[.int .i64 x, .int .i64 y, .int .i64 z]] w fun e w' => e = .returned (.tuple #[.agg #[.int .i64 (Agg.give (Agg.ok 8 ⟨x, y, z⟩) ⟨x, y, z⟩).1.x, .int .i64 (Agg.give (Agg.ok 8 ⟨x, y, z⟩) ⟨x, y, z⟩).1.y, .int .i64 (Agg.give (Agg.ok 8 ⟨x, y, z⟩) ⟨x, y, z⟩).1.z], .bool (Agg.give (Agg.ok 8 ⟨x, y, z⟩) ⟨x, y, z⟩).2]) ∧ Below w.heap.size w w' := by
  cases ha : Agg.ok 8 ⟨x, y, z⟩
  all_goals
    go_enter Tryz.func94, Tryz.ntmps94
    go_wp2_with (go_at_call 176; refine (valid_8 _ _ _ _).mono ?_; rintro e w1 ⟨rfl, hb1⟩; obtain ⟨hc1, hf1⟩ := bcell hb1; obtain ⟨hz0, hz1⟩ : w.heap.size < w1.heap.size ∧ w.heap.size + 1 < w1.heap.size := (by have hzz := hb1.size; (try simp at hzz); omega); have hB1 : Below w.heap.size w w1 := Below.trans (by go_grown) (hb1.mono (by first | (simp; done) | (simp; omega) | omega)); clear hb1)
    refine bodyPost_ret (by simp [results, Tryz.results94, go_sem, *]; try rfl) rfl ?_
    exact ⟨ret_agg_bool (by simp [Agg.give, Agg.zero]) (by simp [Agg.give, Agg.zero]) (by simp [Agg.give, Agg.zero]) (by simp [Agg.give]), (by first | (go_grown; done) | (refine below_drewN ?_ _; go_grown; done) | (refine (below_drewN _ ?_); go_grown; done))⟩

set_option maxHeartbeats 4000000 in
theorem combineValues_8 (ax ay az bx by' bz : Int) (w : World) :
    Calls Tryz.prog 85 #[.int .i64 8, .agg #[.int .i64 ax, .int .i64 ay, .int .i64 az], .agg #[.int .i64 bx, .int .i64 by', .int .i64 bz]] w fun e w' => e = .returned (.tuple #[.agg #[.int .i64 (Agg.aComb 8 ⟨ax, ay, az⟩ ⟨bx, by', bz⟩).1.x, .int .i64 (Agg.aComb 8 ⟨ax, ay, az⟩ ⟨bx, by', bz⟩).1.y, .int .i64 (Agg.aComb 8 ⟨ax, ay, az⟩ ⟨bx, by', bz⟩).1.z], .bool (Agg.aComb 8 ⟨ax, ay, az⟩ ⟨bx, by', bz⟩).2]) ∧ Below w.heap.size w w' := by
  cases ha : Agg.ok 8 ⟨ax, ay, az⟩
  · have e : Agg.aComb 8 ⟨ax, ay, az⟩ ⟨bx, by', bz⟩ = (Agg.zero, false) := by simp [Agg.aComb, Agg.give, Agg.valid, ha]
    rw [e]
    go_enter Tryz.func85, Tryz.ntmps85
    go_wp2_with (first | (go_at_call 74; refine (kindOf_8 _).mono ?_; rintro e w1 ⟨rfl, rfl⟩) | (go_at_call 176; refine (valid_8 _ _ _ _).mono ?_; rintro e w1 ⟨rfl, hb1⟩; obtain ⟨hc1, hf1⟩ := bcell hb1; obtain ⟨hz0, hz1, hz2⟩ : w.heap.size < w1.heap.size ∧ w.heap.size + 1 < w1.heap.size ∧ w.heap.size + 1 + 1 < w1.heap.size := (by have hzz := hb1.size; (try simp at hzz); omega); have hB1 : Below w.heap.size w w1 := Below.trans (by go_grown) (hb1.mono (by first | (simp; done) | (simp; omega) | omega)); clear hb1))
    refine bodyPost_ret (by simp [results, Tryz.results85, go_sem, *]; try rfl) rfl ?_
    exact ⟨ret_agg_bool rfl rfl rfl rfl, (by first | (go_grown; done) | (refine below_drewN ?_ _; go_grown; done) | (refine (below_drewN _ ?_); go_grown; done))⟩
  · cases hb : Agg.ok 8 ⟨bx, by', bz⟩
    · have e : Agg.aComb 8 ⟨ax, ay, az⟩ ⟨bx, by', bz⟩ = (Agg.zero, false) := by simp [Agg.aComb, Agg.give, Agg.valid, hb]
      rw [e]
      go_enter Tryz.func85, Tryz.ntmps85
      go_wp2_with (first | (go_at_call 74; refine (kindOf_8 _).mono ?_; rintro e w1 ⟨rfl, rfl⟩) | (go_at_call 176; refine (valid_8 _ _ _ _).mono ?_; rintro e w1 ⟨rfl, hb1⟩; obtain ⟨hc1, hf1⟩ := bcell hb1; obtain ⟨hz0, hz1, hz2⟩ : w.heap.size < w1.heap.size ∧ w.heap.size + 1 < w1.heap.size ∧ w.heap.size + 1 + 1 < w1.heap.size := (by have hzz := hb1.size; (try simp at hzz); omega); have hB1 : Below w.heap.size w w1 := Below.trans (by go_grown) (hb1.mono (by first | (simp; done) | (simp; omega) | omega)); clear hb1))
      refine bodyPost_ret (by simp [results, Tryz.results85, go_sem, *]; try rfl) rfl ?_
      exact ⟨ret_agg_bool rfl rfl rfl rfl, (by first | (go_grown; done) | (refine below_drewN ?_ _; go_grown; done) | (refine (below_drewN _ ?_); go_grown; done))⟩
    · have e : Agg.aComb 8 ⟨ax, ay, az⟩ ⟨bx, by', bz⟩ = Agg.give (Agg.ok 8 (Agg.comb 8 ⟨ax, ay, az⟩ ⟨bx, by', bz⟩)) (Agg.comb 8 ⟨ax, ay, az⟩ ⟨bx, by', bz⟩) := by simp [Agg.aComb, Agg.valid, Agg.isKind, ha, hb]
      rw [e]
      go_enter Tryz.func85, Tryz.ntmps85
      go_wp2_with (first | (go_at_call 74; refine (kindOf_8 _).mono ?_; rintro e w1 ⟨rfl, rfl⟩) | (go_at_call 176; refine (valid_8 _ _ _ _).mono ?_; rintro e w1 ⟨rfl, hb1⟩; obtain ⟨hc1, hf1⟩ := bcell hb1; obtain ⟨hz0, hz1, hz2⟩ : w.heap.size < w1.heap.size ∧ w.heap.size + 1 < w1.heap.size ∧ w.heap.size + 1 + 1 < w1.heap.size := (by have hzz := hb1.size; (try simp at hzz); omega); have hB1 : Below w.heap.size w w1 := Below.trans (by go_grown) (hb1.mono (by first | (simp; done) | (simp; omega) | omega)); clear hb1) | (go_at_call 171; refine (combine_8 _ _ _ _ _ _ _ ha hb).mono ?_; rintro e w1 ⟨rfl, hb1⟩; obtain ⟨hc1, hf1⟩ := bcell hb1; obtain ⟨hz0, hz1, hz2⟩ : w.heap.size < w1.heap.size ∧ w.heap.size + 1 < w1.heap.size ∧ w.heap.size + 1 + 1 < w1.heap.size := (by have hzz := hb1.size; (try simp at hzz); omega); have hB1 : Below w.heap.size w w1 := Below.trans (by go_grown) (hb1.mono (by first | (simp; done) | (simp; omega) | omega)); clear hb1) | (go_at_call 94; refine (checked_8 _ _ _ _).mono ?_; rintro e w1 ⟨rfl, hb1⟩; obtain ⟨hc1, hf1⟩ := bcell hb1; obtain ⟨hz0, hz1, hz2⟩ : w.heap.size < w1.heap.size ∧ w.heap.size + 1 < w1.heap.size ∧ w.heap.size + 1 + 1 < w1.heap.size := (by have hzz := hb1.size; (try simp at hzz); omega); have hB1 : Below w.heap.size w w1 := Below.trans (by go_grown) (hb1.mono (by first | (simp; done) | (simp; omega) | omega)); clear hb1))
      refine bodyPost_ret (by simp [results, Tryz.results85, go_sem, *]; try rfl) rfl ?_
      exact ⟨rfl, (by first | (go_grown; done) | (refine below_drewN ?_ _; go_grown; done) | (refine (below_drewN _ ?_); go_grown; done))⟩

theorem kindValid_8 (w : World) : Calls Tryz.prog 43 #[.int .i64 8] w fun e w' => e = .returned (.bool true) ∧ w = w' := by
  go_enter Tryz.func43, Tryz.ntmps43
  go_wp2_with (go_at_call 74; refine (kindOf_8 _).mono ?_; rintro e w1 ⟨rfl, rfl⟩)
  go_returns
  exact ⟨rfl, rfl⟩

theorem valueValid_8 (x y z : Int) (w : World) :
    Calls Tryz.prog 92 #[.int .i64 8, .agg #[.int .i64 x, .int .i64 y, .int .i64 z]] w fun e w' => e = .returned (.bool (Agg.valid 8 ⟨x, y, z⟩)) ∧ Below w.heap.size w w' := by
  go_enter Tryz.func92, Tryz.ntmps92
  go_wp2_with (first | (go_at_call 74; refine (kindOf_8 _).mono ?_; rintro e w1 ⟨rfl, rfl⟩) | (go_at_call 176; refine (valid_8 _ _ _ _).mono ?_; rintro e w1 ⟨rfl, hb1⟩; obtain ⟨hc1, hf1⟩ := bcell hb1; obtain hz0 : w.heap.size < w1.heap.size := (by have hzz := hb1.size; (try simp at hzz); omega); have hB1 : Below w.heap.size w w1 := Below.trans (by go_grown) (hb1.mono (by first | (simp; done) | (simp; omega) | omega)); clear hb1))
  go_returns
  exact ⟨ret_bool (by simp [Agg.valid, Agg.isKind]), (by first | (go_grown; done) | (refine below_drewN ?_ _; go_grown; done) | (refine (below_drewN _ ?_); go_grown; done))⟩


theorem unitOf_8 (w : World) :
    Calls Tryz.prog 79 #[.int .i64 8] w fun e w' => e = .returned (.tuple #[.agg #[.int .i64 (Agg.aUnit 8).1.x, .int .i64 (Agg.aUnit 8).1.y, .int .i64 (Agg.aUnit 8).1.z], .bool (Agg.aUnit 8).2]) ∧ Below w.heap.size w w' := by
  have e : Agg.aUnit 8 = (Agg.unit 8, true) := by simp [Agg.aUnit, Agg.give, Agg.isKind]
  rw [e]
  go_enter Tryz.func79, Tryz.ntmps79
  go_wp2_with (first | (go_at_call 74; refine (kindOf_8 _).mono ?_; rintro e w1 ⟨rfl, rfl⟩) | (go_at_call 175; refine (unit_8 _).mono ?_; rintro e w1 ⟨rfl, hb1⟩; obtain ⟨hc1, hf1⟩ := bcell hb1; obtain hz0 : w.heap.size < w1.heap.size := (by have hzz := hb1.size; (try simp at hzz); omega); have hB1 : Below w.heap.size w w1 := Below.trans (by go_grown) (hb1.mono (by first | (simp; done) | (simp; omega) | omega)); clear hb1))
  refine bodyPost_ret (by simp [results, Tryz.results79, go_sem, *]; try rfl) rfl ?_
  exact ⟨rfl, (by first | (go_grown; done) | (refine below_drewN ?_ _; go_grown; done) | (refine (below_drewN _ ?_); go_grown; done))⟩


theorem lowerValue_8 (x y z : Int) (w : World) :
    Calls Tryz.prog 91 #[.int .i64 8, .agg #[.int .i64 x, .int .i64 y, .int .i64 z]] w fun e w' => e = .returned (.tuple #[.int .i64 (Agg.aLow 8 ⟨x, y, z⟩).1, .bool (Agg.aLow 8 ⟨x, y, z⟩).2]) ∧ Below w.heap.size w w' := by
  cases ha : Agg.ok 8 ⟨x, y, z⟩
  · have e : Agg.aLow 8 ⟨x, y, z⟩ = (0, false) := by simp [Agg.aLow, Agg.valid, ha]
    rw [e]
    go_enter Tryz.func91, Tryz.ntmps91
    go_wp2_with (first | (go_at_call 74; refine (kindOf_8 _).mono ?_; rintro e w1 ⟨rfl, rfl⟩) | (go_at_call 176; refine (valid_8 _ _ _ _).mono ?_; rintro e w1 ⟨rfl, hb1⟩; obtain ⟨hc1, hf1⟩ := bcell hb1; obtain hz0 : w.heap.size < w1.heap.size := (by have hzz := hb1.size; (try simp at hzz); omega); have hB1 : Below w.heap.size w w1 := Below.trans (by go_grown) (hb1.mono (by first | (simp; done) | (simp; omega) | omega)); clear hb1))
    go_returns
    exact ⟨rfl, (by first | (go_grown; done) | (refine below_drewN ?_ _; go_grown; done) | (refine (below_drewN _ ?_); go_grown; done))⟩
  · have e : Agg.aLow 8 ⟨x, y, z⟩ = Agg.low 8 ⟨x, y, z⟩ := Agg.aLow_of (by decide) ha
    rw [e]
    go_enter Tryz.func91, Tryz.ntmps91
    go_wp2_with (first | (go_at_call 74; refine (kindOf_8 _).mono ?_; rintro e w1 ⟨rfl, rfl⟩) | (go_at_call 176; refine (valid_8 _ _ _ _).mono ?_; rintro e w1 ⟨rfl, hb1⟩; obtain ⟨hc1, hf1⟩ := bcell hb1; obtain hz0 : w.heap.size < w1.heap.size := (by have hzz := hb1.size; (try simp at hzz); omega); have hB1 : Below w.heap.size w w1 := Below.trans (by go_grown) (hb1.mono (by first | (simp; done) | (simp; omega) | omega)); clear hb1) | (go_at_call 174; refine (lower_8 _ _ _ _ ha).mono ?_; rintro e w1 ⟨rfl, hb1⟩; obtain ⟨hc1, hf1⟩ := bcell hb1; obtain hz0 : w.heap.size < w1.heap.size := (by have hzz := hb1.size; (try simp at hzz); omega); have hB1 : Below w.heap.size w w1 := Below.trans (by go_grown) (hb1.mono (by first | (simp; done) | (simp; omega) | omega)); clear hb1))
    go_returns
    exact ⟨rfl, (by first | (go_grown; done) | (refine below_drewN ?_ _; go_grown; done) | (refine (below_drewN _ ?_); go_grown; done))⟩
end Go.Proofs.YtolgclajlklmaaaGreat
