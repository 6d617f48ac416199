/-
  The exported functions of chapter 1 at some kinds, each against plain mathematics.
-/
import Derived.Test.YtolgclajlklmaaaGreatMa
import Derived.Test.YtolgclajlklmaaaGreatA1
namespace Go.Proofs.YtolgclajlklmaaaGreat
open Go.RowKit
set_option linter.unusedSimpArgs false
theorem checked_1 (x y z : Int) (w : World) :
    Calls Tryz.prog 94 #[.iface 150 (.agg #[]), .agg #[.int .i64 x, .int .i64 y, .int .i64 z]] w fun e w' => e = .returned (.tuple #[.agg #[.int .i64 (Agg.give (Agg.ok 1 ⟨x, y, z⟩) ⟨x, y, z⟩).1.x, .int .i64 (Agg.give (Agg.ok 1 ⟨x, y, z⟩) ⟨x, y, z⟩).1.y, .int .i64 (Agg.give (Agg.ok 1 ⟨x, y, z⟩) ⟨x, y, z⟩).1.z], .bool (Agg.give (Agg.ok 1 ⟨x, y, z⟩) ⟨x, y, z⟩).2]) ∧ Below w.heap.size w w' := by
  cases ha : Agg.ok 1 ⟨x, y, z⟩
  all_goals
    go_enter Tryz.func94, Tryz.ntmps94
    go_wp2_with (go_at_call 130; refine (valid_1 _ _ _ _).mono ?_; rintro e w1 ⟨rfl, hb1⟩; obtain ⟨hc1, hf1⟩ := bcell hb1; obtain ⟨hz0, hz1⟩ : w.heap.size < w1.heap.size ∧ w.heap.size + 1 < w1.heap.size := (by have hzz := hb1.size; (try simp at hzz); omega); have hB1 : Below w.heap.size w w1 := Below.trans (by go_grown) (hb1.mono (by first | (simp; done) | (simp; omega) | omega)); clear hb1)
    refine bodyPost_ret (by simp [results, Tryz.results94, go_sem, *]; try rfl) rfl ?_
    exact ⟨ret_agg_bool (by simp [Agg.give, Agg.zero]) (by simp [Agg.give, Agg.zero]) (by simp [Agg.give, Agg.zero]) (by simp [Agg.give]), (by first | (go_grown; done) | (refine below_drewN ?_ _; go_grown; done) | (refine (below_drewN _ ?_); go_grown; done))⟩

set_option maxHeartbeats 4000000 in
theorem combineValues_1 (ax ay az bx by' bz : Int) (w : World) :
    Calls Tryz.prog 85 #[.int .i64 1, .agg #[.int .i64 ax, .int .i64 ay, .int .i64 az], .agg #[.int .i64 bx, .int .i64 by', .int .i64 bz]] w fun e w' => e = .returned (.tuple #[.agg #[.int .i64 (Agg.aComb 1 ⟨ax, ay, az⟩ ⟨bx, by', bz⟩).1.x, .int .i64 (Agg.aComb 1 ⟨ax, ay, az⟩ ⟨bx, by', bz⟩).1.y, .int .i64 (Agg.aComb 1 ⟨ax, ay, az⟩ ⟨bx, by', bz⟩).1.z], .bool (Agg.aComb 1 ⟨ax, ay, az⟩ ⟨bx, by', bz⟩).2]) ∧ Below w.heap.size w w' := by
  cases ha : Agg.ok 1 ⟨ax, ay, az⟩
  · have e : Agg.aComb 1 ⟨ax, ay, az⟩ ⟨bx, by', bz⟩ = (Agg.zero, false) := by simp [Agg.aComb, Agg.give, Agg.valid, ha]
    rw [e]
    go_enter Tryz.func85, Tryz.ntmps85
    go_wp2_with (first | (go_at_call 74; refine (kindOf_1 _).mono ?_; rintro e w1 ⟨rfl, rfl⟩) | (go_at_call 130; refine (valid_1 _ _ _ _).mono ?_; rintro e w1 ⟨rfl, hb1⟩; obtain ⟨hc1, hf1⟩ := bcell hb1; obtain ⟨hz0, hz1, hz2⟩ : w.heap.size < w1.heap.size ∧ w.heap.size + 1 < w1.heap.size ∧ w.heap.size + 1 + 1 < w1.heap.size := (by have hzz := hb1.size; (try simp at hzz); omega); have hB1 : Below w.heap.size w w1 := Below.trans (by go_grown) (hb1.mono (by first | (simp; done) | (simp; omega) | omega)); clear hb1))
    refine bodyPost_ret (by simp [results, Tryz.results85, go_sem, *]; try rfl) rfl ?_
    exact ⟨ret_agg_bool rfl rfl rfl rfl, (by first | (go_grown; done) | (refine below_drewN ?_ _; go_grown; done) | (refine (below_drewN _ ?_); go_grown; done))⟩
  · cases hb : Agg.ok 1 ⟨bx, by', bz⟩
    · have e : Agg.aComb 1 ⟨ax, ay, az⟩ ⟨bx, by', bz⟩ = (Agg.zero, false) := by simp [Agg.aComb, Agg.give, Agg.valid, hb]
      rw [e]
      go_enter Tryz.func85, Tryz.ntmps85
      go_wp2_with (first | (go_at_call 74; refine (kindOf_1 _).mono ?_; rintro e w1 ⟨rfl, rfl⟩) | (go_at_call 130; refine (valid_1 _ _ _ _).mono ?_; rintro e w1 ⟨rfl, hb1⟩; obtain ⟨hc1, hf1⟩ := bcell hb1; obtain ⟨hz0, hz1, hz2⟩ : w.heap.size < w1.heap.size ∧ w.heap.size + 1 < w1.heap.size ∧ w.heap.size + 1 + 1 < w1.heap.size := (by have hzz := hb1.size; (try simp at hzz); omega); have hB1 : Below w.heap.size w w1 := Below.trans (by go_grown) (hb1.mono (by first | (simp; done) | (simp; omega) | omega)); clear hb1))
      refine bodyPost_ret (by simp [results, Tryz.results85, go_sem, *]; try rfl) rfl ?_
      exact ⟨ret_agg_bool rfl rfl rfl rfl, (by first | (go_grown; done) | (refine below_drewN ?_ _; go_grown; done) | (refine (below_drewN _ ?_); go_grown; done))⟩
    · have e : Agg.aComb 1 ⟨ax, ay, az⟩ ⟨bx, by', bz⟩ = Agg.give (Agg.ok 1 (Agg.comb 1 ⟨ax, ay, az⟩ ⟨bx, by', bz⟩)) (Agg.comb 1 ⟨ax, ay, az⟩ ⟨bx, by', bz⟩) := by simp [Agg.aComb, Agg.valid, Agg.isKind, ha, hb]
      rw [e]
      go_enter Tryz.func85, Tryz.ntmps85
      go_wp2_with (first | (go_at_call 74; refine (kindOf_1 _).mono ?_; rintro e w1 ⟨rfl, rfl⟩) | (go_at_call 130; refine (valid_1 _ _ _ _).mono ?_; rintro e w1 ⟨rfl, hb1⟩; obtain ⟨hc1, hf1⟩ := bcell hb1; obtain ⟨hz0, hz1, hz2⟩ : w.heap.size < w1.heap.size ∧ w.heap.size + 1 < w1.heap.size ∧ w.heap.size + 1 + 1 < w1.heap.size := (by have hzz := hb1.size; (try simp at hzz); omega); have hB1 : Below w.heap.size w w1 := Below.trans (by go_grown) (hb1.mono (by first | (simp; done) | (simp; omega) | omega)); clear hb1) | (go_at_call 125; refine (combine_1 _ _ _ _ _ _ _ ha hb).mono ?_; rintro e w1 ⟨rfl, hb1⟩; obtain ⟨hc1, hf1⟩ := bcell hb1; obtain ⟨hz0, hz1, hz2⟩ : w.heap.size < w1.heap.size ∧ w.heap.size + 1 < w1.heap.size ∧ w.heap.size + 1 + 1 < w1.heap.size := (by have hzz := hb1.size; (try simp at hzz); omega); have hB1 : Below w.heap.size w w1 := Below.trans (by go_grown) (hb1.mono (by first | (simp; done) | (simp; omega) | omega)); clear hb1) | (go_at_call 94; refine (checked_1 _ _ _ _).mono ?_; rintro e w1 ⟨rfl, hb1⟩; obtain ⟨hc1, hf1⟩ := bcell hb1; obtain ⟨hz0, hz1, hz2⟩ : w.heap.size < w1.heap.size ∧ w.heap.size + 1 < w1.heap.size ∧ w.heap.size + 1 + 1 < w1.heap.size := (by have hzz := hb1.size; (try simp at hzz); omega); have hB1 : Below w.heap.size w w1 := Below.trans (by go_grown) (hb1.mono (by first | (simp; done) | (simp; omega) | omega)); clear hb1))
      refine bodyPost_ret (by simp [results, Tryz.results85, go_sem, *]; try rfl) rfl ?_
      exact ⟨rfl, (by first | (go_grown; done) | (refine below_drewN ?_ _; go_grown; done) | (refine (below_drewN _ ?_); go_grown; done))⟩

theorem kindValid_1 (w : World) : Calls Tryz.prog 43 #[.int .i64 1] w fun e w' => e = .returned (.bool true) ∧ w = w' := by
  go_enter Tryz.func43, Tryz.ntmps43
  go_wp2_with (go_at_call 74; refine (kindOf_1 _).mono ?_; rintro e w1 ⟨rfl, rfl⟩)
  go_returns
  exact ⟨rfl, rfl⟩

theorem valueValid_1 (x y z : Int) (w : World) :
    Calls Tryz.prog 92 #[.int .i64 1, .agg #[.int .i64 x, .int .i64 y, .int .i64 z]] w fun e w' => e = .returned (.bool (Agg.valid 1 ⟨x, y, z⟩)) ∧ Below w.heap.size w w' := by
  go_enter Tryz.func92, Tryz.ntmps92
  go_wp2_with (first | (go_at_call 74; refine (kindOf_1 _).mono ?_; rintro e w1 ⟨rfl, rfl⟩) | (go_at_call 130; refine (valid_1 _ _ _ _).mono ?_; rintro e w1 ⟨rfl, hb1⟩; obtain ⟨hc1, hf1⟩ := bcell hb1; obtain hz0 : w.heap.size < w1.heap.size := (by have hzz := hb1.size; (try simp at hzz); omega); have hB1 : Below w.heap.size w w1 := Below.trans (by go_grown) (hb1.mono (by first | (simp; done) | (simp; omega) | omega)); clear hb1))
  go_returns
  exact ⟨ret_bool (by simp [Agg.valid, Agg.isKind]), (by first | (go_grown; done) | (refine below_drewN ?_ _; go_grown; done) | (refine (below_drewN _ ?_); go_grown; done))⟩


theorem unitOf_1 (w : World) :
    Calls Tryz.prog 79 #[.int .i64 1] w fun e w' => e = .returned (.tuple #[.agg #[.int .i64 (Agg.aUnit 1).1.x, .int .i64 (Agg.aUnit 1).1.y, .int .i64 (Agg.aUnit 1).1.z], .bool (Agg.aUnit 1).2]) ∧ Below w.heap.size w w' := by
  have e : Agg.aUnit 1 = (Agg.unit 1, true) := by simp [Agg.aUnit, Agg.give, Agg.isKind]
  rw [e]
  go_enter Tryz.func79, Tryz.ntmps79
  go_wp2_with (first | (go_at_call 74; refine (kindOf_1 _).mono ?_; rintro e w1 ⟨rfl, rfl⟩) | (go_at_call 129; refine (unit_1 _).mono ?_; rintro e w1 ⟨rfl, hb1⟩; obtain ⟨hc1, hf1⟩ := bcell hb1; obtain hz0 : w.heap.size < w1.heap.size := (by have hzz := hb1.size; (try simp at hzz); omega); have hB1 : Below w.heap.size w w1 := Below.trans (by go_grown) (hb1.mono (by first | (simp; done) | (simp; omega) | omega)); clear hb1))
  refine bodyPost_ret (by simp [results, Tryz.results79, go_sem, *]; try rfl) rfl ?_
  exact ⟨rfl, (by first | (go_grown; done) | (refine below_drewN ?_ _; go_grown; done) | (refine (below_drewN _ ?_); go_grown; done))⟩


theorem lowerValue_1 (x y z : Int) (w : World) :
    Calls Tryz.prog 91 #[.int .i64 1, .agg #[.int .i64 x, .int .i64 y, .int .i64 z]] w fun e w' => e = .returned (.tuple #[.int .i64 (Agg.aLow 1 ⟨x, y, z⟩).1, .bool (Agg.aLow 1 ⟨x, y, z⟩).2]) ∧ Below w.heap.size w w' := by
  cases ha : Agg.ok 1 ⟨x, y, z⟩
  · have e : Agg.aLow 1 ⟨x, y, z⟩ = (0, false) := by simp [Agg.aLow, Agg.valid, ha]
    rw [e]
    go_enter Tryz.func91, Tryz.ntmps91
    go_wp2_with (first | (go_at_call 74; refine (kindOf_1 _).mono ?_; rintro e w1 ⟨rfl, rfl⟩) | (go_at_call 130; refine (valid_1 _ _ _ _).mono ?_; rintro e w1 ⟨rfl, hb1⟩; obtain ⟨hc1, hf1⟩ := bcell hb1; obtain hz0 : w.heap.size < w1.heap.size := (by have hzz := hb1.size; (try simp at hzz); omega); have hB1 : Below w.heap.size w w1 := Below.trans (by go_grown) (hb1.mono (by first | (simp; done) | (simp; omega) | omega)); clear hb1))
    go_returns
    exact ⟨rfl, (by first | (go_grown; done) | (refine below_drewN ?_ _; go_grown; done) | (refine (below_drewN _ ?_); go_grown; done))⟩
  · have e : Agg.aLow 1 ⟨x, y, z⟩ = Agg.low 1 ⟨x, y, z⟩ := Agg.aLow_of (by decide) ha
    rw [e]
    go_enter Tryz.func91, Tryz.ntmps91
    go_wp2_with (first | (go_at_call 74; refine (kindOf_1 _).mono ?_; rintro e w1 ⟨rfl, rfl⟩) | (go_at_call 130; refine (valid_1 _ _ _ _).mono ?_; rintro e w1 ⟨rfl, hb1⟩; obtain ⟨hc1, hf1⟩ := bcell hb1; obtain hz0 : w.heap.size < w1.heap.size := (by have hzz := hb1.size; (try simp at hzz); omega); have hB1 : Below w.heap.size w w1 := Below.trans (by go_grown) (hb1.mono (by first | (simp; done) | (simp; omega) | omega)); clear hb1) | (go_at_call 128; refine (lower_1 _ _ _ _ ha).mono ?_; rintro e w1 ⟨rfl, hb1⟩; obtain ⟨hc1, hf1⟩ := bcell hb1; obtain hz0 : w.heap.size < w1.heap.size := (by have hzz := hb1.size; (try simp at hzz); omega); have hB1 : Below w.heap.size w w1 := Below.trans (by go_grown) (hb1.mono (by first | (simp; done) | (simp; omega) | omega)); clear hb1))
    go_returns
    exact ⟨rfl, (by first | (go_grown; done) | (refine below_drewN ?_ _; go_grown; done) | (refine (below_drewN _ ?_); go_grown; done))⟩
theorem checked_2 (x y z : Int) (w : World) :
    Calls Tryz.prog 94 #[.iface 151 (.agg #[]), .agg #[.int .i64 x, .int .i64 y, .int .i64 z]] w fun e w' => e = .returned (.tuple #[.agg #[.int .i64 (Agg.give (Agg.ok 2 ⟨x, y, z⟩) ⟨x, y, z⟩).1.x, .int .i64 (Agg.give (Agg.ok 2 ⟨x, y, z⟩) ⟨x, y, z⟩).1.y, .int .i64 (Agg.give (Agg.ok 2 ⟨x, y, z⟩) ⟨x, y, z⟩).1.z], .bool (Agg.give (Agg.ok 2 ⟨x, y, z⟩) ⟨x, y, z⟩).2]) ∧ Below w.heap.size w w' := by
  cases ha : Agg.ok 2 ⟨x, y, z⟩
  all_goals
    go_enter Tryz.func94, Tryz.ntmps94
    go_wp2_with (go_at_call 136; refine (valid_2 _ _ _ _).mono ?_; rintro e w1 ⟨rfl, hb1⟩; obtain ⟨hc1, hf1⟩ := bcell hb1; obtain ⟨hz0, hz1⟩ : w.heap.size < w1.heap.size ∧ w.heap.size + 1 < w1.heap.size := (by have hzz := hb1.size; (try simp at hzz); omega); have hB1 : Below w.heap.size w w1 := Below.trans (by go_grown) (hb1.mono (by first | (simp; done) | (simp; omega) | omega)); clear hb1)
    refine bodyPost_ret (by simp [results, Tryz.results94, go_sem, *]; try rfl) rfl ?_
    exact ⟨ret_agg_bool (by simp [Agg.give, Agg.zero]) (by simp [Agg.give, Agg.zero]) (by simp [Agg.give, Agg.zero]) (by simp [Agg.give]), (by first | (go_grown; done) | (refine below_drewN ?_ _; go_grown; done) | (refine (below_drewN _ ?_); go_grown; done))⟩

set_option maxHeartbeats 4000000 in
theorem combineValues_2 (ax ay az bx by' bz : Int) (w : World) :
    Calls Tryz.prog 85 #[.int .i64 2, .agg #[.int .i64 ax, .int .i64 ay, .int .i64 az], .agg #[.int .i64 bx, .int .i64 by', .int .i64 bz]] w fun e w' => e = .returned (.tuple #[.agg #[.int .i64 (Agg.aComb 2 ⟨ax, ay, az⟩ ⟨bx, by', bz⟩).1.x, .int .i64 (Agg.aComb 2 ⟨ax, ay, az⟩ ⟨bx, by', bz⟩).1.y, .int .i64 (Agg.aComb 2 ⟨ax, ay, az⟩ ⟨bx, by', bz⟩).1.z], .bool (Agg.aComb 2 ⟨ax, ay, az⟩ ⟨bx, by', bz⟩).2]) ∧ Below w.heap.size w w' := by
  cases ha : Agg.ok 2 ⟨ax, ay, az⟩
  · have e : Agg.aComb 2 ⟨ax, ay, az⟩ ⟨bx, by', bz⟩ = (Agg.zero, false) := by simp [Agg.aComb, Agg.give, Agg.valid, ha]
    rw [e]
    go_enter Tryz.func85, Tryz.ntmps85
    go_wp2_with (first | (go_at_call 74; refine (kindOf_2 _).mono ?_; rintro e w1 ⟨rfl, rfl⟩) | (go_at_call 136; refine (valid_2 _ _ _ _).mono ?_; rintro e w1 ⟨rfl, hb1⟩; obtain ⟨hc1, hf1⟩ := bcell hb1; obtain ⟨hz0, hz1, hz2⟩ : w.heap.size < w1.heap.size ∧ w.heap.size + 1 < w1.heap.size ∧ w.heap.size + 1 + 1 < w1.heap.size := (by have hzz := hb1.size; (try simp at hzz); omega); have hB1 : Below w.heap.size w w1 := Below.trans (by go_grown) (hb1.mono (by first | (simp; done) | (simp; omega) | omega)); clear hb1))
    refine bodyPost_ret (by simp [results, Tryz.results85, go_sem, *]; try rfl) rfl ?_
    exact ⟨ret_agg_bool rfl rfl rfl rfl, (by first | (go_grown; done) | (refine below_drewN ?_ _; go_grown; done) | (refine (below_drewN _ ?_); go_grown; done))⟩
  · cases hb : Agg.ok 2 ⟨bx, by', bz⟩
    · have e : Agg.aComb 2 ⟨ax, ay, az⟩ ⟨bx, by', bz⟩ = (Agg.zero, false) := by simp [Agg.aComb, Agg.give, Agg.valid, hb]
      rw [e]
      go_enter Tryz.func85, Tryz.ntmps85
      go_wp2_with (first | (go_at_call 74; refine (kindOf_2 _).mono ?_; rintro e w1 ⟨rfl, rfl⟩) | (go_at_call 136; refine (valid_2 _ _ _ _).mono ?_; rintro e w1 ⟨rfl, hb1⟩; obtain ⟨hc1, hf1⟩ := bcell hb1; obtain ⟨hz0, hz1, hz2⟩ : w.heap.size < w1.heap.size ∧ w.heap.size + 1 < w1.heap.size ∧ w.heap.size + 1 + 1 < w1.heap.size := (by have hzz := hb1.size; (try simp at hzz); omega); have hB1 : Below w.heap.size w w1 := Below.trans (by go_grown) (hb1.mono (by first | (simp; done) | (simp; omega) | omega)); clear hb1))
      refine bodyPost_ret (by simp [results, Tryz.results85, go_sem, *]; try rfl) rfl ?_
      exact ⟨ret_agg_bool rfl rfl rfl rfl, (by first | (go_grown; done) | (refine below_drewN ?_ _; go_grown; done) | (refine (below_drewN _ ?_); go_grown; done))⟩
    · have e : Agg.aComb 2 ⟨ax, ay, az⟩ ⟨bx, by', bz⟩ = Agg.give (Agg.ok 2 (Agg.comb 2 ⟨ax, ay, az⟩ ⟨bx, by', bz⟩)) (Agg.comb 2 ⟨ax, ay, az⟩ ⟨bx, by', bz⟩) := by simp [Agg.aComb, Agg.valid, Agg.isKind, ha, hb]
      rw [e]
      go_enter Tryz.func85, Tryz.ntmps85
      go_wp2_with (first | (go_at_call 74; refine (kindOf_2 _).mono ?_; rintro e w1 ⟨rfl, rfl⟩) | (go_at_call 136; refine (valid_2 _ _ _ _).mono ?_; rintro e w1 ⟨rfl, hb1⟩; obtain ⟨hc1, hf1⟩ := bcell hb1; obtain ⟨hz0, hz1, hz2⟩ : w.heap.size < w1.heap.size ∧ w.heap.size + 1 < w1.heap.size ∧ w.heap.size + 1 + 1 < w1.heap.size := (by have hzz := hb1.size; (try simp at hzz); omega); have hB1 : Below w.heap.size w w1 := Below.trans (by go_grown) (hb1.mono (by first | (simp; done) | (simp; omega) | omega)); clear hb1) | (go_at_call 131; refine (combine_2 _ _ _ _ _ _ _ ha hb).mono ?_; rintro e w1 ⟨rfl, hb1⟩; obtain ⟨hc1, hf1⟩ := bcell hb1; obtain ⟨hz0, hz1, hz2⟩ : w.heap.size < w1.heap.size ∧ w.heap.size + 1 < w1.heap.size ∧ w.heap.size + 1 + 1 < w1.heap.size := (by have hzz := hb1.size; (try simp at hzz); omega); have hB1 : Below w.heap.size w w1 := Below.trans (by go_grown) (hb1.mono (by first | (simp; done) | (simp; omega) | omega)); clear hb1) | (go_at_call 94; refine (checked_2 _ _ _ _).mono ?_; rintro e w1 ⟨rfl, hb1⟩; obtain ⟨hc1, hf1⟩ := bcell hb1; obtain ⟨hz0, hz1, hz2⟩ : w.heap.size < w1.heap.size ∧ w.heap.size + 1 < w1.heap.size ∧ w.heap.size + 1 + 1 < w1.heap.size := (by have hzz := hb1.size; (try simp at hzz); omega); have hB1 : Below w.heap.size w w1 := Below.trans (by go_grown) (hb1.mono (by first | (simp; done) | (simp; omega) | omega)); clear hb1))
      refine bodyPost_ret (by simp [results, Tryz.results85, go_sem, *]; try rfl) rfl ?_
      exact ⟨rfl, (by first | (go_grown; done) | (refine below_drewN ?_ _; go_grown; done) | (refine (below_drewN _ ?_); go_grown; done))⟩

theorem kindValid_2 (w : World) : Calls Tryz.prog 43 #[.int .i64 2] w fun e w' => e = .returned (.bool true) ∧ w = w' := by
  go_enter Tryz.func43, Tryz.ntmps43
  go_wp2_with (go_at_call 74; refine (kindOf_2 _).mono ?_; rintro e w1 ⟨rfl, rfl⟩)
  go_returns
  exact ⟨rfl, rfl⟩

theorem valueValid_2 (x y z : Int) (w : World) :
    Calls Tryz.prog 92 #[.int .i64 2, .agg #[.int .i64 x, .int .i64 y, .int .i64 z]] w fun e w' => e = .returned (.bool (Agg.valid 2 ⟨x, y, z⟩)) ∧ Below w.heap.size w w' := by
  go_enter Tryz.func92, Tryz.ntmps92
  go_wp2_with (first | (go_at_call 74; refine (kindOf_2 _).mono ?_; rintro e w1 ⟨rfl, rfl⟩) | (go_at_call 136; refine (valid_2 _ _ _ _).mono ?_; rintro e w1 ⟨rfl, hb1⟩; obtain ⟨hc1, hf1⟩ := bcell hb1; obtain hz0 : w.heap.size < w1.heap.size := (by have hzz := hb1.size; (try simp at hzz); omega); have hB1 : Below w.heap.size w w1 := Below.trans (by go_grown) (hb1.mono (by first | (simp; done) | (simp; omega) | omega)); clear hb1))
  go_returns
  exact ⟨ret_bool (by simp [Agg.valid, Agg.isKind]), (by first | (go_grown; done) | (refine below_drewN ?_ _; go_grown; done) | (refine (below_drewN _ ?_); go_grown; done))⟩


theorem unitOf_2 (w : World) :
    Calls Tryz.prog 79 #[.int .i64 2] w fun e w' => e = .returned (.tuple #[.agg #[.int .i64 (Agg.aUnit 2).1.x, .int .i64 (Agg.aUnit 2).1.y, .int .i64 (Agg.aUnit 2).1.z], .bool (Agg.aUnit 2).2]) ∧ Below w.heap.size w w' := by
  have e : Agg.aUnit 2 = (Agg.unit 2, true) := by simp [Agg.aUnit, Agg.give, Agg.isKind]
  rw [e]
  go_enter Tryz.func79, Tryz.ntmps79
  go_wp2_with (first | (go_at_call 74; refine (kindOf_2 _).mono ?_; rintro e w1 ⟨rfl, rfl⟩) | (go_at_call 135; refine (unit_2 _).mono ?_; rintro e w1 ⟨rfl, hb1⟩; obtain ⟨hc1, hf1⟩ := bcell hb1; obtain hz0 : w.heap.size < w1.heap.size := (by have hzz := hb1.size; (try simp at hzz); omega); have hB1 : Below w.heap.size w w1 := Below.trans (by go_grown) (hb1.mono (by first | (simp; done) | (simp; omega) | omega)); clear hb1))
  refine bodyPost_ret (by simp [results, Tryz.results79, go_sem, *]; try rfl) rfl ?_
  exact ⟨rfl, (by first | (go_grown; done) | (refine below_drewN ?_ _; go_grown; done) | (refine (below_drewN _ ?_); go_grown; done))⟩


theorem lowerValue_2 (x y z : Int) (w : World) :
    Calls Tryz.prog 91 #[.int .i64 2, .agg #[.int .i64 x, .int .i64 y, .int .i64 z]] w fun e w' => e = .returned (.tuple #[.int .i64 (Agg.aLow 2 ⟨x, y, z⟩).1, .bool (Agg.aLow 2 ⟨x, y, z⟩).2]) ∧ Below w.heap.size w w' := by
  cases ha : Agg.ok 2 ⟨x, y, z⟩
  · have e : Agg.aLow 2 ⟨x, y, z⟩ = (0, false) := by simp [Agg.aLow, Agg.valid, ha]
    rw [e]
    go_enter Tryz.func91, Tryz.ntmps91
    go_wp2_with (first | (go_at_call 74; refine (kindOf_2 _).mono ?_; rintro e w1 ⟨rfl, rfl⟩) | (go_at_call 136; refine (valid_2 _ _ _ _).mono ?_; rintro e w1 ⟨rfl, hb1⟩; obtain ⟨hc1, hf1⟩ := bcell hb1; obtain hz0 : w.heap.size < w1.heap.size := (by have hzz := hb1.size; (try simp at hzz); omega); have hB1 : Below w.heap.size w w1 := Below.trans (by go_grown) (hb1.mono (by first | (simp; done) | (simp; omega) | omega)); clear hb1))
    go_returns
    exact ⟨rfl, (by first | (go_grown; done) | (refine below_drewN ?_ _; go_grown; done) | (refine (below_drewN _ ?_); go_grown; done))⟩
  · have e : Agg.aLow 2 ⟨x, y, z⟩ = Agg.low 2 ⟨x, y, z⟩ := Agg.aLow_of (by decide) ha
    rw [e]
    go_enter Tryz.func91, Tryz.ntmps91
    go_wp2_with (first | (go_at_call 74; refine (kindOf_2 _).mono ?_; rintro e w1 ⟨rfl, rfl⟩) | (go_at_call 136; refine (valid_2 _ _ _ _).mono ?_; rintro e w1 ⟨rfl, hb1⟩; obtain ⟨hc1, hf1⟩ := bcell hb1; obtain hz0 : w.heap.size < w1.heap.size := (by have hzz := hb1.size; (try simp at hzz); omega); have hB1 : Below w.heap.size w w1 := Below.trans (by go_grown) (hb1.mono (by first | (simp; done) | (simp; omega) | omega)); clear hb1) | (go_at_call 134; refine (lower_2 _ _ _ _ ha).mono ?_; rintro e w1 ⟨rfl, hb1⟩; obtain ⟨hc1, hf1⟩ := bcell hb1; obtain hz0 : w.heap.size < w1.heap.size := (by have hzz := hb1.size; (try simp at hzz); omega); have hB1 : Below w.heap.size w w1 := Below.trans (by go_grown) (hb1.mono (by first | (simp; done) | (simp; omega) | omega)); clear hb1))
    go_returns
    exact ⟨rfl, (by first | (go_grown; done) | (refine below_drewN ?_ _; go_grown; done) | (refine (below_drewN _ ?_); go_grown; done))⟩
theorem checked_3 (x y z : Int) (w : World) :
    Calls Tryz.prog 94 #[.iface 153 (.agg #[]), .agg #[.int .i64 x, .int .i64 y, .int .i64 z]] w fun e w' => e = .returned (.tuple #[.agg #[.int .i64 (Agg.give (Agg.ok 3 ⟨x, y, z⟩) ⟨x, y, z⟩).1.x, .int .i64 (Agg.give (Agg.ok 3 ⟨x, y, z⟩) ⟨x, y, z⟩).1.y, .int .i64 (Agg.give (Agg.ok 3 ⟨x, y, z⟩) ⟨x, y, z⟩).1.z], .bool (Agg.give (Agg.ok 3 ⟨x, y, z⟩) ⟨x, y, z⟩).2]) ∧ Below w.heap.size w w' := by
  cases ha : Agg.ok 3 ⟨x, y, z⟩
  all_goals
    go_enter Tryz.func94, Tryz.ntmps94
    go_wp2_with (go_at_call 142; refine (valid_3 _ _ _ _).mono ?_; rintro e w1 ⟨rfl, hb1⟩; obtain ⟨hc1, hf1⟩ := bcell hb1; obtain ⟨hz0, hz1⟩ : w.heap.size < w1.heap.size ∧ w.heap.size + 1 < w1.heap.size := (by have hzz := hb1.size; (try simp at hzz); omega); have hB1 : Below w.heap.size w w1 := Below.trans (by go_grown) (hb1.mono (by first | (simp; done) | (simp; omega) | omega)); clear hb1)
    refine bodyPost_ret (by simp [results, Tryz.results94, go_sem, *]; try rfl) rfl ?_
    exact ⟨ret_agg_bool (by simp [Agg.give, Agg.zero]) (by simp [Agg.give, Agg.zero]) (by simp [Agg.give, Agg.zero]) (by simp [Agg.give]), (by first | (go_grown; done) | (refine below_drewN ?_ _; go_grown; done) | (refine (below_drewN _ ?_); go_grown; done))⟩

set_option maxHeartbeats 4000000 in
theorem combineValues_3 (ax ay az bx by' bz : Int) (w : World) :
    Calls Tryz.prog 85 #[.int .i64 3, .agg #[.int .i64 ax, .int .i64 ay, .int .i64 az], .agg #[.int .i64 bx, .int .i64 by', .int .i64 bz]] w fun e w' => e = .returned (.tuple #[.agg #[.int .i64 (Agg.aComb 3 ⟨ax, ay, az⟩ ⟨bx, by', bz⟩).1.x, .int .i64 (Agg.aComb 3 ⟨ax, ay, az⟩ ⟨bx, by', bz⟩).1.y, .int .i64 (Agg.aComb 3 ⟨ax, ay, az⟩ ⟨bx, by', bz⟩).1.z], .bool (Agg.aComb 3 ⟨ax, ay, az⟩ ⟨bx, by', bz⟩).2]) ∧ Below w.heap.size w w' := by
  cases ha : Agg.ok 3 ⟨ax, ay, az⟩
  · have e : Agg.aComb 3 ⟨ax, ay, az⟩ ⟨bx, by', bz⟩ = (Agg.zero, false) := by simp [Agg.aComb, Agg.give, Agg.valid, ha]
    rw [e]
    go_enter Tryz.func85, Tryz.ntmps85
    go_wp2_with (first | (go_at_call 74; refine (kindOf_3 _).mono ?_; rintro e w1 ⟨rfl, rfl⟩) | (go_at_call 142; refine (valid_3 _ _ _ _).mono ?_; rintro e w1 ⟨rfl, hb1⟩; obtain ⟨hc1, hf1⟩ := bcell hb1; obtain ⟨hz0, hz1, hz2⟩ : w.heap.size < w1.heap.size ∧ w.heap.size + 1 < w1.heap.size ∧ w.heap.size + 1 + 1 < w1.heap.size := (by have hzz := hb1.size; (try simp at hzz); omega); have hB1 : Below w.heap.size w w1 := Below.trans (by go_grown) (hb1.mono (by first | (simp; done) | (simp; omega) | omega)); clear hb1))
    refine bodyPost_ret (by simp [results, Tryz.results85, go_sem, *]; try rfl) rfl ?_
    exact ⟨ret_agg_bool rfl rfl rfl rfl, (by first | (go_grown; done) | (refine below_drewN ?_ _; go_grown; done) | (refine (below_drewN _ ?_); go_grown; done))⟩
  · cases hb : Agg.ok 3 ⟨bx, by', bz⟩
    · have e : Agg.aComb 3 ⟨ax, ay, az⟩ ⟨bx, by', bz⟩ = (Agg.zero, false) := by simp [Agg.aComb, Agg.give, Agg.valid, hb]
      rw [e]
      go_enter Tryz.func85, Tryz.ntmps85
      go_wp2_with (first | (go_at_call 74; refine (kindOf_3 _).mono ?_; rintro e w1 ⟨rfl, rfl⟩) | (go_at_call 142; refine (valid_3 _ _ _ _).mono ?_; rintro e w1 ⟨rfl, hb1⟩; obtain ⟨hc1, hf1⟩ := bcell hb1; obtain ⟨hz0, hz1, hz2⟩ : w.heap.size < w1.heap.size ∧ w.heap.size + 1 < w1.heap.size ∧ w.heap.size + 1 + 1 < w1.heap.size := (by have hzz := hb1.size; (try simp at hzz); omega); have hB1 : Below w.heap.size w w1 := Below.trans (by go_grown) (hb1.mono (by first | (simp; done) | (simp; omega) | omega)); clear hb1))
      refine bodyPost_ret (by simp [results, Tryz.results85, go_sem, *]; try rfl) rfl ?_
      exact ⟨ret_agg_bool rfl rfl rfl rfl, (by first | (go_grown; done) | (refine below_drewN ?_ _; go_grown; done) | (refine (below_drewN _ ?_); go_grown; done))⟩
    · have e : Agg.aComb 3 ⟨ax, ay, az⟩ ⟨bx, by', bz⟩ = Agg.give (Agg.ok 3 (Agg.comb 3 ⟨ax, ay, az⟩ ⟨bx, by', bz⟩)) (Agg.comb 3 ⟨ax, ay, az⟩ ⟨bx, by', bz⟩) := by simp [Agg.aComb, Agg.valid, Agg.isKind, ha, hb]
      rw [e]
      go_enter Tryz.func85, Tryz.ntmps85
      go_wp2_with (first | (go_at_call 74; refine (kindOf_3 _).mono ?_; rintro e w1 ⟨rfl, rfl⟩) | (go_at_call 142; refine (valid_3 _ _ _ _).mono ?_; rintro e w1 ⟨rfl, hb1⟩; obtain ⟨hc1, hf1⟩ := bcell hb1; obtain ⟨hz0, hz1, hz2⟩ : w.heap.size < w1.heap.size ∧ w.heap.size + 1 < w1.heap.size ∧ w.heap.size + 1 + 1 < w1.heap.size := (by have hzz := hb1.size; (try simp at hzz); omega); have hB1 : Below w.heap.size w w1 := Below.trans (by go_grown) (hb1.mono (by first | (simp; done) | (simp; omega) | omega)); clear hb1) | (go_at_call 137; refine (combine_3 _ _ _ _ _ _ _ ha hb).mono ?_; rintro e w1 ⟨rfl, hb1⟩; obtain ⟨hc1, hf1⟩ := bcell hb1; obtain ⟨hz0, hz1, hz2⟩ : w.heap.size < w1.heap.size ∧ w.heap.size + 1 < w1.heap.size ∧ w.heap.size + 1 + 1 < w1.heap.size := (by have hzz := hb1.size; (try simp at hzz); omega); have hB1 : Below w.heap.size w w1 := Below.trans (by go_grown) (hb1.mono (by first | (simp; done) | (simp; omega) | omega)); clear hb1) | (go_at_call 94; refine (checked_3 _ _ _ _).mono ?_; rintro e w1 ⟨rfl, hb1⟩; obtain ⟨hc1, hf1⟩ := bcell hb1; obtain ⟨hz0, hz1, hz2⟩ : w.heap.size < w1.heap.size ∧ w.heap.size + 1 < w1.heap.size ∧ w.heap.size + 1 + 1 < w1.heap.size := (by have hzz := hb1.size; (try simp at hzz); omega); have hB1 : Below w.heap.size w w1 := Below.trans (by go_grown) (hb1.mono (by first | (simp; done) | (simp; omega) | omega)); clear hb1))
      refine bodyPost_ret (by simp [results, Tryz.results85, go_sem, *]; try rfl) rfl ?_
      exact ⟨rfl, (by first | (go_grown; done) | (refine below_drewN ?_ _; go_grown; done) | (refine (below_drewN _ ?_); go_grown; done))⟩

theorem kindValid_3 (w : World) : Calls Tryz.prog 43 #[.int .i64 3] w fun e w' => e = .returned (.bool true) ∧ w = w' := by
  go_enter Tryz.func43, Tryz.ntmps43
  go_wp2_with (go_at_call 74; refine (kindOf_3 _).mono ?_; rintro e w1 ⟨rfl, rfl⟩)
  go_returns
  exact ⟨rfl, rfl⟩

theorem valueValid_3 (x y z : Int) (w : World) :
    Calls Tryz.prog 92 #[.int .i64 3, .agg #[.int .i64 x, .int .i64 y, .int .i64 z]] w fun e w' => e = .returned (.bool (Agg.valid 3 ⟨x, y, z⟩)) ∧ Below w.heap.size w w' := by
  go_enter Tryz.func92, Tryz.ntmps92
  go_wp2_with (first | (go_at_call 74; refine (kindOf_3 _).mono ?_; rintro e w1 ⟨rfl, rfl⟩) | (go_at_call 142; refine (valid_3 _ _ _ _).mono ?_; rintro e w1 ⟨rfl, hb1⟩; obtain ⟨hc1, hf1⟩ := bcell hb1; obtain hz0 : w.heap.size < w1.heap.size := (by have hzz := hb1.size; (try simp at hzz); omega); have hB1 : Below w.heap.size w w1 := Below.trans (by go_grown) (hb1.mono (by first | (simp; done) | (simp; omega) | omega)); clear hb1))
  go_returns
  exact ⟨ret_bool (by simp [Agg.valid, Agg.isKind]), (by first | (go_grown; done) | (refine below_drewN ?_ _; go_grown; done) | (refine (below_drewN _ ?_); go_grown; done))⟩


theorem unitOf_3 (w : World) :
    Calls Tryz.prog 79 #[.int .i64 3] w fun e w' => e = .returned (.tuple #[.agg #[.int .i64 (Agg.aUnit 3).1.x, .int .i64 (Agg.aUnit 3).1.y, .int .i64 (Agg.aUnit 3).1.z], .bool (Agg.aUnit 3).2]) ∧ Below w.heap.size w w' := by
  have e : Agg.aUnit 3 = (Agg.unit 3, true) := by simp [Agg.aUnit, Agg.give, Agg.isKind]
  rw [e]
  go_enter Tryz.func79, Tryz.ntmps79
  go_wp2_with (first | (go_at_call 74; refine (kindOf_3 _).mono ?_; rintro e w1 ⟨rfl, rfl⟩) | (go_at_call 141; refine (unit_3 _).mono ?_; rintro e w1 ⟨rfl, hb1⟩; obtain ⟨hc1, hf1⟩ := bcell hb1; obtain hz0 : w.heap.size < w1.heap.size := (by have hzz := hb1.size; (try simp at hzz); omega); have hB1 : Below w.heap.size w w1 := Below.trans (by go_grown) (hb1.mono (by first | (simp; done) | (simp; omega) | omega)); clear hb1))
  refine bodyPost_ret (by simp [results, Tryz.results79, go_sem, *]; try rfl) rfl ?_
  exact ⟨rfl, (by first | (go_grown; done) | (refine below_drewN ?_ _; go_grown; done) | (refine (below_drewN _ ?_); go_grown; done))⟩


theorem lowerValue_3 (x y z : Int) (w : World) :
    Calls Tryz.prog 91 #[.int .i64 3, .agg #[.int .i64 x, .int .i64 y, .int .i64 z]] w fun e w' => e = .returned (.tuple #[.int .i64 (Agg.aLow 3 ⟨x, y, z⟩).1, .bool (Agg.aLow 3 ⟨x, y, z⟩).2]) ∧ Below w.heap.size w w' := by
  cases ha : Agg.ok 3 ⟨x, y, z⟩
  · have e : Agg.aLow 3 ⟨x, y, z⟩ = (0, false) := by simp [Agg.aLow, Agg.valid, ha]
    rw [e]
    go_enter Tryz.func91, Tryz.ntmps91
    go_wp2_with (first | (go_at_call 74; refine (kindOf_3 _).mono ?_; rintro e w1 ⟨rfl, rfl⟩) | (go_at_call 142; refine (valid_3 _ _ _ _).mono ?_; rintro e w1 ⟨rfl, hb1⟩; obtain ⟨hc1, hf1⟩ := bcell hb1; obtain hz0 : w.heap.size < w1.heap.size := (by have hzz := hb1.size; (try simp at hzz); omega); have hB1 : Below w.heap.size w w1 := Below.trans (by go_grown) (hb1.mono (by first | (simp; done) | (simp; omega) | omega)); clear hb1))
    go_returns
    exact ⟨rfl, (by first | (go_grown; done) | (refine below_drewN ?_ _; go_grown; done) | (refine (below_drewN _ ?_); go_grown; done))⟩
  · have e : Agg.aLow 3 ⟨x, y, z⟩ = Agg.low 3 ⟨x, y, z⟩ := Agg.aLow_of (by decide) ha
    rw [e]
    go_enter Tryz.func91, Tryz.ntmps91
    go_wp2_with (first | (go_at_call 74; refine (kindOf_3 _).mono ?_; rintro e w1 ⟨rfl, rfl⟩) | (go_at_call 142; refine (valid_3 _ _ _ _).mono ?_; rintro e w1 ⟨rfl, hb1⟩; obtain ⟨hc1, hf1⟩ := bcell hb1; obtain hz0 : w.heap.size < w1.heap.size := (by have hzz := hb1.size; (try simp at hzz); omega); have hB1 : Below w.heap.size w w1 := Below.trans (by go_grown) (hb1.mono (by first | (simp; done) | (simp; omega) | omega)); clear hb1) | (go_at_call 140; refine (lower_3 _ _ _ _ ha).mono ?_; rintro e w1 ⟨rfl, hb1⟩; obtain ⟨hc1, hf1⟩ := bcell hb1; obtain hz0 : w.heap.size < w1.heap.size := (by have hzz := hb1.size; (try simp at hzz); omega); have hB1 : Below w.heap.size w w1 := Below.trans (by go_grown) (hb1.mono (by first | (simp; done) | (simp; omega) | omega)); clear hb1))
    go_returns
    exact ⟨rfl, (by first | (go_grown; done) | (refine below_drewN ?_ _; go_grown; done) | (refine (below_drewN _ ?_); go_grown; done))⟩
end Go.Proofs.YtolgclajlklmaaaGreat
