/-
  RemoveFirst in the model, at some kinds.
-/
import Derived.Test.YtmlkdbmhekiniaaGreatQi
import Derived.Test.YtmlkdbmhekiniaaGreatS4
import Derived.Deep.RegionHeld3
namespace Go.Proofs.YtmlkdbmhekiniaaGreat
set_option linter.unusedSimpArgs false
set_option linter.unusedVariables false
open Go.RowKit
set_option maxHeartbeats 4000000 in
theorem s_removeFirst_9 (ax ay az bx by' bz : Int) (w : World) :
    Calls Tryz.prog 111 #[.int .i64 9, .agg #[.int .i64 ax, .int .i64 ay, .int .i64 az], .agg #[.int .i64 bx, .int .i64 by', .int .i64 bz]] w fun e w' => e = .returned (.tuple #[.agg #[.int .i64 (Agg.aRest 9 ⟨ax, ay, az⟩ ⟨bx, by', bz⟩).1.x, .int .i64 (Agg.aRest 9 ⟨ax, ay, az⟩ ⟨bx, by', bz⟩).1.y, .int .i64 (Agg.aRest 9 ⟨ax, ay, az⟩ ⟨bx, by', bz⟩).1.z], .bool (Agg.aRest 9 ⟨ax, ay, az⟩ ⟨bx, by', bz⟩).2]) ∧ Below w.heap.size w w' := by
  cases ha : Agg.valid 9 ⟨ax, ay, az⟩
  · have e : Agg.aRest 9 ⟨ax, ay, az⟩ ⟨bx, by', bz⟩ = (Agg.zero, false) := by simp [Agg.aRest, Agg.give, ha]
    rw [e]
    go_enter Tryz.func111, Tryz.ntmps111
    go_wp2_with (go_at_call 123; refine (s_valueValid_9 _ _ _ _).mono ?_; rintro e w1 ⟨rfl, hb1⟩; obtain ⟨hc1, hf1⟩ := bcell hb1; obtain ⟨hz0, hz1, hz2⟩ : w.heap.size < w1.heap.size ∧ w.heap.size + 1 < w1.heap.size ∧ w.heap.size + 1 + 1 < w1.heap.size := (by have hzz := hb1.size; (try simp at hzz); omega); have hB1 : Below w.heap.size w w1 := Below.trans (by go_grown) (hb1.mono (by first | (simp; done) | (simp; omega) | omega)); clear hb1)
    refine bodyPost_ret (by simp [results, Tryz.results111, go_sem, *]; try rfl) rfl ?_
    exact ⟨ret_agg_bool rfl rfl rfl rfl, (by first | (go_grown; done) | (refine below_drewN ?_ _; go_grown; done) | (refine (below_drewN _ ?_); go_grown; done))⟩
  · cases hb : Agg.valid 9 ⟨bx, by', bz⟩
    · have e : Agg.aRest 9 ⟨ax, ay, az⟩ ⟨bx, by', bz⟩ = (Agg.zero, false) := by simp [Agg.aRest, Agg.give, hb]
      rw [e]
      go_enter Tryz.func111, Tryz.ntmps111
      go_wp2_with (go_at_call 123; refine (s_valueValid_9 _ _ _ _).mono ?_; rintro e w1 ⟨rfl, hb1⟩; obtain ⟨hc1, hf1⟩ := bcell hb1; obtain ⟨hz0, hz1, hz2⟩ : w.heap.size < w1.heap.size ∧ w.heap.size + 1 < w1.heap.size ∧ w.heap.size + 1 + 1 < w1.heap.size := (by have hzz := hb1.size; (try simp at hzz); omega); have hB1 : Below w.heap.size w w1 := Below.trans (by go_grown) (hb1.mono (by first | (simp; done) | (simp; omega) | omega)); clear hb1)
      refine bodyPost_ret (by simp [results, Tryz.results111, go_sem, *]; try rfl) rfl ?_
      exact ⟨ret_agg_bool rfl rfl rfl rfl, (by first | (go_grown; done) | (refine below_drewN ?_ _; go_grown; done) | (refine (below_drewN _ ?_); go_grown; done))⟩
    · have oa : Agg.ok 9 ⟨ax, ay, az⟩ = true := by simpa [Agg.valid, Agg.isKind] using ha
      have ob : Agg.ok 9 ⟨bx, by', bz⟩ = true := by simpa [Agg.valid, Agg.isKind] using hb
      obtain ⟨hx0, hx1, hy0, hy1, hz0, hz1⟩ := Agg.ok_bounds oa
      obtain ⟨kx0, kx1, ky0, ky1, kz0, kz1⟩ := Agg.ok_bounds ob
      simp only at hx0 hx1 hy0 hy1 hz0 hz1 kx0 kx1 ky0 ky1 kz0 kz1
      clear oa ob
      have e : Agg.aRest 9 ⟨ax, ay, az⟩ ⟨bx, by', bz⟩ = (Agg.zero, false) := by simp [Agg.aRest, Agg.give, Agg.removes]
      rw [e]
      go_enter Tryz.func111, Tryz.ntmps111
      go_wp2_with (go_at_call 123; refine (s_valueValid_9 _ _ _ _).mono ?_; rintro e w1 ⟨rfl, hb1⟩; obtain ⟨hc1, hf1⟩ := bcell hb1; obtain ⟨hz0, hz1, hz2⟩ : w.heap.size < w1.heap.size ∧ w.heap.size + 1 < w1.heap.size ∧ w.heap.size + 1 + 1 < w1.heap.size := (by have hzz := hb1.size; (try simp at hzz); omega); have hB1 : Below w.heap.size w w1 := Below.trans (by go_grown) (hb1.mono (by first | (simp; done) | (simp; omega) | omega)); clear hb1)
      all_goals (refine bodyPost_ret (by simp [results, Tryz.results111, go_sem, *]; try rfl) rfl ?_)
      all_goals (exact ⟨ret_agg_bool rfl rfl rfl rfl, (by first | (go_grown; done) | (refine below_drewN ?_ _; go_grown; done) | (refine (below_drewN _ ?_); go_grown; done))⟩)
set_option maxHeartbeats 4000000 in
theorem s_removeFirst_10 (ax ay az bx by' bz : Int) (w : World) :
    Calls Tryz.prog 111 #[.int .i64 10, .agg #[.int .i64 ax, .int .i64 ay, .int .i64 az], .agg #[.int .i64 bx, .int .i64 by', .int .i64 bz]] w fun e w' => e = .returned (.tuple #[.agg #[.int .i64 (Agg.aRest 10 ⟨ax, ay, az⟩ ⟨bx, by', bz⟩).1.x, .int .i64 (Agg.aRest 10 ⟨ax, ay, az⟩ ⟨bx, by', bz⟩).1.y, .int .i64 (Agg.aRest 10 ⟨ax, ay, az⟩ ⟨bx, by', bz⟩).1.z], .bool (Agg.aRest 10 ⟨ax, ay, az⟩ ⟨bx, by', bz⟩).2]) ∧ Below w.heap.size w w' := by
  cases ha : Agg.valid 10 ⟨ax, ay, az⟩
  · have e : Agg.aRest 10 ⟨ax, ay, az⟩ ⟨bx, by', bz⟩ = (Agg.zero, false) := by simp [Agg.aRest, Agg.give, ha]
    rw [e]
    go_enter Tryz.func111, Tryz.ntmps111
    go_wp2_with (go_at_call 123; refine (s_valueValid_10 _ _ _ _).mono ?_; rintro e w1 ⟨rfl, hb1⟩; obtain ⟨hc1, hf1⟩ := bcell hb1; obtain ⟨hz0, hz1, hz2⟩ : w.heap.size < w1.heap.size ∧ w.heap.size + 1 < w1.heap.size ∧ w.heap.size + 1 + 1 < w1.heap.size := (by have hzz := hb1.size; (try simp at hzz); omega); have hB1 : Below w.heap.size w w1 := Below.trans (by go_grown) (hb1.mono (by first | (simp; done) | (simp; omega) | omega)); clear hb1)
    refine bodyPost_ret (by simp [results, Tryz.results111, go_sem, *]; try rfl) rfl ?_
    exact ⟨ret_agg_bool rfl rfl rfl rfl, (by first | (go_grown; done) | (refine below_drewN ?_ _; go_grown; done) | (refine (below_drewN _ ?_); go_grown; done))⟩
  · cases hb : Agg.valid 10 ⟨bx, by', bz⟩
    · have e : Agg.aRest 10 ⟨ax, ay, az⟩ ⟨bx, by', bz⟩ = (Agg.zero, false) := by simp [Agg.aRest, Agg.give, hb]
      rw [e]
      go_enter Tryz.func111, Tryz.ntmps111
      go_wp2_with (go_at_call 123; refine (s_valueValid_10 _ _ _ _).mono ?_; rintro e w1 ⟨rfl, hb1⟩; obtain ⟨hc1, hf1⟩ := bcell hb1; obtain ⟨hz0, hz1, hz2⟩ : w.heap.size < w1.heap.size ∧ w.heap.size + 1 < w1.heap.size ∧ w.heap.size + 1 + 1 < w1.heap.size := (by have hzz := hb1.size; (try simp at hzz); omega); have hB1 : Below w.heap.size w w1 := Below.trans (by go_grown) (hb1.mono (by first | (simp; done) | (simp; omega) | omega)); clear hb1)
      refine bodyPost_ret (by simp [results, Tryz.results111, go_sem, *]; try rfl) rfl ?_
      exact ⟨ret_agg_bool rfl rfl rfl rfl, (by first | (go_grown; done) | (refine below_drewN ?_ _; go_grown; done) | (refine (below_drewN _ ?_); go_grown; done))⟩
    · have oa : Agg.ok 10 ⟨ax, ay, az⟩ = true := by simpa [Agg.valid, Agg.isKind] using ha
      have ob : Agg.ok 10 ⟨bx, by', bz⟩ = true := by simpa [Agg.valid, Agg.isKind] using hb
      obtain ⟨hx0, hx1, hy0, hy1, hz0, hz1⟩ := Agg.ok_bounds oa
      obtain ⟨kx0, kx1, ky0, ky1, kz0, kz1⟩ := Agg.ok_bounds ob
      simp only at hx0 hx1 hy0 hy1 hz0 hz1 kx0 kx1 ky0 ky1 kz0 kz1
      clear oa ob
      have e : Agg.aRest 10 ⟨ax, ay, az⟩ ⟨bx, by', bz⟩ = (Agg.zero, false) := by simp [Agg.aRest, Agg.give, Agg.removes]
      rw [e]
      go_enter Tryz.func111, Tryz.ntmps111
      go_wp2_with (go_at_call 123; refine (s_valueValid_10 _ _ _ _).mono ?_; rintro e w1 ⟨rfl, hb1⟩; obtain ⟨hc1, hf1⟩ := bcell hb1; obtain ⟨hz0, hz1, hz2⟩ : w.heap.size < w1.heap.size ∧ w.heap.size + 1 < w1.heap.size ∧ w.heap.size + 1 + 1 < w1.heap.size := (by have hzz := hb1.size; (try simp at hzz); omega); have hB1 : Below w.heap.size w w1 := Below.trans (by go_grown) (hb1.mono (by first | (simp; done) | (simp; omega) | omega)); clear hb1)
      all_goals (refine bodyPost_ret (by simp [results, Tryz.results111, go_sem, *]; try rfl) rfl ?_)
      all_goals (exact ⟨ret_agg_bool rfl rfl rfl rfl, (by first | (go_grown; done) | (refine below_drewN ?_ _; go_grown; done) | (refine (below_drewN _ ?_); go_grown; done))⟩)
end Go.Proofs.YtmlkdbmhekiniaaGreat
