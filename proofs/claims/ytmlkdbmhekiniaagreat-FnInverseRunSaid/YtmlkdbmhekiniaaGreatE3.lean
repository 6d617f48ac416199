/-
  RemoveFirst in the model, at some kinds.
-/
import Derived.Test.YtmlkdbmhekiniaaGreatQi
import Derived.Test.YtmlkdbmhekiniaaGreatS3
import Derived.Deep.RegionHeld3
namespace Go.Proofs.YtmlkdbmhekiniaaGreat
set_option linter.unusedSimpArgs false
set_option linter.unusedVariables false
open Go.RowKit
set_option maxHeartbeats 4000000 in
theorem s_removeFirst_6 (ax ay az bx by' bz : Int) (w : World) :
    Calls Tryz.prog 111 #[.int .i64 6, .agg #[.int .i64 ax, .int .i64 ay, .int .i64 az], .agg #[.int .i64 bx, .int .i64 by', .int .i64 bz]] w fun e w' => e = .returned (.tuple #[.agg #[.int .i64 (Agg.aRest 6 ⟨ax, ay, az⟩ ⟨bx, by', bz⟩).1.x, .int .i64 (Agg.aRest 6 ⟨ax, ay, az⟩ ⟨bx, by', bz⟩).1.y, .int .i64 (Agg.aRest 6 ⟨ax, ay, az⟩ ⟨bx, by', bz⟩).1.z], .bool (Agg.aRest 6 ⟨ax, ay, az⟩ ⟨bx, by', bz⟩).2]) ∧ Below w.heap.size w w' := by
  cases ha : Agg.valid 6 ⟨ax, ay, az⟩
  · have e : Agg.aRest 6 ⟨ax, ay, az⟩ ⟨bx, by', bz⟩ = (Agg.zero, false) := by simp [Agg.aRest, Agg.give, ha]
    rw [e]
    go_enter Tryz.func111, Tryz.ntmps111
    go_wp2_with (go_at_call 123; refine (s_valueValid_6 _ _ _ _).mono ?_; rintro e w1 ⟨rfl, hb1⟩; obtain ⟨hc1, hf1⟩ := bcell hb1; obtain ⟨hz0, hz1, hz2⟩ : w.heap.size < w1.heap.size ∧ w.heap.size + 1 < w1.heap.size ∧ w.heap.size + 1 + 1 < w1.heap.size := (by have hzz := hb1.size; (try simp at hzz); omega); have hB1 : Below w.heap.size w w1 := Below.trans (by go_grown) (hb1.mono (by first | (simp; done) | (simp; omega) | omega)); clear hb1)
    refine bodyPost_ret (by simp [results, Tryz.results111, go_sem, *]; try rfl) rfl ?_
    exact ⟨ret_agg_bool rfl rfl rfl rfl, (by first | (go_grown; done) | (refine below_drewN ?_ _; go_grown; done) | (refine (below_drewN _ ?_); go_grown; done))⟩
  · cases hb : Agg.valid 6 ⟨bx, by', bz⟩
    · have e : Agg.aRest 6 ⟨ax, ay, az⟩ ⟨bx, by', bz⟩ = (Agg.zero, false) := by simp [Agg.aRest, Agg.give, hb]
      rw [e]
      go_enter Tryz.func111, Tryz.ntmps111
      go_wp2_with (go_at_call 123; refine (s_valueValid_6 _ _ _ _).mono ?_; rintro e w1 ⟨rfl, hb1⟩; obtain ⟨hc1, hf1⟩ := bcell hb1; obtain ⟨hz0, hz1, hz2⟩ : w.heap.size < w1.heap.size ∧ w.heap.size + 1 < w1.heap.size ∧ w.heap.size + 1 + 1 < w1.heap.size := (by have hzz := hb1.size; (try simp at hzz); omega); have hB1 : Below w.heap.size w w1 := Below.trans (by go_grown) (hb1.mono (by first | (simp; done) | (simp; omega) | omega)); clear hb1)
      refine bodyPost_ret (by simp [results, Tryz.results111, go_sem, *]; try rfl) rfl ?_
      exact ⟨ret_agg_bool rfl rfl rfl rfl, (by first | (go_grown; done) | (refine below_drewN ?_ _; go_grown; done) | (refine (below_drewN _ ?_); go_grown; done))⟩
    · have oa : Agg.ok 6 ⟨ax, ay, az⟩ = true := by simpa [Agg.valid, Agg.isKind] using ha
      have ob : Agg.ok 6 ⟨bx, by', bz⟩ = true := by simpa [Agg.valid, Agg.isKind] using hb
      obtain ⟨hx0, hx1, hy0, hy1, hz0, hz1⟩ := Agg.ok_bounds oa
      obtain ⟨kx0, kx1, ky0, ky1, kz0, kz1⟩ := Agg.ok_bounds ob
      simp only at hx0 hx1 hy0 hy1 hz0 hz1 kx0 kx1 ky0 ky1 kz0 kz1
      clear oa ob
      have e : Agg.aRest 6 ⟨ax, ay, az⟩ ⟨bx, by', bz⟩ = (Agg.zero, false) := by simp [Agg.aRest, Agg.give, Agg.removes]
      rw [e]
      go_enter Tryz.func111, Tryz.ntmps111
      go_wp2_with (go_at_call 123; refine (s_valueValid_6 _ _ _ _).mono ?_; rintro e w1 ⟨rfl, hb1⟩; obtain ⟨hc1, hf1⟩ := bcell hb1; obtain ⟨hz0, hz1, hz2⟩ : w.heap.size < w1.heap.size ∧ w.heap.size + 1 < w1.heap.size ∧ w.heap.size + 1 + 1 < w1.heap.size := (by have hzz := hb1.size; (try simp at hzz); omega); have hB1 : Below w.heap.size w w1 := Below.trans (by go_grown) (hb1.mono (by first | (simp; done) | (simp; omega) | omega)); clear hb1)
      all_goals (refine bodyPost_ret (by simp [results, Tryz.results111, go_sem, *]; try rfl) rfl ?_)
      all_goals (exact ⟨ret_agg_bool rfl rfl rfl rfl, (by first | (go_grown; done) | (refine below_drewN ?_ _; go_grown; done) | (refine (below_drewN _ ?_); go_grown; done))⟩)
set_option maxHeartbeats 4000000 in
theorem s_removeFirst_7 (ax ay az bx by' bz : Int) (w : World) :
    Calls Tryz.prog 111 #[.int .i64 7, .agg #[.int .i64 ax, .int .i64 ay, .int .i64 az], .agg #[.int .i64 bx, .int .i64 by', .int .i64 bz]] w fun e w' => e = .returned (.tuple #[.agg #[.int .i64 (Agg.aRest 7 ⟨ax, ay, az⟩ ⟨bx, by', bz⟩).1.x, .int .i64 (Agg.aRest 7 ⟨ax, ay, az⟩ ⟨bx, by', bz⟩).1.y, .int .i64 (Agg.aRest 7 ⟨ax, ay, az⟩ ⟨bx, by', bz⟩).1.z], .bool (Agg.aRest 7 ⟨ax, ay, az⟩ ⟨bx, by', bz⟩).2]) ∧ Below w.heap.size w w' := by
  cases ha : Agg.valid 7 ⟨ax, ay, az⟩
  · have e : Agg.aRest 7 ⟨ax, ay, az⟩ ⟨bx, by', bz⟩ = (Agg.zero, false) := by simp [Agg.aRest, Agg.give, ha]
    rw [e]
    go_enter Tryz.func111, Tryz.ntmps111
    go_wp2_with (go_at_call 123; refine (s_valueValid_7 _ _ _ _).mono ?_; rintro e w1 ⟨rfl, hb1⟩; obtain ⟨hc1, hf1⟩ := bcell hb1; obtain ⟨hz0, hz1, hz2⟩ : w.heap.size < w1.heap.size ∧ w.heap.size + 1 < w1.heap.size ∧ w.heap.size + 1 + 1 < w1.heap.size := (by have hzz := hb1.size; (try simp at hzz); omega); have hB1 : Below w.heap.size w w1 := Below.trans (by go_grown) (hb1.mono (by first | (simp; done) | (simp; omega) | omega)); clear hb1)
    refine bodyPost_ret (by simp [results, Tryz.results111, go_sem, *]; try rfl) rfl ?_
    exact ⟨ret_agg_bool rfl rfl rfl rfl, (by first | (go_grown; done) | (refine below_drewN ?_ _; go_grown; done) | (refine (below_drewN _ ?_); go_grown; done))⟩
  · cases hb : Agg.valid 7 ⟨bx, by', bz⟩
    · have e : Agg.aRest 7 ⟨ax, ay, az⟩ ⟨bx, by', bz⟩ = (Agg.zero, false) := by simp [Agg.aRest, Agg.give, hb]
      rw [e]
      go_enter Tryz.func111, Tryz.ntmps111
      go_wp2_with (go_at_call 123; refine (s_valueValid_7 _ _ _ _).mono ?_; rintro e w1 ⟨rfl, hb1⟩; obtain ⟨hc1, hf1⟩ := bcell hb1; obtain ⟨hz0, hz1, hz2⟩ : w.heap.size < w1.heap.size ∧ w.heap.size + 1 < w1.heap.size ∧ w.heap.size + 1 + 1 < w1.heap.size := (by have hzz := hb1.size; (try simp at hzz); omega); have hB1 : Below w.heap.size w w1 := Below.trans (by go_grown) (hb1.mono (by first | (simp; done) | (simp; omega) | omega)); clear hb1)
      refine bodyPost_ret (by simp [results, Tryz.results111, go_sem, *]; try rfl) rfl ?_
      exact ⟨ret_agg_bool rfl rfl rfl rfl, (by first | (go_grown; done) | (refine below_drewN ?_ _; go_grown; done) | (refine (below_drewN _ ?_); go_grown; done))⟩
    · have oa : Agg.ok 7 ⟨ax, ay, az⟩ = true := by simpa [Agg.valid, Agg.isKind] using ha
      have ob : Agg.ok 7 ⟨bx, by', bz⟩ = true := by simpa [Agg.valid, Agg.isKind] using hb
      obtain ⟨hx0, hx1, hy0, hy1, hz0, hz1⟩ := Agg.ok_bounds oa
      obtain ⟨kx0, kx1, ky0, ky1, kz0, kz1⟩ := Agg.ok_bounds ob
      simp only at hx0 hx1 hy0 hy1 hz0 hz1 kx0 kx1 ky0 ky1 kz0 kz1
      clear oa ob
      have hr : Agg.rest 7 ⟨ax, ay, az⟩ ⟨bx, by', bz⟩ = ⟨bx - ax, by' - ay, 0⟩ := by simp [Agg.rest] <;> omega
      have e : Agg.aRest 7 ⟨ax, ay, az⟩ ⟨bx, by', bz⟩ = Agg.give (Agg.ok 7 ⟨bx - ax, by' - ay, 0⟩) ⟨bx - ax, by' - ay, 0⟩ := by rw [← hr]; simp [Agg.aRest, Agg.isKind, Agg.removes, ha, hb]
      rw [e]
      clear hr e
      cases hc : Agg.ok 7 ⟨bx - ax, by' - ay, 0⟩
      all_goals (go_enter Tryz.func111, Tryz.ntmps111)
      all_goals (go_wp2_with (first | (go_at_call 123; refine (s_valueValid_7 _ _ _ _).mono ?_; rintro e w1 ⟨rfl, hb1⟩; obtain ⟨hc1, hf1⟩ := bcell hb1; obtain ⟨hz0, hz1, hz2⟩ : w.heap.size < w1.heap.size ∧ w.heap.size + 1 < w1.heap.size ∧ w.heap.size + 1 + 1 < w1.heap.size := (by have hzz := hb1.size; (try simp at hzz); omega); have hB1 : Below w.heap.size w w1 := Below.trans (by go_grown) (hb1.mono (by first | (simp; done) | (simp; omega) | omega)); clear hb1) | (go_at_call 125; refine (s_is_7 _ _ _ _).mono ?_; rintro e w1 ⟨rfl, hb1⟩; obtain ⟨hc1, hf1⟩ := bcell hb1; obtain ⟨hz0, hz1, hz2⟩ : w.heap.size < w1.heap.size ∧ w.heap.size + 1 < w1.heap.size ∧ w.heap.size + 1 + 1 < w1.heap.size := (by have hzz := hb1.size; (try simp at hzz); omega); have hB1 : Below w.heap.size w w1 := Below.trans (by go_grown) (hb1.mono (by first | (simp; done) | (simp; omega) | omega)); clear hb1)))
      all_goals (refine bodyPost_ret (by simp [results, Tryz.results111, go_sem, *]; try rfl) rfl ?_)
      all_goals (exact ⟨ret_agg_bool rfl rfl rfl rfl, (by first | (go_grown; done) | (refine below_drewN ?_ _; go_grown; done) | (refine (below_drewN _ ?_); go_grown; done))⟩)
set_option maxHeartbeats 4000000 in
theorem s_removeFirst_8 (ax ay az bx by' bz : Int) (w : World) :
    Calls Tryz.prog 111 #[.int .i64 8, .agg #[.int .i64 ax, .int .i64 ay, .int .i64 az], .agg #[.int .i64 bx, .int .i64 by', .int .i64 bz]] w fun e w' => e = .returned (.tuple #[.agg #[.int .i64 (Agg.aRest 8 ⟨ax, ay, az⟩ ⟨bx, by', bz⟩).1.x, .int .i64 (Agg.aRest 8 ⟨ax, ay, az⟩ ⟨bx, by', bz⟩).1.y, .int .i64 (Agg.aRest 8 ⟨ax, ay, az⟩ ⟨bx, by', bz⟩).1.z], .bool (Agg.aRest 8 ⟨ax, ay, az⟩ ⟨bx, by', bz⟩).2]) ∧ Below w.heap.size w w' := by
  cases ha : Agg.valid 8 ⟨ax, ay, az⟩
  · have e : Agg.aRest 8 ⟨ax, ay, az⟩ ⟨bx, by', bz⟩ = (Agg.zero, false) := by simp [Agg.aRest, Agg.give, ha]
    rw [e]
    go_enter Tryz.func111, Tryz.ntmps111
    go_wp2_with (go_at_call 123; refine (s_valueValid_8 _ _ _ _).mono ?_; rintro e w1 ⟨rfl, hb1⟩; obtain ⟨hc1, hf1⟩ := bcell hb1; obtain ⟨hz0, hz1, hz2⟩ : w.heap.size < w1.heap.size ∧ w.heap.size + 1 < w1.heap.size ∧ w.heap.size + 1 + 1 < w1.heap.size := (by have hzz := hb1.size; (try simp at hzz); omega); have hB1 : Below w.heap.size w w1 := Below.trans (by go_grown) (hb1.mono (by first | (simp; done) | (simp; omega) | omega)); clear hb1)
    refine bodyPost_ret (by simp [results, Tryz.results111, go_sem, *]; try rfl) rfl ?_
    exact ⟨ret_agg_bool rfl rfl rfl rfl, (by first | (go_grown; done) | (refine below_drewN ?_ _; go_grown; done) | (refine (below_drewN _ ?_); go_grown; done))⟩
  · cases hb : Agg.valid 8 ⟨bx, by', bz⟩
    · have e : Agg.aRest 8 ⟨ax, ay, az⟩ ⟨bx, by', bz⟩ = (Agg.zero, false) := by simp [Agg.aRest, Agg.give, hb]
      rw [e]
      go_enter Tryz.func111, Tryz.ntmps111
      go_wp2_with (go_at_call 123; refine (s_valueValid_8 _ _ _ _).mono ?_; rintro e w1 ⟨rfl, hb1⟩; obtain ⟨hc1, hf1⟩ := bcell hb1; obtain ⟨hz0, hz1, hz2⟩ : w.heap.size < w1.heap.size ∧ w.heap.size + 1 < w1.heap.size ∧ w.heap.size + 1 + 1 < w1.heap.size := (by have hzz := hb1.size; (try simp at hzz); omega); have hB1 : Below w.heap.size w w1 := Below.trans (by go_grown) (hb1.mono (by first | (simp; done) | (simp; omega) | omega)); clear hb1)
      refine bodyPost_ret (by simp [results, Tryz.results111, go_sem, *]; try rfl) rfl ?_
      exact ⟨ret_agg_bool rfl rfl rfl rfl, (by first | (go_grown; done) | (refine below_drewN ?_ _; go_grown; done) | (refine (below_drewN _ ?_); go_grown; done))⟩
    · have oa : Agg.ok 8 ⟨ax, ay, az⟩ = true := by simpa [Agg.valid, Agg.isKind] using ha
      have ob : Agg.ok 8 ⟨bx, by', bz⟩ = true := by simpa [Agg.valid, Agg.isKind] using hb
      obtain ⟨hx0, hx1, hy0, hy1, hz0, hz1⟩ := Agg.ok_bounds oa
      obtain ⟨kx0, kx1, ky0, ky1, kz0, kz1⟩ := Agg.ok_bounds ob
      simp only at hx0 hx1 hy0 hy1 hz0 hz1 kx0 kx1 ky0 ky1 kz0 kz1
      obtain ⟨a0, a1, a2, a3⟩ := Agg.ok_8' oa; obtain ⟨b0, b1, b2, b3⟩ := Agg.ok_8' ob; obtain ⟨-, i0, i1⟩ := Agg.inv_spec a0 a1; obtain ⟨p0, p1⟩ := Agg.mul_bounds kx0 b1 (show 0 ≤ Agg.inv ax by omega) i1; obtain ⟨r0, r1⟩ := Agg.mul_bounds hy0 a3 (Agg.mod97 (bx * Agg.inv ax)).1 (Agg.mod97 (bx * Agg.inv ax)).2
      clear oa ob
      have hr : Agg.rest 8 ⟨ax, ay, az⟩ ⟨bx, by', bz⟩ = ⟨bx * Agg.inv ax % 97, (by' + 9409 - ay * (bx * Agg.inv ax % 97)) % 97, 0⟩ := by simp [Agg.rest] <;> omega
      have e : Agg.aRest 8 ⟨ax, ay, az⟩ ⟨bx, by', bz⟩ = Agg.give (Agg.ok 8 ⟨bx * Agg.inv ax % 97, (by' + 9409 - ay * (bx * Agg.inv ax % 97)) % 97, 0⟩) ⟨bx * Agg.inv ax % 97, (by' + 9409 - ay * (bx * Agg.inv ax % 97)) % 97, 0⟩ := by rw [← hr]; simp [Agg.aRest, Agg.isKind, Agg.removes, ha, hb]
      rw [e]
      clear hr e
      cases hc : Agg.ok 8 ⟨bx * Agg.inv ax % 97, (by' + 9409 - ay * (bx * Agg.inv ax % 97)) % 97, 0⟩
      all_goals (go_enter Tryz.func111, Tryz.ntmps111)
      all_goals (go_wp2_with (go_at_call 123; refine (s_valueValid_8 _ _ _ _).mono ?_; rintro e w1 ⟨rfl, hb1⟩; obtain ⟨hc1, hf1⟩ := bcell hb1; obtain ⟨hz0, hz1, hz2⟩ : w.heap.size < w1.heap.size ∧ w.heap.size + 1 < w1.heap.size ∧ w.heap.size + 1 + 1 < w1.heap.size := (by have hzz := hb1.size; (try simp at hzz); omega); have hB1 : Below w.heap.size w w1 := Below.trans (by go_grown) (hb1.mono (by first | (simp; done) | (simp; omega) | omega)); clear hb1))
      all_goals (go_region_with (go_at_call 124; refine (s_back_any _ _ (by omega) (by omega)).mono ?_; rintro e w1 ⟨rfl, rfl⟩))
      all_goals (go_wp2_with (go_at_call 125; refine (s_is_8 _ _ _ _).mono ?_; rintro e w1 ⟨rfl, hb1⟩; obtain ⟨hc1, hf1⟩ := bcell hb1; obtain ⟨hz0, hz1, hz2⟩ : w.heap.size < w1.heap.size ∧ w.heap.size + 1 < w1.heap.size ∧ w.heap.size + 1 + 1 < w1.heap.size := (by have hzz := hb1.size; (try simp at hzz); omega); have hB1 : Below w.heap.size w w1 := Below.trans (by go_grown) (hb1.mono (by first | (simp; done) | (simp; omega) | omega)); clear hb1))
      all_goals (refine bodyPost_ret (by simp [results, Tryz.results111, go_sem, *]; try rfl) rfl ?_)
      all_goals (exact ⟨ret_agg_bool rfl rfl rfl rfl, (by first | (go_grown; done) | (refine below_drewN ?_ _; go_grown; done) | (refine (below_drewN _ ?_); go_grown; done))⟩)
end Go.Proofs.YtmlkdbmhekiniaaGreat
