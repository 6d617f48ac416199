/-
  What is left of a whole without its first part, at the four kinds that have inverses.
-/
import Derived.Test.YtikdjdoggjhmaaaGreatI
import Derived.Test.YtikdjdoggjhmaaaGreatMa
import Derived.Deep.RegionHeld3
namespace Go.Proofs.YtikdjdoggjhmaaaGreat
set_option linter.unusedSimpArgs false
set_option linter.unusedVariables false
open Go.RowKit
theorem Agg.ok_1 {ax ay az bx by' bz : Int} (h : Agg.ok 1 ⟨ax, ay, az⟩ = true) (h' : Agg.ok 1 ⟨bx, by', bz⟩ = true) : ax ≤ 96 ∧ bx ≤ 96 := by
  simp [Agg.ok] at h h'; omega
theorem Agg.ok_8' {x y z : Int} (h : Agg.ok 8 ⟨x, y, z⟩ = true) : 1 ≤ x ∧ x ≤ 96 ∧ 0 ≤ y ∧ y ≤ 96 := by
  simp [Agg.ok] at h; omega
set_option maxHeartbeats 2000000 in
theorem rest_1 (ax ay az bx by' bz : Int) (w : World) (h : Agg.ok 1 ⟨ax, ay, az⟩ = true) (h' : Agg.ok 1 ⟨bx, by', bz⟩ = true) :
    Calls Tryz.prog 148 #[.agg #[], .agg #[.int .i64 ax, .int .i64 ay, .int .i64 az], .agg #[.int .i64 bx, .int .i64 by', .int .i64 bz]] w fun e w' => e = .returned (.agg #[.int .i64 (Agg.rest 1 ⟨ax, ay, az⟩ ⟨bx, by', bz⟩).x, .int .i64 (Agg.rest 1 ⟨ax, ay, az⟩ ⟨bx, by', bz⟩).y, .int .i64 (Agg.rest 1 ⟨ax, ay, az⟩ ⟨bx, by', bz⟩).z]) ∧ Below w.heap.size w w' := by
  obtain ⟨hx0, hx1, hy0, hy1, hz0, hz1⟩ := Agg.ok_bounds h
  obtain ⟨kx0, kx1, ky0, ky1, kz0, kz1⟩ := Agg.ok_bounds h'
  simp only at hx0 hx1 hy0 hy1 hz0 hz1 kx0 kx1 ky0 ky1 kz0 kz1
  obtain ⟨hx2, kx2⟩ := Agg.ok_1 h h'
  have H := Lib.hid h; clear h
  have H' := Lib.hid h'; clear h'
  go_enter Tryz.func148, Tryz.ntmps148
  go_wp2_with (go_at_call 151; refine (less_any _ _ _ (by omega) (by omega) (by omega) (by omega)).mono ?_; rintro e w1 ⟨rfl, rfl⟩)
  all_goals (go_returns; exact ⟨ret_agg (by simp [Agg.rest] <;> omega) (by simp [Agg.rest] <;> omega) (by simp [Agg.rest] <;> omega), (by first | (go_grown; done) | (refine below_drewN ?_ _; go_grown; done) | (refine (below_drewN _ ?_); go_grown; done))⟩)
set_option maxHeartbeats 2000000 in
theorem rest_2 (ax ay az bx by' bz : Int) (w : World) (h : Agg.ok 2 ⟨ax, ay, az⟩ = true) (h' : Agg.ok 2 ⟨bx, by', bz⟩ = true) :
    Calls Tryz.prog 156 #[.agg #[], .agg #[.int .i64 ax, .int .i64 ay, .int .i64 az], .agg #[.int .i64 bx, .int .i64 by', .int .i64 bz]] w fun e w' => e = .returned (.agg #[.int .i64 (Agg.rest 2 ⟨ax, ay, az⟩ ⟨bx, by', bz⟩).x, .int .i64 (Agg.rest 2 ⟨ax, ay, az⟩ ⟨bx, by', bz⟩).y, .int .i64 (Agg.rest 2 ⟨ax, ay, az⟩ ⟨bx, by', bz⟩).z]) ∧ Below w.heap.size w w' := by
  obtain ⟨hx0, hx1, hy0, hy1, hz0, hz1⟩ := Agg.ok_bounds h
  obtain ⟨kx0, kx1, ky0, ky1, kz0, kz1⟩ := Agg.ok_bounds h'
  simp only at hx0 hx1 hy0 hy1 hz0 hz1 kx0 kx1 ky0 ky1 kz0 kz1
  
  have H := Lib.hid h; clear h
  have H' := Lib.hid h'; clear h'
  go_enter Tryz.func156, Tryz.ntmps156
  go_wp2
  all_goals (go_returns; exact ⟨ret_agg (by simp [Agg.rest] <;> omega) (by simp [Agg.rest] <;> omega) (by simp [Agg.rest] <;> omega), (by first | (go_grown; done) | (refine below_drewN ?_ _; go_grown; done) | (refine (below_drewN _ ?_); go_grown; done))⟩)
set_option maxHeartbeats 2000000 in
theorem rest_7 (ax ay az bx by' bz : Int) (w : World) (h : Agg.ok 7 ⟨ax, ay, az⟩ = true) (h' : Agg.ok 7 ⟨bx, by', bz⟩ = true) :
    Calls Tryz.prog 194 #[.agg #[], .agg #[.int .i64 ax, .int .i64 ay, .int .i64 az], .agg #[.int .i64 bx, .int .i64 by', .int .i64 bz]] w fun e w' => e = .returned (.agg #[.int .i64 (Agg.rest 7 ⟨ax, ay, az⟩ ⟨bx, by', bz⟩).x, .int .i64 (Agg.rest 7 ⟨ax, ay, az⟩ ⟨bx, by', bz⟩).y, .int .i64 (Agg.rest 7 ⟨ax, ay, az⟩ ⟨bx, by', bz⟩).z]) ∧ Below w.heap.size w w' := by
  obtain ⟨hx0, hx1, hy0, hy1, hz0, hz1⟩ := Agg.ok_bounds h
  obtain ⟨kx0, kx1, ky0, ky1, kz0, kz1⟩ := Agg.ok_bounds h'
  simp only at hx0 hx1 hy0 hy1 hz0 hz1 kx0 kx1 ky0 ky1 kz0 kz1
  
  have H := Lib.hid h; clear h
  have H' := Lib.hid h'; clear h'
  go_enter Tryz.func194, Tryz.ntmps194
  go_wp2
  all_goals (go_returns; exact ⟨ret_agg (by simp [Agg.rest] <;> omega) (by simp [Agg.rest] <;> omega) (by simp [Agg.rest] <;> omega), (by first | (go_grown; done) | (refine below_drewN ?_ _; go_grown; done) | (refine (below_drewN _ ?_); go_grown; done))⟩)
set_option maxHeartbeats 2000000 in
theorem rest_8 (ax ay az bx by' bz : Int) (w : World) (h : Agg.ok 8 ⟨ax, ay, az⟩ = true) (h' : Agg.ok 8 ⟨bx, by', bz⟩ = true) :
    Calls Tryz.prog 201 #[.agg #[], .agg #[.int .i64 ax, .int .i64 ay, .int .i64 az], .agg #[.int .i64 bx, .int .i64 by', .int .i64 bz]] w fun e w' => e = .returned (.agg #[.int .i64 (Agg.rest 8 ⟨ax, ay, az⟩ ⟨bx, by', bz⟩).x, .int .i64 (Agg.rest 8 ⟨ax, ay, az⟩ ⟨bx, by', bz⟩).y, .int .i64 (Agg.rest 8 ⟨ax, ay, az⟩ ⟨bx, by', bz⟩).z]) ∧ Below w.heap.size w w' := by
  obtain ⟨hx0, hx1, hy0, hy1, hz0, hz1⟩ := Agg.ok_bounds h
  obtain ⟨kx0, kx1, ky0, ky1, kz0, kz1⟩ := Agg.ok_bounds h'
  simp only at hx0 hx1 hy0 hy1 hz0 hz1 kx0 kx1 ky0 ky1 kz0 kz1
  obtain ⟨a0, a1, a2, a3⟩ := Agg.ok_8' h; obtain ⟨b0, b1, b2, b3⟩ := Agg.ok_8' h'; obtain ⟨-, i0, i1⟩ := Agg.inv_spec a0 a1; obtain ⟨p0, p1⟩ := Agg.mul_bounds kx0 b1 (show 0 ≤ Agg.inv ax by omega) i1; obtain ⟨r0, r1⟩ := Agg.mul_bounds hy0 a3 (Agg.mod97 (bx * Agg.inv ax)).1 (Agg.mod97 (bx * Agg.inv ax)).2
  have H := Lib.hid h; clear h
  have H' := Lib.hid h'; clear h'
  go_enter Tryz.func201, Tryz.ntmps201
  go_wp2_with fail; go_region_with (go_at_call 204; refine (inverse_any _ _ (by omega) (by omega)).mono ?_; rintro e w1 ⟨rfl, rfl⟩); (all_goals go_wp2_with (go_at_call 151; refine (less_any _ _ _ (by omega) (by omega) (by omega) (by omega)).mono ?_; rintro e w1 ⟨rfl, rfl⟩))
  all_goals (go_returns; exact ⟨ret_agg (by simp [Agg.rest] <;> omega) (by simp [Agg.rest] <;> omega) (by simp [Agg.rest] <;> omega), (by first | (go_grown; done) | (refine below_drewN ?_ _; go_grown; done) | (refine (below_drewN _ ?_); go_grown; done))⟩)
end Go.Proofs.YtikdjdoggjhmaaaGreat
