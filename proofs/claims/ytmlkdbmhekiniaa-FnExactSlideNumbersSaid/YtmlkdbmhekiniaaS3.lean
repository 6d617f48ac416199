/-
  The model's functions of chapter 1 at some kinds, each against plain mathematics.
-/
import Derived.Test.YtmlkdbmhekiniaaS0
import Derived.Test.YtmlkdbmhekiniaaMa
namespace Go.Proofs.Ytmlkdbmhekiniaa
open Go.RowKit
set_option linter.unusedSimpArgs false
set_option linter.unusedVariables false
theorem s_kind_6 (w : World) : Calls Try.prog 13 #[.int .i64 6] w fun e w' => e = .returned (.bool true) ∧ w = w' := by
  go_enter Try.func13, Try.ntmps13
  go_wp2
  go_returns
  exact ⟨rfl, rfl⟩


theorem s_unit_6 (w : World) :
    Calls Try.prog 26 #[.int .i64 6] w fun e w' => e = .returned (.agg #[.int .i64 (Agg.unit 6).x, .int .i64 (Agg.unit 6).y, .int .i64 (Agg.unit 6).z]) ∧ Below w.heap.size w w' := by
  go_enter Try.func26, Try.ntmps26
  go_wp2
  all_goals (go_returns; exact ⟨ret_agg (by simp [Agg.unit]) (by simp [Agg.unit]) (by simp [Agg.unit]), (by first | (go_grown; done) | (refine below_drewN ?_ _; go_grown; done) | (refine (below_drewN _ ?_); go_grown; done))⟩)


theorem s_lift_6 (n : Int) (w : World) (_h0 : 0 ≤ n) (_h1 : n ≤ 96) :
    Calls Try.prog 28 #[.int .i64 6, .int .i64 n] w fun e w' => e = .returned (.agg #[.int .i64 (Agg.lift 6 n).x, .int .i64 (Agg.lift 6 n).y, .int .i64 (Agg.lift 6 n).z]) ∧ Below w.heap.size w w' := by
  go_enter Try.func28, Try.ntmps28
  go_wp2
  all_goals (go_returns; exact ⟨ret_agg (by simp [Agg.lift] <;> omega) (by simp [Agg.lift] <;> omega) (by simp [Agg.lift] <;> omega), (by first | (go_grown; done) | (refine below_drewN ?_ _; go_grown; done) | (refine (below_drewN _ ?_); go_grown; done))⟩)


set_option maxHeartbeats 4000000 in
theorem s_combine_6 (ax ay az bx by' bz : Int) (w : World) (h : Agg.ok 6 ⟨ax, ay, az⟩ = true) (h' : Agg.ok 6 ⟨bx, by', bz⟩ = true) :
    Calls Try.prog 27 #[.int .i64 6, .agg #[.int .i64 ax, .int .i64 ay, .int .i64 az], .agg #[.int .i64 bx, .int .i64 by', .int .i64 bz]] w fun e w' => e = .returned (.agg #[.int .i64 (Agg.comb 6 ⟨ax, ay, az⟩ ⟨bx, by', bz⟩).x, .int .i64 (Agg.comb 6 ⟨ax, ay, az⟩ ⟨bx, by', bz⟩).y, .int .i64 (Agg.comb 6 ⟨ax, ay, az⟩ ⟨bx, by', bz⟩).z]) ∧ Below w.heap.size w w' := by
  obtain ⟨hx0, hx1, hy0, hy1, hz0, hz1⟩ := Agg.ok_bounds h
  obtain ⟨kx0, kx1, ky0, ky1, kz0, kz1⟩ := Agg.ok_bounds h'
  simp only at hx0 hx1 hy0 hy1 hz0 hz1 kx0 kx1 ky0 ky1 kz0 kz1
  
  have H := Lib.hid h; clear h
  have H' := Lib.hid h'; clear h'
  go_each [ay = 0,by' = 0] => (go_enter Try.func27, Try.ntmps27; go_wp2;  (all_goals (go_returns; exact ⟨ret_agg (by simp [Agg.comb, *] <;> (repeat' split) <;> first | omega | rfl | (simp <;> omega)) (by simp [Agg.comb, *] <;> (repeat' split) <;> first | omega | rfl | (simp <;> omega)) (by simp [Agg.comb, *] <;> (repeat' split) <;> first | omega | rfl | (simp <;> omega)), (by first | (go_grown; done) | (refine below_drewN ?_ _; go_grown; done) | (refine (below_drewN _ ?_); go_grown; done))⟩)))



set_option maxHeartbeats 1000000 in
theorem s_lower_6 (x y z : Int) (w : World) (h : Agg.ok 6 ⟨x, y, z⟩ = true) :
    Calls Try.prog 25 #[.int .i64 6, .agg #[.int .i64 x, .int .i64 y, .int .i64 z]] w fun e w' => e = .returned (.tuple #[.int .i64 (Agg.low 6 ⟨x, y, z⟩).1, .bool (Agg.low 6 ⟨x, y, z⟩).2]) ∧ Below w.heap.size w w' := by
  obtain ⟨hx0, hx1, hy0, hy1, hz0, hz1⟩ := Agg.ok_bounds h
  simp only at hx0 hx1 hy0 hy1 hz0 hz1
  have oy : y = 0 ∨ y = 1 := Agg.ok_pick h (by decide)
  clear h
  go_each [y = 0,y = 1] => (go_enter Try.func25, Try.ntmps25; go_wp2; (all_goals (try (go_quiet (fail); go_wp2))); (all_goals (go_returns; exact ⟨ret_int_bool (by simp [Agg.low, *] <;> omega) (by simp [Agg.low, *] <;> omega), (by first | (go_grown; done) | (refine below_drewN ?_ _; go_grown; done) | (refine (below_drewN _ ?_); go_grown; done))⟩)))



theorem s_kind_7 (w : World) : Calls Try.prog 13 #[.int .i64 7] w fun e w' => e = .returned (.bool true) ∧ w = w' := by
  go_enter Try.func13, Try.ntmps13
  go_wp2
  go_returns
  exact ⟨rfl, rfl⟩


theorem s_unit_7 (w : World) :
    Calls Try.prog 26 #[.int .i64 7] w fun e w' => e = .returned (.agg #[.int .i64 (Agg.unit 7).x, .int .i64 (Agg.unit 7).y, .int .i64 (Agg.unit 7).z]) ∧ Below w.heap.size w w' := by
  go_enter Try.func26, Try.ntmps26
  go_wp2
  all_goals (go_returns; exact ⟨ret_agg (by simp [Agg.unit]) (by simp [Agg.unit]) (by simp [Agg.unit]), (by first | (go_grown; done) | (refine below_drewN ?_ _; go_grown; done) | (refine (below_drewN _ ?_); go_grown; done))⟩)


theorem s_lift_7 (n : Int) (w : World) (_h0 : 0 ≤ n) (_h1 : n ≤ 96) :
    Calls Try.prog 28 #[.int .i64 7, .int .i64 n] w fun e w' => e = .returned (.agg #[.int .i64 (Agg.lift 7 n).x, .int .i64 (Agg.lift 7 n).y, .int .i64 (Agg.lift 7 n).z]) ∧ Below w.heap.size w w' := by
  go_enter Try.func28, Try.ntmps28
  go_wp2
  all_goals (go_returns; exact ⟨ret_agg (by simp [Agg.lift] <;> omega) (by simp [Agg.lift] <;> omega) (by simp [Agg.lift] <;> omega), (by first | (go_grown; done) | (refine below_drewN ?_ _; go_grown; done) | (refine (below_drewN _ ?_); go_grown; done))⟩)


set_option maxHeartbeats 4000000 in
theorem s_combine_7 (ax ay az bx by' bz : Int) (w : World) (h : Agg.ok 7 ⟨ax, ay, az⟩ = true) (h' : Agg.ok 7 ⟨bx, by', bz⟩ = true) :
    Calls Try.prog 27 #[.int .i64 7, .agg #[.int .i64 ax, .int .i64 ay, .int .i64 az], .agg #[.int .i64 bx, .int .i64 by', .int .i64 bz]] w fun e w' => e = .returned (.agg #[.int .i64 (Agg.comb 7 ⟨ax, ay, az⟩ ⟨bx, by', bz⟩).x, .int .i64 (Agg.comb 7 ⟨ax, ay, az⟩ ⟨bx, by', bz⟩).y, .int .i64 (Agg.comb 7 ⟨ax, ay, az⟩ ⟨bx, by', bz⟩).z]) ∧ Below w.heap.size w w' := by
  obtain ⟨hx0, hx1, hy0, hy1, hz0, hz1⟩ := Agg.ok_bounds h
  obtain ⟨kx0, kx1, ky0, ky1, kz0, kz1⟩ := Agg.ok_bounds h'
  simp only at hx0 hx1 hy0 hy1 hz0 hz1 kx0 kx1 ky0 ky1 kz0 kz1
  
  have H := Lib.hid h; clear h
  have H' := Lib.hid h'; clear h'
  go_each [] => (go_enter Try.func27, Try.ntmps27; go_wp2;  (all_goals (go_returns; exact ⟨ret_agg (by simp [Agg.comb, *] <;> (repeat' split) <;> first | omega | rfl | (simp <;> omega)) (by simp [Agg.comb, *] <;> (repeat' split) <;> first | omega | rfl | (simp <;> omega)) (by simp [Agg.comb, *] <;> (repeat' split) <;> first | omega | rfl | (simp <;> omega)), (by first | (go_grown; done) | (refine below_drewN ?_ _; go_grown; done) | (refine (below_drewN _ ?_); go_grown; done))⟩)))



set_option maxHeartbeats 1000000 in
theorem s_lower_7 (x y z : Int) (w : World) (h : Agg.ok 7 ⟨x, y, z⟩ = true) :
    Calls Try.prog 25 #[.int .i64 7, .agg #[.int .i64 x, .int .i64 y, .int .i64 z]] w fun e w' => e = .returned (.tuple #[.int .i64 (Agg.low 7 ⟨x, y, z⟩).1, .bool (Agg.low 7 ⟨x, y, z⟩).2]) ∧ Below w.heap.size w w' := by
  obtain ⟨hx0, hx1, hy0, hy1, hz0, hz1⟩ := Agg.ok_bounds h
  simp only at hx0 hx1 hy0 hy1 hz0 hz1
  
  clear h
  go_each [y = 0] => (go_enter Try.func25, Try.ntmps25; go_wp2; (all_goals (try (go_quiet (fail); go_wp2))); (all_goals (go_returns; exact ⟨ret_int_bool (by simp [Agg.low, *] <;> omega) (by simp [Agg.low, *] <;> omega), (by first | (go_grown; done) | (refine below_drewN ?_ _; go_grown; done) | (refine (below_drewN _ ?_); go_grown; done))⟩)))



theorem s_kind_8 (w : World) : Calls Try.prog 13 #[.int .i64 8] w fun e w' => e = .returned (.bool true) ∧ w = w' := by
  go_enter Try.func13, Try.ntmps13
  go_wp2
  go_returns
  exact ⟨rfl, rfl⟩


theorem s_unit_8 (w : World) :
    Calls Try.prog 26 #[.int .i64 8] w fun e w' => e = .returned (.agg #[.int .i64 (Agg.unit 8).x, .int .i64 (Agg.unit 8).y, .int .i64 (Agg.unit 8).z]) ∧ Below w.heap.size w w' := by
  go_enter Try.func26, Try.ntmps26
  go_wp2
  all_goals (go_returns; exact ⟨ret_agg (by simp [Agg.unit]) (by simp [Agg.unit]) (by simp [Agg.unit]), (by first | (go_grown; done) | (refine below_drewN ?_ _; go_grown; done) | (refine (below_drewN _ ?_); go_grown; done))⟩)


theorem s_lift_8 (n : Int) (w : World) (_h0 : 0 ≤ n) (_h1 : n ≤ 96) :
    Calls Try.prog 28 #[.int .i64 8, .int .i64 n] w fun e w' => e = .returned (.agg #[.int .i64 (Agg.lift 8 n).x, .int .i64 (Agg.lift 8 n).y, .int .i64 (Agg.lift 8 n).z]) ∧ Below w.heap.size w w' := by
  go_enter Try.func28, Try.ntmps28
  go_wp2
  all_goals (go_returns; exact ⟨ret_agg (by simp [Agg.lift] <;> omega) (by simp [Agg.lift] <;> omega) (by simp [Agg.lift] <;> omega), (by first | (go_grown; done) | (refine below_drewN ?_ _; go_grown; done) | (refine (below_drewN _ ?_); go_grown; done))⟩)


set_option maxHeartbeats 4000000 in
theorem s_combine_8 (ax ay az bx by' bz : Int) (w : World) (h : Agg.ok 8 ⟨ax, ay, az⟩ = true) (h' : Agg.ok 8 ⟨bx, by', bz⟩ = true) :
    Calls Try.prog 27 #[.int .i64 8, .agg #[.int .i64 ax, .int .i64 ay, .int .i64 az], .agg #[.int .i64 bx, .int .i64 by', .int .i64 bz]] w fun e w' => e = .returned (.agg #[.int .i64 (Agg.comb 8 ⟨ax, ay, az⟩ ⟨bx, by', bz⟩).x, .int .i64 (Agg.comb 8 ⟨ax, ay, az⟩ ⟨bx, by', bz⟩).y, .int .i64 (Agg.comb 8 ⟨ax, ay, az⟩ ⟨bx, by', bz⟩).z]) ∧ Below w.heap.size w w' := by
  obtain ⟨hx0, hx1, hy0, hy1, hz0, hz1⟩ := Agg.ok_bounds h
  obtain ⟨kx0, kx1, ky0, ky1, kz0, kz1⟩ := Agg.ok_bounds h'
  simp only at hx0 hx1 hy0 hy1 hz0 hz1 kx0 kx1 ky0 ky1 kz0 kz1
  obtain ⟨p0, p1⟩ := Agg.mul_bounds hx0 hx1 kx0 kx1; obtain ⟨q0, q1⟩ := Agg.mul_bounds hy0 hy1 kx0 kx1
  have H := Lib.hid h; clear h
  have H' := Lib.hid h'; clear h'
  go_each [] => (go_enter Try.func27, Try.ntmps27; go_wp2; go_region; (all_goals go_wp2); (all_goals (go_returns; exact ⟨ret_agg (by simp [Agg.comb, *] <;> (repeat' split) <;> first | omega | rfl | (simp <;> omega)) (by simp [Agg.comb, *] <;> (repeat' split) <;> first | omega | rfl | (simp <;> omega)) (by simp [Agg.comb, *] <;> (repeat' split) <;> first | omega | rfl | (simp <;> omega)), (by first | (go_grown; done) | (refine below_drewN ?_ _; go_grown; done) | (refine (below_drewN _ ?_); go_grown; done))⟩)))



set_option maxHeartbeats 1000000 in
theorem s_lower_8 (x y z : Int) (w : World) (h : Agg.ok 8 ⟨x, y, z⟩ = true) :
    Calls Try.prog 25 #[.int .i64 8, .agg #[.int .i64 x, .int .i64 y, .int .i64 z]] w fun e w' => e = .returned (.tuple #[.int .i64 (Agg.low 8 ⟨x, y, z⟩).1, .bool (Agg.low 8 ⟨x, y, z⟩).2]) ∧ Below w.heap.size w w' := by
  obtain ⟨hx0, hx1, hy0, hy1, hz0, hz1⟩ := Agg.ok_bounds h
  simp only at hx0 hx1 hy0 hy1 hz0 hz1
  
  clear h
  go_each [] => (go_enter Try.func25, Try.ntmps25; go_wp2; (all_goals (try (go_quiet (fail); go_wp2))); (all_goals (go_returns; exact ⟨ret_int_bool (by simp [Agg.low, *] <;> omega) (by simp [Agg.low, *] <;> omega), (by first | (go_grown; done) | (refine below_drewN ?_ _; go_grown; done) | (refine (below_drewN _ ?_); go_grown; done))⟩)))



end Go.Proofs.Ytmlkdbmhekiniaa
