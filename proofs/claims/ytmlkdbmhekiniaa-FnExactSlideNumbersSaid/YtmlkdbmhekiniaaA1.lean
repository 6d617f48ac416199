/-
  The methods of some kinds of aggregates, each against plain mathematics.
-/
import Derived.Test.YtmlkdbmhekiniaaA
namespace Go.Proofs.Ytmlkdbmhekiniaa
set_option linter.unusedSimpArgs false
open Go.RowKit
theorem kindOf_1 (w : World) : Calls Try.prog 29 #[.int .i64 1] w fun e w' => e = .returned (.tuple #[.iface 55 (.agg #[]), .bool true]) ∧ w = w' := by
  go_enter Try.func29, Try.ntmps29
  go_wp2
  go_ret2
  exact ⟨rfl, rfl⟩

set_option maxHeartbeats 400000 in
theorem valid_1 (x y z : Int) (w : World) :
    Calls Try.prog 58 #[.agg #[], .agg #[.int .i64 x, .int .i64 y, .int .i64 z]] w fun e w' => e = .returned (.bool (Agg.ok 1 ⟨x, y, z⟩)) ∧ Below w.heap.size w w' := by
  go_enter Try.func58, Try.ntmps58
  go_wp2
  all_goals (go_returns; exact ⟨ret_bool (by rw [Bool.eq_iff_iff]; simp [Agg.ok] <;> omega), (by first | (go_grown; done) | (refine below_drewN ?_ _; go_grown; done) | (refine (below_drewN _ ?_); go_grown; done))⟩)

theorem lift_1 (n : Int) (w : World) (_h0 : 0 ≤ n) (_h1 : n ≤ 96) :
    Calls Try.prog 55 #[.agg #[], .int .i64 n] w fun e w' => e = .returned (.agg #[.int .i64 (Agg.lift 1 n).x, .int .i64 (Agg.lift 1 n).y, .int .i64 (Agg.lift 1 n).z]) ∧ Below w.heap.size w w' := by
  go_enter Try.func55, Try.ntmps55
  go_wp2
  all_goals (go_returns; exact ⟨ret_agg (by simp [Agg.lift] <;> omega) (by simp [Agg.lift] <;> omega) (by simp [Agg.lift] <;> omega), (by first | (go_grown; done) | (refine below_drewN ?_ _; go_grown; done) | (refine (below_drewN _ ?_); go_grown; done))⟩)

theorem unit_1 (w : World) :
    Calls Try.prog 57 #[.agg #[]] w fun e w' => e = .returned (.agg #[.int .i64 (Agg.unit 1).x, .int .i64 (Agg.unit 1).y, .int .i64 (Agg.unit 1).z]) ∧ Below w.heap.size w w' := by
  go_enter Try.func57, Try.ntmps57
  go_wp2
  all_goals (go_returns; exact ⟨ret_agg (by simp [Agg.unit]) (by simp [Agg.unit]) (by simp [Agg.unit]), (by first | (go_grown; done) | (refine below_drewN ?_ _; go_grown; done) | (refine (below_drewN _ ?_); go_grown; done))⟩)

theorem cells_1 : Try.prog.cellsOf 55 = 0 := by kernel_rfl

set_option maxHeartbeats 1000000 in
theorem lower_1 (x y z : Int) (w : World) (h : Agg.ok 1 ⟨x, y, z⟩ = true) :
    Calls Try.prog 56 #[.agg #[], .agg #[.int .i64 x, .int .i64 y, .int .i64 z]] w fun e w' => e = .returned (.tuple #[.int .i64 (Agg.low 1 ⟨x, y, z⟩).1, .bool (Agg.low 1 ⟨x, y, z⟩).2]) ∧ Below w.heap.size w w' := by
  obtain ⟨hx0, hx1, hy0, hy1, hz0, hz1⟩ := Agg.ok_bounds h
  simp only at hx0 hx1 hy0 hy1 hz0 hz1
  clear h
  go_each [] => (go_enter Try.func56, Try.ntmps56; go_wp2; (all_goals (try (go_quiet (fail); go_wp2))); (all_goals (go_returns; exact ⟨ret_int_bool (by simp [Agg.low, *] <;> omega) (by simp [Agg.low, *] <;> omega), (by first | (go_grown; done) | (refine below_drewN ?_ _; go_grown; done) | (refine (below_drewN _ ?_); go_grown; done))⟩)))

set_option maxHeartbeats 4000000 in
theorem combine_1 (ax ay az bx by' bz : Int) (w : World) (h : Agg.ok 1 ⟨ax, ay, az⟩ = true) (h' : Agg.ok 1 ⟨bx, by', bz⟩ = true) :
    Calls Try.prog 53 #[.agg #[], .agg #[.int .i64 ax, .int .i64 ay, .int .i64 az], .agg #[.int .i64 bx, .int .i64 by', .int .i64 bz]] w fun e w' => e = .returned (.agg #[.int .i64 (Agg.comb 1 ⟨ax, ay, az⟩ ⟨bx, by', bz⟩).x, .int .i64 (Agg.comb 1 ⟨ax, ay, az⟩ ⟨bx, by', bz⟩).y, .int .i64 (Agg.comb 1 ⟨ax, ay, az⟩ ⟨bx, by', bz⟩).z]) ∧ Below w.heap.size w w' := by
  obtain ⟨hx0, hx1, hy0, hy1, hz0, hz1⟩ := Agg.ok_bounds h
  obtain ⟨kx0, kx1, ky0, ky1, kz0, kz1⟩ := Agg.ok_bounds h'
  simp only at hx0 hx1 hy0 hy1 hz0 hz1 kx0 kx1 ky0 ky1 kz0 kz1
  
  have H := Lib.hid h; clear h
  have H' := Lib.hid h'; clear h'
  have hp := part4 w 55 cells_1
  go_each [] => (go_enter Try.func53, Try.ntmps53; go_wp2; (all_goals (go_returns; exact ⟨ret_agg (by simp [Agg.comb, *] <;> (repeat' split) <;> first | omega | rfl | (simp <;> omega)) (by simp [Agg.comb, *] <;> (repeat' split) <;> first | omega | rfl | (simp <;> omega)) (by simp [Agg.comb, *] <;> (repeat' split) <;> first | omega | rfl | (simp <;> omega)), (by first | (go_grown; done) | (refine below_drewN ?_ _; go_grown; done) | (refine (below_drewN _ ?_); go_grown; done))⟩)))
theorem kindOf_2 (w : World) : Calls Try.prog 29 #[.int .i64 2] w fun e w' => e = .returned (.tuple #[.iface 56 (.agg #[]), .bool true]) ∧ w = w' := by
  go_enter Try.func29, Try.ntmps29
  go_wp2
  go_ret2
  exact ⟨rfl, rfl⟩

set_option maxHeartbeats 400000 in
theorem valid_2 (x y z : Int) (w : World) :
    Calls Try.prog 64 #[.agg #[], .agg #[.int .i64 x, .int .i64 y, .int .i64 z]] w fun e w' => e = .returned (.bool (Agg.ok 2 ⟨x, y, z⟩)) ∧ Below w.heap.size w w' := by
  go_enter Try.func64, Try.ntmps64
  go_wp2
  all_goals (go_returns; exact ⟨ret_bool (by rw [Bool.eq_iff_iff]; simp [Agg.ok] <;> omega), (by first | (go_grown; done) | (refine below_drewN ?_ _; go_grown; done) | (refine (below_drewN _ ?_); go_grown; done))⟩)

theorem lift_2 (n : Int) (w : World) (_h0 : 0 ≤ n) (_h1 : n ≤ 96) :
    Calls Try.prog 61 #[.agg #[], .int .i64 n] w fun e w' => e = .returned (.agg #[.int .i64 (Agg.lift 2 n).x, .int .i64 (Agg.lift 2 n).y, .int .i64 (Agg.lift 2 n).z]) ∧ Below w.heap.size w w' := by
  go_enter Try.func61, Try.ntmps61
  go_wp2
  all_goals (go_returns; exact ⟨ret_agg (by simp [Agg.lift] <;> omega) (by simp [Agg.lift] <;> omega) (by simp [Agg.lift] <;> omega), (by first | (go_grown; done) | (refine below_drewN ?_ _; go_grown; done) | (refine (below_drewN _ ?_); go_grown; done))⟩)

theorem unit_2 (w : World) :
    Calls Try.prog 63 #[.agg #[]] w fun e w' => e = .returned (.agg #[.int .i64 (Agg.unit 2).x, .int .i64 (Agg.unit 2).y, .int .i64 (Agg.unit 2).z]) ∧ Below w.heap.size w w' := by
  go_enter Try.func63, Try.ntmps63
  go_wp2
  all_goals (go_returns; exact ⟨ret_agg (by simp [Agg.unit]) (by simp [Agg.unit]) (by simp [Agg.unit]), (by first | (go_grown; done) | (refine below_drewN ?_ _; go_grown; done) | (refine (below_drewN _ ?_); go_grown; done))⟩)

theorem cells_2 : Try.prog.cellsOf 56 = 0 := by kernel_rfl

set_option maxHeartbeats 1000000 in
theorem lower_2 (x y z : Int) (w : World) (h : Agg.ok 2 ⟨x, y, z⟩ = true) :
    Calls Try.prog 62 #[.agg #[], .agg #[.int .i64 x, .int .i64 y, .int .i64 z]] w fun e w' => e = .returned (.tuple #[.int .i64 (Agg.low 2 ⟨x, y, z⟩).1, .bool (Agg.low 2 ⟨x, y, z⟩).2]) ∧ Below w.heap.size w w' := by
  obtain ⟨hx0, hx1, hy0, hy1, hz0, hz1⟩ := Agg.ok_bounds h
  simp only at hx0 hx1 hy0 hy1 hz0 hz1
  clear h
  go_each [] => (go_enter Try.func62, Try.ntmps62; go_wp2; (all_goals (try (go_quiet (fail); go_wp2))); (all_goals (go_returns; exact ⟨ret_int_bool (by simp [Agg.low, *] <;> omega) (by simp [Agg.low, *] <;> omega), (by first | (go_grown; done) | (refine below_drewN ?_ _; go_grown; done) | (refine (below_drewN _ ?_); go_grown; done))⟩)))

set_option maxHeartbeats 4000000 in
theorem combine_2 (ax ay az bx by' bz : Int) (w : World) (h : Agg.ok 2 ⟨ax, ay, az⟩ = true) (h' : Agg.ok 2 ⟨bx, by', bz⟩ = true) :
    Calls Try.prog 59 #[.agg #[], .agg #[.int .i64 ax, .int .i64 ay, .int .i64 az], .agg #[.int .i64 bx, .int .i64 by', .int .i64 bz]] w fun e w' => e = .returned (.agg #[.int .i64 (Agg.comb 2 ⟨ax, ay, az⟩ ⟨bx, by', bz⟩).x, .int .i64 (Agg.comb 2 ⟨ax, ay, az⟩ ⟨bx, by', bz⟩).y, .int .i64 (Agg.comb 2 ⟨ax, ay, az⟩ ⟨bx, by', bz⟩).z]) ∧ Below w.heap.size w w' := by
  obtain ⟨hx0, hx1, hy0, hy1, hz0, hz1⟩ := Agg.ok_bounds h
  obtain ⟨kx0, kx1, ky0, ky1, kz0, kz1⟩ := Agg.ok_bounds h'
  simp only at hx0 hx1 hy0 hy1 hz0 hz1 kx0 kx1 ky0 ky1 kz0 kz1
  
  have H := Lib.hid h; clear h
  have H' := Lib.hid h'; clear h'
  have hp := part4 w 56 cells_2
  go_each [] => (go_enter Try.func59, Try.ntmps59; go_wp2; (all_goals (go_returns; exact ⟨ret_agg (by simp [Agg.comb, *] <;> (repeat' split) <;> first | omega | rfl | (simp <;> omega)) (by simp [Agg.comb, *] <;> (repeat' split) <;> first | omega | rfl | (simp <;> omega)) (by simp [Agg.comb, *] <;> (repeat' split) <;> first | omega | rfl | (simp <;> omega)), (by first | (go_grown; done) | (refine below_drewN ?_ _; go_grown; done) | (refine (below_drewN _ ?_); go_grown; done))⟩)))
theorem kindOf_3 (w : World) : Calls Try.prog 29 #[.int .i64 3] w fun e w' => e = .returned (.tuple #[.iface 59 (.agg #[]), .bool true]) ∧ w = w' := by
  go_enter Try.func29, Try.ntmps29
  go_wp2
  go_ret2
  exact ⟨rfl, rfl⟩

set_option maxHeartbeats 400000 in
theorem valid_3 (x y z : Int) (w : World) :
    Calls Try.prog 71 #[.agg #[], .agg #[.int .i64 x, .int .i64 y, .int .i64 z]] w fun e w' => e = .returned (.bool (Agg.ok 3 ⟨x, y, z⟩)) ∧ Below w.heap.size w w' := by
  go_enter Try.func71, Try.ntmps71
  go_wp2
  all_goals (go_returns; exact ⟨ret_bool (by rw [Bool.eq_iff_iff]; simp [Agg.ok] <;> omega), (by first | (go_grown; done) | (refine below_drewN ?_ _; go_grown; done) | (refine (below_drewN _ ?_); go_grown; done))⟩)

theorem lift_3 (n : Int) (w : World) (_h0 : 0 ≤ n) (_h1 : n ≤ 96) :
    Calls Try.prog 68 #[.agg #[], .int .i64 n] w fun e w' => e = .returned (.agg #[.int .i64 (Agg.lift 3 n).x, .int .i64 (Agg.lift 3 n).y, .int .i64 (Agg.lift 3 n).z]) ∧ Below w.heap.size w w' := by
  go_enter Try.func68, Try.ntmps68
  go_wp2
  all_goals (go_returns; exact ⟨ret_agg (by simp [Agg.lift] <;> omega) (by simp [Agg.lift] <;> omega) (by simp [Agg.lift] <;> omega), (by first | (go_grown; done) | (refine below_drewN ?_ _; go_grown; done) | (refine (below_drewN _ ?_); go_grown; done))⟩)

theorem unit_3 (w : World) :
    Calls Try.prog 70 #[.agg #[]] w fun e w' => e = .returned (.agg #[.int .i64 (Agg.unit 3).x, .int .i64 (Agg.unit 3).y, .int .i64 (Agg.unit 3).z]) ∧ Below w.heap.size w w' := by
  go_enter Try.func70, Try.ntmps70
  go_wp2
  all_goals (go_returns; exact ⟨ret_agg (by simp [Agg.unit]) (by simp [Agg.unit]) (by simp [Agg.unit]), (by first | (go_grown; done) | (refine below_drewN ?_ _; go_grown; done) | (refine (below_drewN _ ?_); go_grown; done))⟩)

theorem cells_3 : Try.prog.cellsOf 59 = 0 := by kernel_rfl

set_option maxHeartbeats 1000000 in
theorem lower_3 (x y z : Int) (w : World) (h : Agg.ok 3 ⟨x, y, z⟩ = true) :
    Calls Try.prog 69 #[.agg #[], .agg #[.int .i64 x, .int .i64 y, .int .i64 z]] w fun e w' => e = .returned (.tuple #[.int .i64 (Agg.low 3 ⟨x, y, z⟩).1, .bool (Agg.low 3 ⟨x, y, z⟩).2]) ∧ Below w.heap.size w w' := by
  obtain ⟨hx0, hx1, hy0, hy1, hz0, hz1⟩ := Agg.ok_bounds h
  simp only at hx0 hx1 hy0 hy1 hz0 hz1
  clear h
  go_each [y = 0] => (go_enter Try.func69, Try.ntmps69; go_wp2; (all_goals (try (go_quiet (fail); go_wp2))); (all_goals (go_returns; exact ⟨ret_int_bool (by simp [Agg.low, *] <;> omega) (by simp [Agg.low, *] <;> omega), (by first | (go_grown; done) | (refine below_drewN ?_ _; go_grown; done) | (refine (below_drewN _ ?_); go_grown; done))⟩)))

set_option maxHeartbeats 4000000 in
theorem combine_3 (ax ay az bx by' bz : Int) (w : World) (h : Agg.ok 3 ⟨ax, ay, az⟩ = true) (h' : Agg.ok 3 ⟨bx, by', bz⟩ = true) :
    Calls Try.prog 66 #[.agg #[], .agg #[.int .i64 ax, .int .i64 ay, .int .i64 az], .agg #[.int .i64 bx, .int .i64 by', .int .i64 bz]] w fun e w' => e = .returned (.agg #[.int .i64 (Agg.comb 3 ⟨ax, ay, az⟩ ⟨bx, by', bz⟩).x, .int .i64 (Agg.comb 3 ⟨ax, ay, az⟩ ⟨bx, by', bz⟩).y, .int .i64 (Agg.comb 3 ⟨ax, ay, az⟩ ⟨bx, by', bz⟩).z]) ∧ Below w.heap.size w w' := by
  obtain ⟨hx0, hx1, hy0, hy1, hz0, hz1⟩ := Agg.ok_bounds h
  obtain ⟨kx0, kx1, ky0, ky1, kz0, kz1⟩ := Agg.ok_bounds h'
  simp only at hx0 hx1 hy0 hy1 hz0 hz1 kx0 kx1 ky0 ky1 kz0 kz1
  
  have H := Lib.hid h; clear h
  have H' := Lib.hid h'; clear h'
  have hp := part4 w 59 cells_3
  go_each [ay = 0,by' = 0,bx < ax] => (go_enter Try.func66, Try.ntmps66; go_wp2; (all_goals (go_returns; exact ⟨ret_agg (by simp [Agg.comb, *] <;> (repeat' split) <;> first | omega | rfl | (simp <;> omega)) (by simp [Agg.comb, *] <;> (repeat' split) <;> first | omega | rfl | (simp <;> omega)) (by simp [Agg.comb, *] <;> (repeat' split) <;> first | omega | rfl | (simp <;> omega)), (by first | (go_grown; done) | (refine below_drewN ?_ _; go_grown; done) | (refine (below_drewN _ ?_); go_grown; done))⟩)))
theorem kindOf_4 (w : World) : Calls Try.prog 29 #[.int .i64 4] w fun e w' => e = .returned (.tuple #[.iface 62 (.agg #[]), .bool true]) ∧ w = w' := by
  go_enter Try.func29, Try.ntmps29
  go_wp2
  go_ret2
  exact ⟨rfl, rfl⟩

set_option maxHeartbeats 400000 in
theorem valid_4 (x y z : Int) (w : World) :
    Calls Try.prog 79 #[.agg #[], .agg #[.int .i64 x, .int .i64 y, .int .i64 z]] w fun e w' => e = .returned (.bool (Agg.ok 4 ⟨x, y, z⟩)) ∧ Below w.heap.size w w' := by
  go_enter Try.func79, Try.ntmps79
  go_wp2
  all_goals (go_returns; exact ⟨ret_bool (by rw [Bool.eq_iff_iff]; simp [Agg.ok] <;> omega), (by first | (go_grown; done) | (refine below_drewN ?_ _; go_grown; done) | (refine (below_drewN _ ?_); go_grown; done))⟩)

theorem lift_4 (n : Int) (w : World) (_h0 : 0 ≤ n) (_h1 : n ≤ 96) :
    Calls Try.prog 76 #[.agg #[], .int .i64 n] w fun e w' => e = .returned (.agg #[.int .i64 (Agg.lift 4 n).x, .int .i64 (Agg.lift 4 n).y, .int .i64 (Agg.lift 4 n).z]) ∧ Below w.heap.size w w' := by
  go_enter Try.func76, Try.ntmps76
  go_wp2
  all_goals (go_returns; exact ⟨ret_agg (by simp [Agg.lift] <;> omega) (by simp [Agg.lift] <;> omega) (by simp [Agg.lift] <;> omega), (by first | (go_grown; done) | (refine below_drewN ?_ _; go_grown; done) | (refine (below_drewN _ ?_); go_grown; done))⟩)

theorem unit_4 (w : World) :
    Calls Try.prog 78 #[.agg #[]] w fun e w' => e = .returned (.agg #[.int .i64 (Agg.unit 4).x, .int .i64 (Agg.unit 4).y, .int .i64 (Agg.unit 4).z]) ∧ Below w.heap.size w w' := by
  go_enter Try.func78, Try.ntmps78
  go_wp2
  all_goals (go_returns; exact ⟨ret_agg (by simp [Agg.unit]) (by simp [Agg.unit]) (by simp [Agg.unit]), (by first | (go_grown; done) | (refine below_drewN ?_ _; go_grown; done) | (refine (below_drewN _ ?_); go_grown; done))⟩)

theorem cells_4 : Try.prog.cellsOf 62 = 0 := by kernel_rfl

set_option maxHeartbeats 1000000 in
theorem lower_4 (x y z : Int) (w : World) (h : Agg.ok 4 ⟨x, y, z⟩ = true) :
    Calls Try.prog 77 #[.agg #[], .agg #[.int .i64 x, .int .i64 y, .int .i64 z]] w fun e w' => e = .returned (.tuple #[.int .i64 (Agg.low 4 ⟨x, y, z⟩).1, .bool (Agg.low 4 ⟨x, y, z⟩).2]) ∧ Below w.heap.size w w' := by
  obtain ⟨hx0, hx1, hy0, hy1, hz0, hz1⟩ := Agg.ok_bounds h
  simp only at hx0 hx1 hy0 hy1 hz0 hz1
  clear h
  go_each [y = 0] => (go_enter Try.func77, Try.ntmps77; go_wp2; (all_goals (try (go_quiet (fail); go_wp2))); (all_goals (go_returns; exact ⟨ret_int_bool (by simp [Agg.low, *] <;> omega) (by simp [Agg.low, *] <;> omega), (by first | (go_grown; done) | (refine below_drewN ?_ _; go_grown; done) | (refine (below_drewN _ ?_); go_grown; done))⟩)))

set_option maxHeartbeats 4000000 in
theorem combine_4 (ax ay az bx by' bz : Int) (w : World) (h : Agg.ok 4 ⟨ax, ay, az⟩ = true) (h' : Agg.ok 4 ⟨bx, by', bz⟩ = true) :
    Calls Try.prog 74 #[.agg #[], .agg #[.int .i64 ax, .int .i64 ay, .int .i64 az], .agg #[.int .i64 bx, .int .i64 by', .int .i64 bz]] w fun e w' => e = .returned (.agg #[.int .i64 (Agg.comb 4 ⟨ax, ay, az⟩ ⟨bx, by', bz⟩).x, .int .i64 (Agg.comb 4 ⟨ax, ay, az⟩ ⟨bx, by', bz⟩).y, .int .i64 (Agg.comb 4 ⟨ax, ay, az⟩ ⟨bx, by', bz⟩).z]) ∧ Below w.heap.size w w' := by
  obtain ⟨hx0, hx1, hy0, hy1, hz0, hz1⟩ := Agg.ok_bounds h
  obtain ⟨kx0, kx1, ky0, ky1, kz0, kz1⟩ := Agg.ok_bounds h'
  simp only at hx0 hx1 hy0 hy1 hz0 hz1 kx0 kx1 ky0 ky1 kz0 kz1
  
  have H := Lib.hid h; clear h
  have H' := Lib.hid h'; clear h'
  have hp := part4 w 62 cells_4
  go_each [ay = 0,by' = 0,ax < bx] => (go_enter Try.func74, Try.ntmps74; go_wp2; (all_goals (go_returns; exact ⟨ret_agg (by simp [Agg.comb, *] <;> (repeat' split) <;> first | omega | rfl | (simp <;> omega)) (by simp [Agg.comb, *] <;> (repeat' split) <;> first | omega | rfl | (simp <;> omega)) (by simp [Agg.comb, *] <;> (repeat' split) <;> first | omega | rfl | (simp <;> omega)), (by first | (go_grown; done) | (refine below_drewN ?_ _; go_grown; done) | (refine (below_drewN _ ?_); go_grown; done))⟩)))
end Go.Proofs.Ytmlkdbmhekiniaa
