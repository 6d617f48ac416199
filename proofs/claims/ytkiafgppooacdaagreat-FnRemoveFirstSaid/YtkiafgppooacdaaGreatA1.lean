/-
  The methods of some kinds of aggregates, each against plain mathematics.
-/
import Derived.Test.YtkiafgppooacdaaGreatA
namespace Go.Proofs.YtkiafgppooacdaaGreat
set_option linter.unusedSimpArgs false
open Go.RowKit
theorem kindOf_1 (w : World) : Calls Tryz.prog 15 #[.int .i64 1] w fun e w' => e = .returned (.tuple #[.iface 54 (.agg #[]), .bool true]) ∧ w = w' := by
  go_enter Tryz.func15, Tryz.ntmps15
  go_wp2
  go_ret2
  exact ⟨rfl, rfl⟩

set_option maxHeartbeats 400000 in
theorem valid_1 (x y z : Int) (w : World) :
    Calls Tryz.prog 53 #[.agg #[], .agg #[.int .i64 x, .int .i64 y, .int .i64 z]] w fun e w' => e = .returned (.bool (Agg.ok 1 ⟨x, y, z⟩)) ∧ Below w.heap.size w w' := by
  go_enter Tryz.func53, Tryz.ntmps53
  go_wp2
  all_goals (go_returns; exact ⟨ret_bool (by rw [Bool.eq_iff_iff]; simp [Agg.ok] <;> omega), (by first | (go_grown; done) | (refine below_drewN ?_ _; go_grown; done) | (refine (below_drewN _ ?_); go_grown; done))⟩)



theorem cells_1 : Tryz.prog.cellsOf 54 = 0 := by kernel_rfl


set_option maxHeartbeats 4000000 in
theorem combine_1 (ax ay az bx by' bz : Int) (w : World) (h : Agg.ok 1 ⟨ax, ay, az⟩ = true) (h' : Agg.ok 1 ⟨bx, by', bz⟩ = true) :
    Calls Tryz.prog 47 #[.agg #[], .agg #[.int .i64 ax, .int .i64 ay, .int .i64 az], .agg #[.int .i64 bx, .int .i64 by', .int .i64 bz]] w fun e w' => e = .returned (.agg #[.int .i64 (Agg.comb 1 ⟨ax, ay, az⟩ ⟨bx, by', bz⟩).x, .int .i64 (Agg.comb 1 ⟨ax, ay, az⟩ ⟨bx, by', bz⟩).y, .int .i64 (Agg.comb 1 ⟨ax, ay, az⟩ ⟨bx, by', bz⟩).z]) ∧ Below w.heap.size w w' := by
  obtain ⟨hx0, hx1, hy0, hy1, hz0, hz1⟩ := Agg.ok_bounds h
  obtain ⟨kx0, kx1, ky0, ky1, kz0, kz1⟩ := Agg.ok_bounds h'
  simp only at hx0 hx1 hy0 hy1 hz0 hz1 kx0 kx1 ky0 ky1 kz0 kz1
  
  have H := Lib.hid h; clear h
  have H' := Lib.hid h'; clear h'
  have hp := part4 w 54 cells_1
  go_each [] => (go_enter Tryz.func47, Tryz.ntmps47; go_wp2; (all_goals (go_returns; exact ⟨ret_agg (by simp [Agg.comb, *] <;> (repeat' split) <;> first | omega | rfl | (simp <;> omega)) (by simp [Agg.comb, *] <;> (repeat' split) <;> first | omega | rfl | (simp <;> omega)) (by simp [Agg.comb, *] <;> (repeat' split) <;> first | omega | rfl | (simp <;> omega)), (by first | (go_grown; done) | (refine below_drewN ?_ _; go_grown; done) | (refine (below_drewN _ ?_); go_grown; done))⟩)))
theorem kindOf_2 (w : World) : Calls Tryz.prog 15 #[.int .i64 2] w fun e w' => e = .returned (.tuple #[.iface 55 (.agg #[]), .bool true]) ∧ w = w' := by
  go_enter Tryz.func15, Tryz.ntmps15
  go_wp2
  go_ret2
  exact ⟨rfl, rfl⟩

set_option maxHeartbeats 400000 in
theorem valid_2 (x y z : Int) (w : World) :
    Calls Tryz.prog 63 #[.agg #[], .agg #[.int .i64 x, .int .i64 y, .int .i64 z]] w fun e w' => e = .returned (.bool (Agg.ok 2 ⟨x, y, z⟩)) ∧ Below w.heap.size w w' := by
  go_enter Tryz.func63, Tryz.ntmps63
  go_wp2
  all_goals (go_returns; exact ⟨ret_bool (by rw [Bool.eq_iff_iff]; simp [Agg.ok] <;> omega), (by first | (go_grown; done) | (refine below_drewN ?_ _; go_grown; done) | (refine (below_drewN _ ?_); go_grown; done))⟩)



theorem cells_2 : Tryz.prog.cellsOf 55 = 0 := by kernel_rfl


set_option maxHeartbeats 4000000 in
theorem combine_2 (ax ay az bx by' bz : Int) (w : World) (h : Agg.ok 2 ⟨ax, ay, az⟩ = true) (h' : Agg.ok 2 ⟨bx, by', bz⟩ = true) :
    Calls Tryz.prog 57 #[.agg #[], .agg #[.int .i64 ax, .int .i64 ay, .int .i64 az], .agg #[.int .i64 bx, .int .i64 by', .int .i64 bz]] w fun e w' => e = .returned (.agg #[.int .i64 (Agg.comb 2 ⟨ax, ay, az⟩ ⟨bx, by', bz⟩).x, .int .i64 (Agg.comb 2 ⟨ax, ay, az⟩ ⟨bx, by', bz⟩).y, .int .i64 (Agg.comb 2 ⟨ax, ay, az⟩ ⟨bx, by', bz⟩).z]) ∧ Below w.heap.size w w' := by
  obtain ⟨hx0, hx1, hy0, hy1, hz0, hz1⟩ := Agg.ok_bounds h
  obtain ⟨kx0, kx1, ky0, ky1, kz0, kz1⟩ := Agg.ok_bounds h'
  simp only at hx0 hx1 hy0 hy1 hz0 hz1 kx0 kx1 ky0 ky1 kz0 kz1
  
  have H := Lib.hid h; clear h
  have H' := Lib.hid h'; clear h'
  have hp := part4 w 55 cells_2
  go_each [] => (go_enter Tryz.func57, Tryz.ntmps57; go_wp2; (all_goals (go_returns; exact ⟨ret_agg (by simp [Agg.comb, *] <;> (repeat' split) <;> first | omega | rfl | (simp <;> omega)) (by simp [Agg.comb, *] <;> (repeat' split) <;> first | omega | rfl | (simp <;> omega)) (by simp [Agg.comb, *] <;> (repeat' split) <;> first | omega | rfl | (simp <;> omega)), (by first | (go_grown; done) | (refine below_drewN ?_ _; go_grown; done) | (refine (below_drewN _ ?_); go_grown; done))⟩)))
theorem kindOf_3 (w : World) : Calls Tryz.prog 15 #[.int .i64 3] w fun e w' => e = .returned (.tuple #[.iface 58 (.agg #[]), .bool true]) ∧ w = w' := by
  go_enter Tryz.func15, Tryz.ntmps15
  go_wp2
  go_ret2
  exact ⟨rfl, rfl⟩

set_option maxHeartbeats 400000 in
theorem valid_3 (x y z : Int) (w : World) :
    Calls Tryz.prog 70 #[.agg #[], .agg #[.int .i64 x, .int .i64 y, .int .i64 z]] w fun e w' => e = .returned (.bool (Agg.ok 3 ⟨x, y, z⟩)) ∧ Below w.heap.size w w' := by
  go_enter Tryz.func70, Tryz.ntmps70
  go_wp2
  all_goals (go_returns; exact ⟨ret_bool (by rw [Bool.eq_iff_iff]; simp [Agg.ok] <;> omega), (by first | (go_grown; done) | (refine below_drewN ?_ _; go_grown; done) | (refine (below_drewN _ ?_); go_grown; done))⟩)



theorem cells_3 : Tryz.prog.cellsOf 58 = 0 := by kernel_rfl


set_option maxHeartbeats 4000000 in
theorem combine_3 (ax ay az bx by' bz : Int) (w : World) (h : Agg.ok 3 ⟨ax, ay, az⟩ = true) (h' : Agg.ok 3 ⟨bx, by', bz⟩ = true) :
    Calls Tryz.prog 65 #[.agg #[], .agg #[.int .i64 ax, .int .i64 ay, .int .i64 az], .agg #[.int .i64 bx, .int .i64 by', .int .i64 bz]] w fun e w' => e = .returned (.agg #[.int .i64 (Agg.comb 3 ⟨ax, ay, az⟩ ⟨bx, by', bz⟩).x, .int .i64 (Agg.comb 3 ⟨ax, ay, az⟩ ⟨bx, by', bz⟩).y, .int .i64 (Agg.comb 3 ⟨ax, ay, az⟩ ⟨bx, by', bz⟩).z]) ∧ Below w.heap.size w w' := by
  obtain ⟨hx0, hx1, hy0, hy1, hz0, hz1⟩ := Agg.ok_bounds h
  obtain ⟨kx0, kx1, ky0, ky1, kz0, kz1⟩ := Agg.ok_bounds h'
  simp only at hx0 hx1 hy0 hy1 hz0 hz1 kx0 kx1 ky0 ky1 kz0 kz1
  
  have H := Lib.hid h; clear h
  have H' := Lib.hid h'; clear h'
  have hp := part4 w 58 cells_3
  go_each [ay = 0,by' = 0,bx < ax] => (go_enter Tryz.func65, Tryz.ntmps65; go_wp2; (all_goals (go_returns; exact ⟨ret_agg (by simp [Agg.comb, *] <;> (repeat' split) <;> first | omega | rfl | (simp <;> omega)) (by simp [Agg.comb, *] <;> (repeat' split) <;> first | omega | rfl | (simp <;> omega)) (by simp [Agg.comb, *] <;> (repeat' split) <;> first | omega | rfl | (simp <;> omega)), (by first | (go_grown; done) | (refine below_drewN ?_ _; go_grown; done) | (refine (below_drewN _ ?_); go_grown; done))⟩)))
theorem kindOf_4 (w : World) : Calls Tryz.prog 15 #[.int .i64 4] w fun e w' => e = .returned (.tuple #[.iface 61 (.agg #[]), .bool true]) ∧ w = w' := by
  go_enter Tryz.func15, Tryz.ntmps15
  go_wp2
  go_ret2
  exact ⟨rfl, rfl⟩

set_option maxHeartbeats 400000 in
theorem valid_4 (x y z : Int) (w : World) :
    Calls Tryz.prog 78 #[.agg #[], .agg #[.int .i64 x, .int .i64 y, .int .i64 z]] w fun e w' => e = .returned (.bool (Agg.ok 4 ⟨x, y, z⟩)) ∧ Below w.heap.size w w' := by
  go_enter Tryz.func78, Tryz.ntmps78
  go_wp2
  all_goals (go_returns; exact ⟨ret_bool (by rw [Bool.eq_iff_iff]; simp [Agg.ok] <;> omega), (by first | (go_grown; done) | (refine below_drewN ?_ _; go_grown; done) | (refine (below_drewN _ ?_); go_grown; done))⟩)



theorem cells_4 : Tryz.prog.cellsOf 61 = 0 := by kernel_rfl


set_option maxHeartbeats 4000000 in
theorem combine_4 (ax ay az bx by' bz : Int) (w : World) (h : Agg.ok 4 ⟨ax, ay, az⟩ = true) (h' : Agg.ok 4 ⟨bx, by', bz⟩ = true) :
    Calls Tryz.prog 73 #[.agg #[], .agg #[.int .i64 ax, .int .i64 ay, .int .i64 az], .agg #[.int .i64 bx, .int .i64 by', .int .i64 bz]] w fun e w' => e = .returned (.agg #[.int .i64 (Agg.comb 4 ⟨ax, ay, az⟩ ⟨bx, by', bz⟩).x, .int .i64 (Agg.comb 4 ⟨ax, ay, az⟩ ⟨bx, by', bz⟩).y, .int .i64 (Agg.comb 4 ⟨ax, ay, az⟩ ⟨bx, by', bz⟩).z]) ∧ Below w.heap.size w w' := by
  obtain ⟨hx0, hx1, hy0, hy1, hz0, hz1⟩ := Agg.ok_bounds h
  obtain ⟨kx0, kx1, ky0, ky1, kz0, kz1⟩ := Agg.ok_bounds h'
  simp only at hx0 hx1 hy0 hy1 hz0 hz1 kx0 kx1 ky0 ky1 kz0 kz1
  
  have H := Lib.hid h; clear h
  have H' := Lib.hid h'; clear h'
  have hp := part4 w 61 cells_4
  go_each [ay = 0,by' = 0,ax < bx] => (go_enter Tryz.func73, Tryz.ntmps73; go_wp2; (all_goals (go_returns; exact ⟨ret_agg (by simp [Agg.comb, *] <;> (repeat' split) <;> first | omega | rfl | (simp <;> omega)) (by simp [Agg.comb, *] <;> (repeat' split) <;> first | omega | rfl | (simp <;> omega)) (by simp [Agg.comb, *] <;> (repeat' split) <;> first | omega | rfl | (simp <;> omega)), (by first | (go_grown; done) | (refine below_drewN ?_ _; go_grown; done) | (refine (below_drewN _ ?_); go_grown; done))⟩)))
end Go.Proofs.YtkiafgppooacdaaGreat
