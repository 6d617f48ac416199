/-
  The methods of some kinds of aggregates, each against plain mathematics.
-/
import Derived.Test.YtohllpdmopofoaaA
namespace Go.Proofs.Ytohllpdmopofoaa
set_option linter.unusedSimpArgs false
open Go.RowKit
theorem kindOf_1 (w : World) : Calls Try.prog 39 #[.int .i64 1] w fun e w' => e = .returned (.tuple #[.iface 74 (.agg #[]), .bool true]) ∧ w = w' := by
  go_enter Try.func39, Try.ntmps39
  go_wp2
  go_ret2
  exact ⟨rfl, rfl⟩


theorem lift_1 (n : Int) (w : World) (_h0 : 0 ≤ n) (_h1 : n ≤ 96) :
    Calls Try.prog 70 #[.agg #[], .int .i64 n] w fun e w' => e = .returned (.agg #[.int .i64 (Agg.lift 1 n).x, .int .i64 (Agg.lift 1 n).y, .int .i64 (Agg.lift 1 n).z]) ∧ Below w.heap.size w w' := by
  go_enter Try.func70, Try.ntmps70
  go_wp2
  all_goals (go_returns; exact ⟨ret_agg (by simp [Agg.lift] <;> omega) (by simp [Agg.lift] <;> omega) (by simp [Agg.lift] <;> omega), (by first | (go_grown; done) | (refine below_drewN ?_ _; go_grown; done) | (refine (below_drewN _ ?_); go_grown; done))⟩)

theorem unit_1 (w : World) :
    Calls Try.prog 72 #[.agg #[]] w fun e w' => e = .returned (.agg #[.int .i64 (Agg.unit 1).x, .int .i64 (Agg.unit 1).y, .int .i64 (Agg.unit 1).z]) ∧ Below w.heap.size w w' := by
  go_enter Try.func72, Try.ntmps72
  go_wp2
  all_goals (go_returns; exact ⟨ret_agg (by simp [Agg.unit]) (by simp [Agg.unit]) (by simp [Agg.unit]), (by first | (go_grown; done) | (refine below_drewN ?_ _; go_grown; done) | (refine (below_drewN _ ?_); go_grown; done))⟩)

theorem cells_1 : Try.prog.cellsOf 74 = 0 := by kernel_rfl


set_option maxHeartbeats 4000000 in
theorem combine_1 (ax ay az bx by' bz : Int) (w : World) (h : Agg.ok 1 ⟨ax, ay, az⟩ = true) (h' : Agg.ok 1 ⟨bx, by', bz⟩ = true) :
    Calls Try.prog 68 #[.agg #[], .agg #[.int .i64 ax, .int .i64 ay, .int .i64 az], .agg #[.int .i64 bx, .int .i64 by', .int .i64 bz]] w fun e w' => e = .returned (.agg #[.int .i64 (Agg.comb 1 ⟨ax, ay, az⟩ ⟨bx, by', bz⟩).x, .int .i64 (Agg.comb 1 ⟨ax, ay, az⟩ ⟨bx, by', bz⟩).y, .int .i64 (Agg.comb 1 ⟨ax, ay, az⟩ ⟨bx, by', bz⟩).z]) ∧ Below w.heap.size w w' := by
  obtain ⟨hx0, hx1, hy0, hy1, hz0, hz1⟩ := Agg.ok_bounds h
  obtain ⟨kx0, kx1, ky0, ky1, kz0, kz1⟩ := Agg.ok_bounds h'
  simp only at hx0 hx1 hy0 hy1 hz0 hz1 kx0 kx1 ky0 ky1 kz0 kz1
  
  have H := Lib.hid h; clear h
  have H' := Lib.hid h'; clear h'
  have hp := part4 w 74 cells_1
  go_each [] => (go_enter Try.func68, Try.ntmps68; go_wp2; (all_goals (go_returns; exact ⟨ret_agg (by simp [Agg.comb, *] <;> (repeat' split) <;> first | omega | rfl | (simp <;> omega)) (by simp [Agg.comb, *] <;> (repeat' split) <;> first | omega | rfl | (simp <;> omega)) (by simp [Agg.comb, *] <;> (repeat' split) <;> first | omega | rfl | (simp <;> omega)), (by first | (go_grown; done) | (refine below_drewN ?_ _; go_grown; done) | (refine (below_drewN _ ?_); go_grown; done))⟩)))
theorem kindOf_2 (w : World) : Calls Try.prog 39 #[.int .i64 2] w fun e w' => e = .returned (.tuple #[.iface 75 (.agg #[]), .bool true]) ∧ w = w' := by
  go_enter Try.func39, Try.ntmps39
  go_wp2
  go_ret2
  exact ⟨rfl, rfl⟩


theorem lift_2 (n : Int) (w : World) (_h0 : 0 ≤ n) (_h1 : n ≤ 96) :
    Calls Try.prog 76 #[.agg #[], .int .i64 n] w fun e w' => e = .returned (.agg #[.int .i64 (Agg.lift 2 n).x, .int .i64 (Agg.lift 2 n).y, .int .i64 (Agg.lift 2 n).z]) ∧ Below w.heap.size w w' := by
  go_enter Try.func76, Try.ntmps76
  go_wp2
  all_goals (go_returns; exact ⟨ret_agg (by simp [Agg.lift] <;> omega) (by simp [Agg.lift] <;> omega) (by simp [Agg.lift] <;> omega), (by first | (go_grown; done) | (refine below_drewN ?_ _; go_grown; done) | (refine (below_drewN _ ?_); go_grown; done))⟩)

theorem unit_2 (w : World) :
    Calls Try.prog 78 #[.agg #[]] w fun e w' => e = .returned (.agg #[.int .i64 (Agg.unit 2).x, .int .i64 (Agg.unit 2).y, .int .i64 (Agg.unit 2).z]) ∧ Below w.heap.size w w' := by
  go_enter Try.func78, Try.ntmps78
  go_wp2
  all_goals (go_returns; exact ⟨ret_agg (by simp [Agg.unit]) (by simp [Agg.unit]) (by simp [Agg.unit]), (by first | (go_grown; done) | (refine below_drewN ?_ _; go_grown; done) | (refine (below_drewN _ ?_); go_grown; done))⟩)

theorem cells_2 : Try.prog.cellsOf 75 = 0 := by kernel_rfl


set_option maxHeartbeats 4000000 in
theorem combine_2 (ax ay az bx by' bz : Int) (w : World) (h : Agg.ok 2 ⟨ax, ay, az⟩ = true) (h' : Agg.ok 2 ⟨bx, by', bz⟩ = true) :
    Calls Try.prog 74 #[.agg #[], .agg #[.int .i64 ax, .int .i64 ay, .int .i64 az], .agg #[.int .i64 bx, .int .i64 by', .int .i64 bz]] w fun e w' => e = .returned (.agg #[.int .i64 (Agg.comb 2 ⟨ax, ay, az⟩ ⟨bx, by', bz⟩).x, .int .i64 (Agg.comb 2 ⟨ax, ay, az⟩ ⟨bx, by', bz⟩).y, .int .i64 (Agg.comb 2 ⟨ax, ay, az⟩ ⟨bx, by', bz⟩).z]) ∧ Below w.heap.size w w' := by
  obtain ⟨hx0, hx1, hy0, hy1, hz0, hz1⟩ := Agg.ok_bounds h
  obtain ⟨kx0, kx1, ky0, ky1, kz0, kz1⟩ := Agg.ok_bounds h'
  simp only at hx0 hx1 hy0 hy1 hz0 hz1 kx0 kx1 ky0 ky1 kz0 kz1
  
  have H := Lib.hid h; clear h
  have H' := Lib.hid h'; clear h'
  have hp := part4 w 75 cells_2
  go_each [] => (go_enter Try.func74, Try.ntmps74; go_wp2; (all_goals (go_returns; exact ⟨ret_agg (by simp [Agg.comb, *] <;> (repeat' split) <;> first | omega | rfl | (simp <;> omega)) (by simp [Agg.comb, *] <;> (repeat' split) <;> first | omega | rfl | (simp <;> omega)) (by simp [Agg.comb, *] <;> (repeat' split) <;> first | omega | rfl | (simp <;> omega)), (by first | (go_grown; done) | (refine below_drewN ?_ _; go_grown; done) | (refine (below_drewN _ ?_); go_grown; done))⟩)))
theorem kindOf_3 (w : World) : Calls Try.prog 39 #[.int .i64 3] w fun e w' => e = .returned (.tuple #[.iface 78 (.agg #[]), .bool true]) ∧ w = w' := by
  go_enter Try.func39, Try.ntmps39
  go_wp2
  go_ret2
  exact ⟨rfl, rfl⟩


theorem lift_3 (n : Int) (w : World) (_h0 : 0 ≤ n) (_h1 : n ≤ 96) :
    Calls Try.prog 83 #[.agg #[], .int .i64 n] w fun e w' => e = .returned (.agg #[.int .i64 (Agg.lift 3 n).x, .int .i64 (Agg.lift 3 n).y, .int .i64 (Agg.lift 3 n).z]) ∧ Below w.heap.size w w' := by
  go_enter Try.func83, Try.ntmps83
  go_wp2
  all_goals (go_returns; exact ⟨ret_agg (by simp [Agg.lift] <;> omega) (by simp [Agg.lift] <;> omega) (by simp [Agg.lift] <;> omega), (by first | (go_grown; done) | (refine below_drewN ?_ _; go_grown; done) | (refine (below_drewN _ ?_); go_grown; done))⟩)

theorem unit_3 (w : World) :
    Calls Try.prog 85 #[.agg #[]] w fun e w' => e = .returned (.agg #[.int .i64 (Agg.unit 3).x, .int .i64 (Agg.unit 3).y, .int .i64 (Agg.unit 3).z]) ∧ Below w.heap.size w w' := by
  go_enter Try.func85, Try.ntmps85
  go_wp2
  all_goals (go_returns; exact ⟨ret_agg (by simp [Agg.unit]) (by simp [Agg.unit]) (by simp [Agg.unit]), (by first | (go_grown; done) | (refine below_drewN ?_ _; go_grown; done) | (refine (below_drewN _ ?_); go_grown; done))⟩)

theorem cells_3 : Try.prog.cellsOf 78 = 0 := by kernel_rfl


set_option maxHeartbeats 4000000 in
theorem combine_3 (ax ay az bx by' bz : Int) (w : World) (h : Agg.ok 3 ⟨ax, ay, az⟩ = true) (h' : Agg.ok 3 ⟨bx, by', bz⟩ = true) :
    Calls Try.prog 81 #[.agg #[], .agg #[.int .i64 ax, .int .i64 ay, .int .i64 az], .agg #[.int .i64 bx, .int .i64 by', .int .i64 bz]] w fun e w' => e = .returned (.agg #[.int .i64 (Agg.comb 3 ⟨ax, ay, az⟩ ⟨bx, by', bz⟩).x, .int .i64 (Agg.comb 3 ⟨ax, ay, az⟩ ⟨bx, by', bz⟩).y, .int .i64 (Agg.comb 3 ⟨ax, ay, az⟩ ⟨bx, by', bz⟩).z]) ∧ Below w.heap.size w w' := by
  obtain ⟨hx0, hx1, hy0, hy1, hz0, hz1⟩ := Agg.ok_bounds h
  obtain ⟨kx0, kx1, ky0, ky1, kz0, kz1⟩ := Agg.ok_bounds h'
  simp only at hx0 hx1 hy0 hy1 hz0 hz1 kx0 kx1 ky0 ky1 kz0 kz1
  
  have H := Lib.hid h; clear h
  have H' := Lib.hid h'; clear h'
  have hp := part4 w 78 cells_3
  go_each [ay = 0,by' = 0,bx < ax] => (go_enter Try.func81, Try.ntmps81; go_wp2; (all_goals (go_returns; exact ⟨ret_agg (by simp [Agg.comb, *] <;> (repeat' split) <;> first | omega | rfl | (simp <;> omega)) (by simp [Agg.comb, *] <;> (repeat' split) <;> first | omega | rfl | (simp <;> omega)) (by simp [Agg.comb, *] <;> (repeat' split) <;> first | omega | rfl | (simp <;> omega)), (by first | (go_grown; done) | (refine below_drewN ?_ _; go_grown; done) | (refine (below_drewN _ ?_); go_grown; done))⟩)))
theorem kindOf_4 (w : World) : Calls Try.prog 39 #[.int .i64 4] w fun e w' => e = .returned (.tuple #[.iface 81 (.agg #[]), .bool true]) ∧ w = w' := by
  go_enter Try.func39, Try.ntmps39
  go_wp2
  go_ret2
  exact ⟨rfl, rfl⟩


theorem lift_4 (n : Int) (w : World) (_h0 : 0 ≤ n) (_h1 : n ≤ 96) :
    Calls Try.prog 91 #[.agg #[], .int .i64 n] w fun e w' => e = .returned (.agg #[.int .i64 (Agg.lift 4 n).x, .int .i64 (Agg.lift 4 n).y, .int .i64 (Agg.lift 4 n).z]) ∧ Below w.heap.size w w' := by
  go_enter Try.func91, Try.ntmps91
  go_wp2
  all_goals (go_returns; exact ⟨ret_agg (by simp [Agg.lift] <;> omega) (by simp [Agg.lift] <;> omega) (by simp [Agg.lift] <;> omega), (by first | (go_grown; done) | (refine below_drewN ?_ _; go_grown; done) | (refine (below_drewN _ ?_); go_grown; done))⟩)

theorem unit_4 (w : World) :
    Calls Try.prog 93 #[.agg #[]] w fun e w' => e = .returned (.agg #[.int .i64 (Agg.unit 4).x, .int .i64 (Agg.unit 4).y, .int .i64 (Agg.unit 4).z]) ∧ Below w.heap.size w w' := by
  go_enter Try.func93, Try.ntmps93
  go_wp2
  all_goals (go_returns; exact ⟨ret_agg (by simp [Agg.unit]) (by simp [Agg.unit]) (by simp [Agg.unit]), (by first | (go_grown; done) | (refine below_drewN ?_ _; go_grown; done) | (refine (below_drewN _ ?_); go_grown; done))⟩)

theorem cells_4 : Try.prog.cellsOf 81 = 0 := by kernel_rfl


set_option maxHeartbeats 4000000 in
theorem combine_4 (ax ay az bx by' bz : Int) (w : World) (h : Agg.ok 4 ⟨ax, ay, az⟩ = true) (h' : Agg.ok 4 ⟨bx, by', bz⟩ = true) :
    Calls Try.prog 89 #[.agg #[], .agg #[.int .i64 ax, .int .i64 ay, .int .i64 az], .agg #[.int .i64 bx, .int .i64 by', .int .i64 bz]] w fun e w' => e = .returned (.agg #[.int .i64 (Agg.comb 4 ⟨ax, ay, az⟩ ⟨bx, by', bz⟩).x, .int .i64 (Agg.comb 4 ⟨ax, ay, az⟩ ⟨bx, by', bz⟩).y, .int .i64 (Agg.comb 4 ⟨ax, ay, az⟩ ⟨bx, by', bz⟩).z]) ∧ Below w.heap.size w w' := by
  obtain ⟨hx0, hx1, hy0, hy1, hz0, hz1⟩ := Agg.ok_bounds h
  obtain ⟨kx0, kx1, ky0, ky1, kz0, kz1⟩ := Agg.ok_bounds h'
  simp only at hx0 hx1 hy0 hy1 hz0 hz1 kx0 kx1 ky0 ky1 kz0 kz1
  
  have H := Lib.hid h; clear h
  have H' := Lib.hid h'; clear h'
  have hp := part4 w 81 cells_4
  go_each [ay = 0,by' = 0,ax < bx] => (go_enter Try.func89, Try.ntmps89; go_wp2; (all_goals (go_returns; exact ⟨ret_agg (by simp [Agg.comb, *] <;> (repeat' split) <;> first | omega | rfl | (simp <;> omega)) (by simp [Agg.comb, *] <;> (repeat' split) <;> first | omega | rfl | (simp <;> omega)) (by simp [Agg.comb, *] <;> (repeat' split) <;> first | omega | rfl | (simp <;> omega)), (by first | (go_grown; done) | (refine below_drewN ?_ _; go_grown; done) | (refine (below_drewN _ ?_); go_grown; done))⟩)))
end Go.Proofs.Ytohllpdmopofoaa
