/-
  The methods of some kinds of aggregates, each against plain mathematics.
-/
import Derived.Test.YtehfijijapfomaaA
namespace Go.Proofs.Ytehfijijapfomaa
set_option linter.unusedSimpArgs false
open Go.RowKit
theorem kindOf_1 (w : World) : Calls Try.prog 73 #[.int .i64 1] w fun e w' => e = .returned (.tuple #[.iface 117 (.agg #[]), .bool true]) ∧ w = w' := by
  go_enter Try.func73, Try.ntmps73
  go_wp2
  go_ret2
  exact ⟨rfl, rfl⟩

set_option maxHeartbeats 400000 in
theorem valid_1 (x y z : Int) (w : World) :
    Calls Try.prog 110 #[.agg #[], .agg #[.int .i64 x, .int .i64 y, .int .i64 z]] w fun e w' => e = .returned (.bool (Agg.ok 1 ⟨x, y, z⟩)) ∧ Below w.heap.size w w' := by
  go_enter Try.func110, Try.ntmps110
  go_wp2
  all_goals (go_returns; exact ⟨ret_bool (by rw [Bool.eq_iff_iff]; simp [Agg.ok] <;> omega), (by first | (go_grown; done) | (refine below_drewN ?_ _; go_grown; done) | (refine (below_drewN _ ?_); go_grown; done))⟩)

theorem lift_1 (n : Int) (w : World) (_h0 : 0 ≤ n) (_h1 : n ≤ 96) :
    Calls Try.prog 106 #[.agg #[], .int .i64 n] w fun e w' => e = .returned (.agg #[.int .i64 (Agg.lift 1 n).x, .int .i64 (Agg.lift 1 n).y, .int .i64 (Agg.lift 1 n).z]) ∧ Below w.heap.size w w' := by
  go_enter Try.func106, Try.ntmps106
  go_wp2
  all_goals (go_returns; exact ⟨ret_agg (by simp [Agg.lift] <;> omega) (by simp [Agg.lift] <;> omega) (by simp [Agg.lift] <;> omega), (by first | (go_grown; done) | (refine below_drewN ?_ _; go_grown; done) | (refine (below_drewN _ ?_); go_grown; done))⟩)

theorem unit_1 (w : World) :
    Calls Try.prog 109 #[.agg #[]] w fun e w' => e = .returned (.agg #[.int .i64 (Agg.unit 1).x, .int .i64 (Agg.unit 1).y, .int .i64 (Agg.unit 1).z]) ∧ Below w.heap.size w w' := by
  go_enter Try.func109, Try.ntmps109
  go_wp2
  all_goals (go_returns; exact ⟨ret_agg (by simp [Agg.unit]) (by simp [Agg.unit]) (by simp [Agg.unit]), (by first | (go_grown; done) | (refine below_drewN ?_ _; go_grown; done) | (refine (below_drewN _ ?_); go_grown; done))⟩)

theorem cells_1 : Try.prog.cellsOf 117 = 0 := by kernel_rfl


set_option maxHeartbeats 4000000 in
theorem combine_1 (ax ay az bx by' bz : Int) (w : World) (h : Agg.ok 1 ⟨ax, ay, az⟩ = true) (h' : Agg.ok 1 ⟨bx, by', bz⟩ = true) :
    Calls Try.prog 104 #[.agg #[], .agg #[.int .i64 ax, .int .i64 ay, .int .i64 az], .agg #[.int .i64 bx, .int .i64 by', .int .i64 bz]] w fun e w' => e = .returned (.agg #[.int .i64 (Agg.comb 1 ⟨ax, ay, az⟩ ⟨bx, by', bz⟩).x, .int .i64 (Agg.comb 1 ⟨ax, ay, az⟩ ⟨bx, by', bz⟩).y, .int .i64 (Agg.comb 1 ⟨ax, ay, az⟩ ⟨bx, by', bz⟩).z]) ∧ Below w.heap.size w w' := by
  obtain ⟨hx0, hx1, hy0, hy1, hz0, hz1⟩ := Agg.ok_bounds h
  obtain ⟨kx0, kx1, ky0, ky1, kz0, kz1⟩ := Agg.ok_bounds h'
  simp only at hx0 hx1 hy0 hy1 hz0 hz1 kx0 kx1 ky0 ky1 kz0 kz1
  
  have H := Lib.hid h; clear h
  have H' := Lib.hid h'; clear h'
  have hp := part4 w 117 cells_1
  go_each [] => (go_enter Try.func104, Try.ntmps104; go_wp2; (all_goals (go_returns; exact ⟨ret_agg (by simp [Agg.comb, *] <;> (repeat' split) <;> first | omega | rfl | (simp <;> omega)) (by simp [Agg.comb, *] <;> (repeat' split) <;> first | omega | rfl | (simp <;> omega)) (by simp [Agg.comb, *] <;> (repeat' split) <;> first | omega | rfl | (simp <;> omega)), (by first | (go_grown; done) | (refine below_drewN ?_ _; go_grown; done) | (refine (below_drewN _ ?_); go_grown; done))⟩)))
theorem kindOf_2 (w : World) : Calls Try.prog 73 #[.int .i64 2] w fun e w' => e = .returned (.tuple #[.iface 118 (.agg #[]), .bool true]) ∧ w = w' := by
  go_enter Try.func73, Try.ntmps73
  go_wp2
  go_ret2
  exact ⟨rfl, rfl⟩

set_option maxHeartbeats 400000 in
theorem valid_2 (x y z : Int) (w : World) :
    Calls Try.prog 118 #[.agg #[], .agg #[.int .i64 x, .int .i64 y, .int .i64 z]] w fun e w' => e = .returned (.bool (Agg.ok 2 ⟨x, y, z⟩)) ∧ Below w.heap.size w w' := by
  go_enter Try.func118, Try.ntmps118
  go_wp2
  all_goals (go_returns; exact ⟨ret_bool (by rw [Bool.eq_iff_iff]; simp [Agg.ok] <;> omega), (by first | (go_grown; done) | (refine below_drewN ?_ _; go_grown; done) | (refine (below_drewN _ ?_); go_grown; done))⟩)

theorem lift_2 (n : Int) (w : World) (_h0 : 0 ≤ n) (_h1 : n ≤ 96) :
    Calls Try.prog 114 #[.agg #[], .int .i64 n] w fun e w' => e = .returned (.agg #[.int .i64 (Agg.lift 2 n).x, .int .i64 (Agg.lift 2 n).y, .int .i64 (Agg.lift 2 n).z]) ∧ Below w.heap.size w w' := by
  go_enter Try.func114, Try.ntmps114
  go_wp2
  all_goals (go_returns; exact ⟨ret_agg (by simp [Agg.lift] <;> omega) (by simp [Agg.lift] <;> omega) (by simp [Agg.lift] <;> omega), (by first | (go_grown; done) | (refine below_drewN ?_ _; go_grown; done) | (refine (below_drewN _ ?_); go_grown; done))⟩)

theorem unit_2 (w : World) :
    Calls Try.prog 117 #[.agg #[]] w fun e w' => e = .returned (.agg #[.int .i64 (Agg.unit 2).x, .int .i64 (Agg.unit 2).y, .int .i64 (Agg.unit 2).z]) ∧ Below w.heap.size w w' := by
  go_enter Try.func117, Try.ntmps117
  go_wp2
  all_goals (go_returns; exact ⟨ret_agg (by simp [Agg.unit]) (by simp [Agg.unit]) (by simp [Agg.unit]), (by first | (go_grown; done) | (refine below_drewN ?_ _; go_grown; done) | (refine (below_drewN _ ?_); go_grown; done))⟩)

theorem cells_2 : Try.prog.cellsOf 118 = 0 := by kernel_rfl


set_option maxHeartbeats 4000000 in
theorem combine_2 (ax ay az bx by' bz : Int) (w : World) (h : Agg.ok 2 ⟨ax, ay, az⟩ = true) (h' : Agg.ok 2 ⟨bx, by', bz⟩ = true) :
    Calls Try.prog 112 #[.agg #[], .agg #[.int .i64 ax, .int .i64 ay, .int .i64 az], .agg #[.int .i64 bx, .int .i64 by', .int .i64 bz]] w fun e w' => e = .returned (.agg #[.int .i64 (Agg.comb 2 ⟨ax, ay, az⟩ ⟨bx, by', bz⟩).x, .int .i64 (Agg.comb 2 ⟨ax, ay, az⟩ ⟨bx, by', bz⟩).y, .int .i64 (Agg.comb 2 ⟨ax, ay, az⟩ ⟨bx, by', bz⟩).z]) ∧ Below w.heap.size w w' := by
  obtain ⟨hx0, hx1, hy0, hy1, hz0, hz1⟩ := Agg.ok_bounds h
  obtain ⟨kx0, kx1, ky0, ky1, kz0, kz1⟩ := Agg.ok_bounds h'
  simp only at hx0 hx1 hy0 hy1 hz0 hz1 kx0 kx1 ky0 ky1 kz0 kz1
  
  have H := Lib.hid h; clear h
  have H' := Lib.hid h'; clear h'
  have hp := part4 w 118 cells_2
  go_each [] => (go_enter Try.func112, Try.ntmps112; go_wp2; (all_goals (go_returns; exact ⟨ret_agg (by simp [Agg.comb, *] <;> (repeat' split) <;> first | omega | rfl | (simp <;> omega)) (by simp [Agg.comb, *] <;> (repeat' split) <;> first | omega | rfl | (simp <;> omega)) (by simp [Agg.comb, *] <;> (repeat' split) <;> first | omega | rfl | (simp <;> omega)), (by first | (go_grown; done) | (refine below_drewN ?_ _; go_grown; done) | (refine (below_drewN _ ?_); go_grown; done))⟩)))
theorem kindOf_3 (w : World) : Calls Try.prog 73 #[.int .i64 3] w fun e w' => e = .returned (.tuple #[.iface 120 (.agg #[]), .bool true]) ∧ w = w' := by
  go_enter Try.func73, Try.ntmps73
  go_wp2
  go_ret2
  exact ⟨rfl, rfl⟩

set_option maxHeartbeats 400000 in
theorem valid_3 (x y z : Int) (w : World) :
    Calls Try.prog 124 #[.agg #[], .agg #[.int .i64 x, .int .i64 y, .int .i64 z]] w fun e w' => e = .returned (.bool (Agg.ok 3 ⟨x, y, z⟩)) ∧ Below w.heap.size w w' := by
  go_enter Try.func124, Try.ntmps124
  go_wp2
  all_goals (go_returns; exact ⟨ret_bool (by rw [Bool.eq_iff_iff]; simp [Agg.ok] <;> omega), (by first | (go_grown; done) | (refine below_drewN ?_ _; go_grown; done) | (refine (below_drewN _ ?_); go_grown; done))⟩)

theorem lift_3 (n : Int) (w : World) (_h0 : 0 ≤ n) (_h1 : n ≤ 96) :
    Calls Try.prog 121 #[.agg #[], .int .i64 n] w fun e w' => e = .returned (.agg #[.int .i64 (Agg.lift 3 n).x, .int .i64 (Agg.lift 3 n).y, .int .i64 (Agg.lift 3 n).z]) ∧ Below w.heap.size w w' := by
  go_enter Try.func121, Try.ntmps121
  go_wp2
  all_goals (go_returns; exact ⟨ret_agg (by simp [Agg.lift] <;> omega) (by simp [Agg.lift] <;> omega) (by simp [Agg.lift] <;> omega), (by first | (go_grown; done) | (refine below_drewN ?_ _; go_grown; done) | (refine (below_drewN _ ?_); go_grown; done))⟩)

theorem unit_3 (w : World) :
    Calls Try.prog 123 #[.agg #[]] w fun e w' => e = .returned (.agg #[.int .i64 (Agg.unit 3).x, .int .i64 (Agg.unit 3).y, .int .i64 (Agg.unit 3).z]) ∧ Below w.heap.size w w' := by
  go_enter Try.func123, Try.ntmps123
  go_wp2
  all_goals (go_returns; exact ⟨ret_agg (by simp [Agg.unit]) (by simp [Agg.unit]) (by simp [Agg.unit]), (by first | (go_grown; done) | (refine below_drewN ?_ _; go_grown; done) | (refine (below_drewN _ ?_); go_grown; done))⟩)

theorem cells_3 : Try.prog.cellsOf 120 = 0 := by kernel_rfl


set_option maxHeartbeats 4000000 in
theorem combine_3 (ax ay az bx by' bz : Int) (w : World) (h : Agg.ok 3 ⟨ax, ay, az⟩ = true) (h' : Agg.ok 3 ⟨bx, by', bz⟩ = true) :
    Calls Try.prog 119 #[.agg #[], .agg #[.int .i64 ax, .int .i64 ay, .int .i64 az], .agg #[.int .i64 bx, .int .i64 by', .int .i64 bz]] w fun e w' => e = .returned (.agg #[.int .i64 (Agg.comb 3 ⟨ax, ay, az⟩ ⟨bx, by', bz⟩).x, .int .i64 (Agg.comb 3 ⟨ax, ay, az⟩ ⟨bx, by', bz⟩).y, .int .i64 (Agg.comb 3 ⟨ax, ay, az⟩ ⟨bx, by', bz⟩).z]) ∧ Below w.heap.size w w' := by
  obtain ⟨hx0, hx1, hy0, hy1, hz0, hz1⟩ := Agg.ok_bounds h
  obtain ⟨kx0, kx1, ky0, ky1, kz0, kz1⟩ := Agg.ok_bounds h'
  simp only at hx0 hx1 hy0 hy1 hz0 hz1 kx0 kx1 ky0 ky1 kz0 kz1
  
  have H := Lib.hid h; clear h
  have H' := Lib.hid h'; clear h'
  have hp := part4 w 120 cells_3
  go_each [ay = 0,by' = 0,bx < ax] => (go_enter Try.func119, Try.ntmps119; go_wp2; (all_goals (go_returns; exact ⟨ret_agg (by simp [Agg.comb, *] <;> (repeat' split) <;> first | omega | rfl | (simp <;> omega)) (by simp [Agg.comb, *] <;> (repeat' split) <;> first | omega | rfl | (simp <;> omega)) (by simp [Agg.comb, *] <;> (repeat' split) <;> first | omega | rfl | (simp <;> omega)), (by first | (go_grown; done) | (refine below_drewN ?_ _; go_grown; done) | (refine (below_drewN _ ?_); go_grown; done))⟩)))
theorem kindOf_4 (w : World) : Calls Try.prog 73 #[.int .i64 4] w fun e w' => e = .returned (.tuple #[.iface 122 (.agg #[]), .bool true]) ∧ w = w' := by
  go_enter Try.func73, Try.ntmps73
  go_wp2
  go_ret2
  exact ⟨rfl, rfl⟩

set_option maxHeartbeats 400000 in
theorem valid_4 (x y z : Int) (w : World) :
    Calls Try.prog 130 #[.agg #[], .agg #[.int .i64 x, .int .i64 y, .int .i64 z]] w fun e w' => e = .returned (.bool (Agg.ok 4 ⟨x, y, z⟩)) ∧ Below w.heap.size w w' := by
  go_enter Try.func130, Try.ntmps130
  go_wp2
  all_goals (go_returns; exact ⟨ret_bool (by rw [Bool.eq_iff_iff]; simp [Agg.ok] <;> omega), (by first | (go_grown; done) | (refine below_drewN ?_ _; go_grown; done) | (refine (below_drewN _ ?_); go_grown; done))⟩)

theorem lift_4 (n : Int) (w : World) (_h0 : 0 ≤ n) (_h1 : n ≤ 96) :
    Calls Try.prog 127 #[.agg #[], .int .i64 n] w fun e w' => e = .returned (.agg #[.int .i64 (Agg.lift 4 n).x, .int .i64 (Agg.lift 4 n).y, .int .i64 (Agg.lift 4 n).z]) ∧ Below w.heap.size w w' := by
  go_enter Try.func127, Try.ntmps127
  go_wp2
  all_goals (go_returns; exact ⟨ret_agg (by simp [Agg.lift] <;> omega) (by simp [Agg.lift] <;> omega) (by simp [Agg.lift] <;> omega), (by first | (go_grown; done) | (refine below_drewN ?_ _; go_grown; done) | (refine (below_drewN _ ?_); go_grown; done))⟩)

theorem unit_4 (w : World) :
    Calls Try.prog 129 #[.agg #[]] w fun e w' => e = .returned (.agg #[.int .i64 (Agg.unit 4).x, .int .i64 (Agg.unit 4).y, .int .i64 (Agg.unit 4).z]) ∧ Below w.heap.size w w' := by
  go_enter Try.func129, Try.ntmps129
  go_wp2
  all_goals (go_returns; exact ⟨ret_agg (by simp [Agg.unit]) (by simp [Agg.unit]) (by simp [Agg.unit]), (by first | (go_grown; done) | (refine below_drewN ?_ _; go_grown; done) | (refine (below_drewN _ ?_); go_grown; done))⟩)

theorem cells_4 : Try.prog.cellsOf 122 = 0 := by kernel_rfl


set_option maxHeartbeats 4000000 in
theorem combine_4 (ax ay az bx by' bz : Int) (w : World) (h : Agg.ok 4 ⟨ax, ay, az⟩ = true) (h' : Agg.ok 4 ⟨bx, by', bz⟩ = true) :
    Calls Try.prog 125 #[.agg #[], .agg #[.int .i64 ax, .int .i64 ay, .int .i64 az], .agg #[.int .i64 bx, .int .i64 by', .int .i64 bz]] w fun e w' => e = .returned (.agg #[.int .i64 (Agg.comb 4 ⟨ax, ay, az⟩ ⟨bx, by', bz⟩).x, .int .i64 (Agg.comb 4 ⟨ax, ay, az⟩ ⟨bx, by', bz⟩).y, .int .i64 (Agg.comb 4 ⟨ax, ay, az⟩ ⟨bx, by', bz⟩).z]) ∧ Below w.heap.size w w' := by
  obtain ⟨hx0, hx1, hy0, hy1, hz0, hz1⟩ := Agg.ok_bounds h
  obtain ⟨kx0, kx1, ky0, ky1, kz0, kz1⟩ := Agg.ok_bounds h'
  simp only at hx0 hx1 hy0 hy1 hz0 hz1 kx0 kx1 ky0 ky1 kz0 kz1
  
  have H := Lib.hid h; clear h
  have H' := Lib.hid h'; clear h'
  have hp := part4 w 122 cells_4
  go_each [ay = 0,by' = 0,ax < bx] => (go_enter Try.func125, Try.ntmps125; go_wp2; (all_goals (go_returns; exact ⟨ret_agg (by simp [Agg.comb, *] <;> (repeat' split) <;> first | omega | rfl | (simp <;> omega)) (by simp [Agg.comb, *] <;> (repeat' split) <;> first | omega | rfl | (simp <;> omega)) (by simp [Agg.comb, *] <;> (repeat' split) <;> first | omega | rfl | (simp <;> omega)), (by first | (go_grown; done) | (refine below_drewN ?_ _; go_grown; done) | (refine (below_drewN _ ?_); go_grown; done))⟩)))
end Go.Proofs.Ytehfijijapfomaa
