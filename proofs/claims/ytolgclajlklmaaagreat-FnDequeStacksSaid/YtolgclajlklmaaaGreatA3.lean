/-
  The methods of some kinds of aggregates, each against plain mathematics.
-/
import Derived.Test.YtolgclajlklmaaaGreatA
namespace Go.Proofs.YtolgclajlklmaaaGreat
set_option linter.unusedSimpArgs false
open Go.RowKit
theorem kindOf_9 (w : World) : Calls Tryz.prog 74 #[.int .i64 9] w fun e w' => e = .returned (.tuple #[.iface 164 (.agg #[]), .bool true]) ∧ w = w' := by
  go_enter Tryz.func74, Tryz.ntmps74
  go_wp2
  go_ret2
  exact ⟨rfl, rfl⟩

set_option maxHeartbeats 400000 in
theorem valid_9 (x y z : Int) (w : World) :
    Calls Tryz.prog 182 #[.agg #[], .agg #[.int .i64 x, .int .i64 y, .int .i64 z]] w fun e w' => e = .returned (.bool (Agg.ok 9 ⟨x, y, z⟩)) ∧ Below w.heap.size w w' := by
  go_enter Tryz.func182, Tryz.ntmps182
  go_wp2
  all_goals (go_returns; exact ⟨ret_bool (by rw [Bool.eq_iff_iff]; simp [Agg.ok] <;> omega), (by first | (go_grown; done) | (refine below_drewN ?_ _; go_grown; done) | (refine (below_drewN _ ?_); go_grown; done))⟩)

theorem lift_9 (n : Int) (w : World) (_h0 : 0 ≤ n) (_h1 : n ≤ 96) :
    Calls Tryz.prog 179 #[.agg #[], .int .i64 n] w fun e w' => e = .returned (.agg #[.int .i64 (Agg.lift 9 n).x, .int .i64 (Agg.lift 9 n).y, .int .i64 (Agg.lift 9 n).z]) ∧ Below w.heap.size w w' := by
  go_enter Tryz.func179, Tryz.ntmps179
  go_wp2
  all_goals (go_returns; exact ⟨ret_agg (by simp [Agg.lift] <;> omega) (by simp [Agg.lift] <;> omega) (by simp [Agg.lift] <;> omega), (by first | (go_grown; done) | (refine below_drewN ?_ _; go_grown; done) | (refine (below_drewN _ ?_); go_grown; done))⟩)

theorem unit_9 (w : World) :
    Calls Tryz.prog 181 #[.agg #[]] w fun e w' => e = .returned (.agg #[.int .i64 (Agg.unit 9).x, .int .i64 (Agg.unit 9).y, .int .i64 (Agg.unit 9).z]) ∧ Below w.heap.size w w' := by
  go_enter Tryz.func181, Tryz.ntmps181
  go_wp2
  all_goals (go_returns; exact ⟨ret_agg (by simp [Agg.unit]) (by simp [Agg.unit]) (by simp [Agg.unit]), (by first | (go_grown; done) | (refine below_drewN ?_ _; go_grown; done) | (refine (below_drewN _ ?_); go_grown; done))⟩)

theorem cells_9 : Tryz.prog.cellsOf 164 = 0 := by kernel_rfl

set_option maxHeartbeats 1000000 in
theorem lower_9 (x y z : Int) (w : World) (h : Agg.ok 9 ⟨x, y, z⟩ = true) :
    Calls Tryz.prog 180 #[.agg #[], .agg #[.int .i64 x, .int .i64 y, .int .i64 z]] w fun e w' => e = .returned (.tuple #[.int .i64 (Agg.low 9 ⟨x, y, z⟩).1, .bool (Agg.low 9 ⟨x, y, z⟩).2]) ∧ Below w.heap.size w w' := by
  obtain ⟨hx0, hx1, hy0, hy1, hz0, hz1⟩ := Agg.ok_bounds h
  simp only at hx0 hx1 hy0 hy1 hz0 hz1
  clear h
  go_each [z = 0] => (go_enter Tryz.func180, Tryz.ntmps180; go_wp2; (all_goals (try (go_quiet (fail); go_wp2))); (all_goals (go_returns; exact ⟨ret_int_bool (by simp [Agg.low, *] <;> omega) (by simp [Agg.low, *] <;> omega), (by first | (go_grown; done) | (refine below_drewN ?_ _; go_grown; done) | (refine (below_drewN _ ?_); go_grown; done))⟩)))

set_option maxHeartbeats 4000000 in
theorem combine_9 (ax ay az bx by' bz : Int) (w : World) (h : Agg.ok 9 ⟨ax, ay, az⟩ = true) (h' : Agg.ok 9 ⟨bx, by', bz⟩ = true) :
    Calls Tryz.prog 177 #[.agg #[], .agg #[.int .i64 ax, .int .i64 ay, .int .i64 az], .agg #[.int .i64 bx, .int .i64 by', .int .i64 bz]] w fun e w' => e = .returned (.agg #[.int .i64 (Agg.comb 9 ⟨ax, ay, az⟩ ⟨bx, by', bz⟩).x, .int .i64 (Agg.comb 9 ⟨ax, ay, az⟩ ⟨bx, by', bz⟩).y, .int .i64 (Agg.comb 9 ⟨ax, ay, az⟩ ⟨bx, by', bz⟩).z]) ∧ Below w.heap.size w w' := by
  obtain ⟨hx0, hx1, hy0, hy1, hz0, hz1⟩ := Agg.ok_bounds h
  obtain ⟨kx0, kx1, ky0, ky1, kz0, kz1⟩ := Agg.ok_bounds h'
  simp only at hx0 hx1 hy0 hy1 hz0 hz1 kx0 kx1 ky0 ky1 kz0 kz1
  
  have H := Lib.hid h; clear h
  have H' := Lib.hid h'; clear h'
  have hp := part4 w 164 cells_9
  go_each [az = 0,bz = 0,ay < bx] => (go_enter Tryz.func177, Tryz.ntmps177; go_wp2; (all_goals (go_returns; exact ⟨ret_agg (by simp [Agg.comb, *] <;> (repeat' split) <;> first | omega | rfl | (simp <;> omega)) (by simp [Agg.comb, *] <;> (repeat' split) <;> first | omega | rfl | (simp <;> omega)) (by simp [Agg.comb, *] <;> (repeat' split) <;> first | omega | rfl | (simp <;> omega)), (by first | (go_grown; done) | (refine below_drewN ?_ _; go_grown; done) | (refine (below_drewN _ ?_); go_grown; done))⟩)))
theorem kindOf_10 (w : World) : Calls Tryz.prog 74 #[.int .i64 10] w fun e w' => e = .returned (.tuple #[.iface 165 (.agg #[]), .bool true]) ∧ w = w' := by
  go_enter Tryz.func74, Tryz.ntmps74
  go_wp2
  go_ret2
  exact ⟨rfl, rfl⟩

set_option maxHeartbeats 400000 in
theorem valid_10 (x y z : Int) (w : World) :
    Calls Tryz.prog 188 #[.agg #[], .agg #[.int .i64 x, .int .i64 y, .int .i64 z]] w fun e w' => e = .returned (.bool (Agg.ok 10 ⟨x, y, z⟩)) ∧ Below w.heap.size w w' := by
  go_enter Tryz.func188, Tryz.ntmps188
  go_wp2
  all_goals (go_returns; exact ⟨ret_bool (by rw [Bool.eq_iff_iff]; simp [Agg.ok] <;> omega), (by first | (go_grown; done) | (refine below_drewN ?_ _; go_grown; done) | (refine (below_drewN _ ?_); go_grown; done))⟩)

theorem lift_10 (n : Int) (w : World) (_h0 : 0 ≤ n) (_h1 : n ≤ 96) :
    Calls Tryz.prog 185 #[.agg #[], .int .i64 n] w fun e w' => e = .returned (.agg #[.int .i64 (Agg.lift 10 n).x, .int .i64 (Agg.lift 10 n).y, .int .i64 (Agg.lift 10 n).z]) ∧ Below w.heap.size w w' := by
  go_enter Tryz.func185, Tryz.ntmps185
  go_wp2
  all_goals (go_returns; exact ⟨ret_agg (by simp [Agg.lift] <;> omega) (by simp [Agg.lift] <;> omega) (by simp [Agg.lift] <;> omega), (by first | (go_grown; done) | (refine below_drewN ?_ _; go_grown; done) | (refine (below_drewN _ ?_); go_grown; done))⟩)

theorem unit_10 (w : World) :
    Calls Tryz.prog 187 #[.agg #[]] w fun e w' => e = .returned (.agg #[.int .i64 (Agg.unit 10).x, .int .i64 (Agg.unit 10).y, .int .i64 (Agg.unit 10).z]) ∧ Below w.heap.size w w' := by
  go_enter Tryz.func187, Tryz.ntmps187
  go_wp2
  all_goals (go_returns; exact ⟨ret_agg (by simp [Agg.unit]) (by simp [Agg.unit]) (by simp [Agg.unit]), (by first | (go_grown; done) | (refine below_drewN ?_ _; go_grown; done) | (refine (below_drewN _ ?_); go_grown; done))⟩)

theorem cells_10 : Tryz.prog.cellsOf 165 = 0 := by kernel_rfl

set_option maxHeartbeats 1000000 in
theorem lower_10 (x y z : Int) (w : World) (h : Agg.ok 10 ⟨x, y, z⟩ = true) :
    Calls Tryz.prog 186 #[.agg #[], .agg #[.int .i64 x, .int .i64 y, .int .i64 z]] w fun e w' => e = .returned (.tuple #[.int .i64 (Agg.low 10 ⟨x, y, z⟩).1, .bool (Agg.low 10 ⟨x, y, z⟩).2]) ∧ Below w.heap.size w w' := by
  obtain ⟨hx0, hx1, hy0, hy1, hz0, hz1⟩ := Agg.ok_bounds h
  simp only at hx0 hx1 hy0 hy1 hz0 hz1
  clear h
  go_each [z = 0] => (go_enter Tryz.func186, Tryz.ntmps186; go_wp2; (all_goals (try (go_quiet (fail); go_wp2))); (all_goals (go_returns; exact ⟨ret_int_bool (by simp [Agg.low, *] <;> omega) (by simp [Agg.low, *] <;> omega), (by first | (go_grown; done) | (refine below_drewN ?_ _; go_grown; done) | (refine (below_drewN _ ?_); go_grown; done))⟩)))

set_option maxHeartbeats 4000000 in
theorem combine_10 (ax ay az bx by' bz : Int) (w : World) (h : Agg.ok 10 ⟨ax, ay, az⟩ = true) (h' : Agg.ok 10 ⟨bx, by', bz⟩ = true) :
    Calls Tryz.prog 183 #[.agg #[], .agg #[.int .i64 ax, .int .i64 ay, .int .i64 az], .agg #[.int .i64 bx, .int .i64 by', .int .i64 bz]] w fun e w' => e = .returned (.agg #[.int .i64 (Agg.comb 10 ⟨ax, ay, az⟩ ⟨bx, by', bz⟩).x, .int .i64 (Agg.comb 10 ⟨ax, ay, az⟩ ⟨bx, by', bz⟩).y, .int .i64 (Agg.comb 10 ⟨ax, ay, az⟩ ⟨bx, by', bz⟩).z]) ∧ Below w.heap.size w w' := by
  obtain ⟨hx0, hx1, hy0, hy1, hz0, hz1⟩ := Agg.ok_bounds h
  obtain ⟨kx0, kx1, ky0, ky1, kz0, kz1⟩ := Agg.ok_bounds h'
  simp only at hx0 hx1 hy0 hy1 hz0 hz1 kx0 kx1 ky0 ky1 kz0 kz1
  
  have H := Lib.hid h; clear h
  have H' := Lib.hid h'; clear h'
  have hp := part4 w 165 cells_10
  go_each [az = 0,bz = 0,ax < bx] => (go_enter Tryz.func183, Tryz.ntmps183; go_wp2; (all_goals (go_returns; exact ⟨ret_agg (by simp [Agg.comb, *] <;> (repeat' split) <;> first | omega | rfl | (simp <;> omega)) (by simp [Agg.comb, *] <;> (repeat' split) <;> first | omega | rfl | (simp <;> omega)) (by simp [Agg.comb, *] <;> (repeat' split) <;> first | omega | rfl | (simp <;> omega)), (by first | (go_grown; done) | (refine below_drewN ?_ _; go_grown; done) | (refine (below_drewN _ ?_); go_grown; done))⟩)))
end Go.Proofs.YtolgclajlklmaaaGreat
