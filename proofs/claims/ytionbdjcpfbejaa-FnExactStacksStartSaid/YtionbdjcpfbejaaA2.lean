/-
  The methods of some kinds of aggregates, each against plain mathematics.
-/
import Derived.Test.YtionbdjcpfbejaaA
namespace Go.Proofs.Ytionbdjcpfbejaa
set_option linter.unusedSimpArgs false
open Go.RowKit
theorem kindOf_5 (w : World) : Calls Try.prog 56 #[.int .i64 5] w fun e w' => e = .returned (.tuple #[.iface 114 (.agg #[]), .bool true]) ∧ w = w' := by
  go_enter Try.func56, Try.ntmps56
  go_wp2
  go_ret2
  exact ⟨rfl, rfl⟩



theorem unit_5 (w : World) :
    Calls Try.prog 130 #[.agg #[]] w fun e w' => e = .returned (.agg #[.int .i64 (Agg.unit 5).x, .int .i64 (Agg.unit 5).y, .int .i64 (Agg.unit 5).z]) ∧ Below w.heap.size w w' := by
  go_enter Try.func130, Try.ntmps130
  go_wp2
  all_goals (go_returns; exact ⟨ret_agg (by simp [Agg.unit]) (by simp [Agg.unit]) (by simp [Agg.unit]), (by first | (go_grown; done) | (refine below_drewN ?_ _; go_grown; done) | (refine (below_drewN _ ?_); go_grown; done))⟩)

theorem cells_5 : Try.prog.cellsOf 114 = 0 := by kernel_rfl


theorem kindOf_6 (w : World) : Calls Try.prog 56 #[.int .i64 6] w fun e w' => e = .returned (.tuple #[.iface 117 (.agg #[]), .bool true]) ∧ w = w' := by
  go_enter Try.func56, Try.ntmps56
  go_wp2
  go_ret2
  exact ⟨rfl, rfl⟩



theorem unit_6 (w : World) :
    Calls Try.prog 137 #[.agg #[]] w fun e w' => e = .returned (.agg #[.int .i64 (Agg.unit 6).x, .int .i64 (Agg.unit 6).y, .int .i64 (Agg.unit 6).z]) ∧ Below w.heap.size w w' := by
  go_enter Try.func137, Try.ntmps137
  go_wp2
  all_goals (go_returns; exact ⟨ret_agg (by simp [Agg.unit]) (by simp [Agg.unit]) (by simp [Agg.unit]), (by first | (go_grown; done) | (refine below_drewN ?_ _; go_grown; done) | (refine (below_drewN _ ?_); go_grown; done))⟩)

theorem cells_6 : Try.prog.cellsOf 117 = 0 := by kernel_rfl


theorem kindOf_7 (w : World) : Calls Try.prog 56 #[.int .i64 7] w fun e w' => e = .returned (.tuple #[.iface 118 (.agg #[]), .bool true]) ∧ w = w' := by
  go_enter Try.func56, Try.ntmps56
  go_wp2
  go_ret2
  exact ⟨rfl, rfl⟩



theorem unit_7 (w : World) :
    Calls Try.prog 143 #[.agg #[]] w fun e w' => e = .returned (.agg #[.int .i64 (Agg.unit 7).x, .int .i64 (Agg.unit 7).y, .int .i64 (Agg.unit 7).z]) ∧ Below w.heap.size w w' := by
  go_enter Try.func143, Try.ntmps143
  go_wp2
  all_goals (go_returns; exact ⟨ret_agg (by simp [Agg.unit]) (by simp [Agg.unit]) (by simp [Agg.unit]), (by first | (go_grown; done) | (refine below_drewN ?_ _; go_grown; done) | (refine (below_drewN _ ?_); go_grown; done))⟩)

theorem cells_7 : Try.prog.cellsOf 118 = 0 := by kernel_rfl


theorem kindOf_8 (w : World) : Calls Try.prog 56 #[.int .i64 8] w fun e w' => e = .returned (.tuple #[.iface 119 (.agg #[]), .bool true]) ∧ w = w' := by
  go_enter Try.func56, Try.ntmps56
  go_wp2
  go_ret2
  exact ⟨rfl, rfl⟩



theorem unit_8 (w : World) :
    Calls Try.prog 149 #[.agg #[]] w fun e w' => e = .returned (.agg #[.int .i64 (Agg.unit 8).x, .int .i64 (Agg.unit 8).y, .int .i64 (Agg.unit 8).z]) ∧ Below w.heap.size w w' := by
  go_enter Try.func149, Try.ntmps149
  go_wp2
  all_goals (go_returns; exact ⟨ret_agg (by simp [Agg.unit]) (by simp [Agg.unit]) (by simp [Agg.unit]), (by first | (go_grown; done) | (refine below_drewN ?_ _; go_grown; done) | (refine (below_drewN _ ?_); go_grown; done))⟩)

theorem cells_8 : Try.prog.cellsOf 119 = 0 := by kernel_rfl


end Go.Proofs.Ytionbdjcpfbejaa
