/-
  The methods of some kinds of aggregates, each against plain mathematics.
-/
import Derived.Test.YtionbdjcpfbejaaA
namespace Go.Proofs.Ytionbdjcpfbejaa
set_option linter.unusedSimpArgs false
open Go.RowKit
theorem kindOf_9 (w : World) : Calls Try.prog 56 #[.int .i64 9] w fun e w' => e = .returned (.tuple #[.iface 120 (.agg #[]), .bool true]) ∧ w = w' := by
  go_enter Try.func56, Try.ntmps56
  go_wp2
  go_ret2
  exact ⟨rfl, rfl⟩



theorem unit_9 (w : World) :
    Calls Try.prog 155 #[.agg #[]] w fun e w' => e = .returned (.agg #[.int .i64 (Agg.unit 9).x, .int .i64 (Agg.unit 9).y, .int .i64 (Agg.unit 9).z]) ∧ Below w.heap.size w w' := by
  go_enter Try.func155, Try.ntmps155
  go_wp2
  all_goals (go_returns; exact ⟨ret_agg (by simp [Agg.unit]) (by simp [Agg.unit]) (by simp [Agg.unit]), (by first | (go_grown; done) | (refine below_drewN ?_ _; go_grown; done) | (refine (below_drewN _ ?_); go_grown; done))⟩)

theorem cells_9 : Try.prog.cellsOf 120 = 0 := by kernel_rfl


theorem kindOf_10 (w : World) : Calls Try.prog 56 #[.int .i64 10] w fun e w' => e = .returned (.tuple #[.iface 121 (.agg #[]), .bool true]) ∧ w = w' := by
  go_enter Try.func56, Try.ntmps56
  go_wp2
  go_ret2
  exact ⟨rfl, rfl⟩



theorem unit_10 (w : World) :
    Calls Try.prog 161 #[.agg #[]] w fun e w' => e = .returned (.agg #[.int .i64 (Agg.unit 10).x, .int .i64 (Agg.unit 10).y, .int .i64 (Agg.unit 10).z]) ∧ Below w.heap.size w w' := by
  go_enter Try.func161, Try.ntmps161
  go_wp2
  all_goals (go_returns; exact ⟨ret_agg (by simp [Agg.unit]) (by simp [Agg.unit]) (by simp [Agg.unit]), (by first | (go_grown; done) | (refine below_drewN ?_ _; go_grown; done) | (refine (below_drewN _ ?_); go_grown; done))⟩)

theorem cells_10 : Try.prog.cellsOf 121 = 0 := by kernel_rfl


end Go.Proofs.Ytionbdjcpfbejaa
