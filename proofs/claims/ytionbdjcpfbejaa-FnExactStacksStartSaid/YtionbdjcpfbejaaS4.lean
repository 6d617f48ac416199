/-
  The model's functions of chapter 1 at some kinds, each against plain mathematics.
-/
import Derived.Test.YtionbdjcpfbejaaS0
import Derived.Test.YtionbdjcpfbejaaMath3
namespace Go.Proofs.Ytionbdjcpfbejaa
open Go.RowKit
set_option linter.unusedSimpArgs false
set_option linter.unusedVariables false
theorem s_kind_9 (w : World) : Calls Try.prog 39 #[.int .i64 9] w fun e w' => e = .returned (.bool true) ∧ w = w' := by
  go_enter Try.func39, Try.ntmps39
  go_wp2
  go_returns
  exact ⟨rfl, rfl⟩


theorem s_unit_9 (w : World) :
    Calls Try.prog 40 #[.int .i64 9] w fun e w' => e = .returned (.agg #[.int .i64 (Agg.unit 9).x, .int .i64 (Agg.unit 9).y, .int .i64 (Agg.unit 9).z]) ∧ Below w.heap.size w w' := by
  go_enter Try.func40, Try.ntmps40
  go_wp2
  all_goals (go_returns; exact ⟨ret_agg (by simp [Agg.unit]) (by simp [Agg.unit]) (by simp [Agg.unit]), (by first | (go_grown; done) | (refine below_drewN ?_ _; go_grown; done) | (refine (below_drewN _ ?_); go_grown; done))⟩)








theorem s_kind_10 (w : World) : Calls Try.prog 39 #[.int .i64 10] w fun e w' => e = .returned (.bool true) ∧ w = w' := by
  go_enter Try.func39, Try.ntmps39
  go_wp2
  go_returns
  exact ⟨rfl, rfl⟩


theorem s_unit_10 (w : World) :
    Calls Try.prog 40 #[.int .i64 10] w fun e w' => e = .returned (.agg #[.int .i64 (Agg.unit 10).x, .int .i64 (Agg.unit 10).y, .int .i64 (Agg.unit 10).z]) ∧ Below w.heap.size w w' := by
  go_enter Try.func40, Try.ntmps40
  go_wp2
  all_goals (go_returns; exact ⟨ret_agg (by simp [Agg.unit]) (by simp [Agg.unit]) (by simp [Agg.unit]), (by first | (go_grown; done) | (refine below_drewN ?_ _; go_grown; done) | (refine (below_drewN _ ?_); go_grown; done))⟩)








end Go.Proofs.Ytionbdjcpfbejaa
