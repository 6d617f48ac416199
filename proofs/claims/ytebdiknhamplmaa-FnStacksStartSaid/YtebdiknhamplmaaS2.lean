/-
  The model's functions of chapter 1 at some kinds, each against plain mathematics.
-/
import Derived.Test.YtebdiknhamplmaaS0
import Derived.Test.YtebdiknhamplmaaMath3
namespace Go.Proofs.Ytebdiknhamplmaa
open Go.RowKit
set_option linter.unusedSimpArgs false
set_option linter.unusedVariables false
theorem s_kind_4 (w : World) : Calls Try.prog 13 #[.int .i64 4] w fun e w' => e = .returned (.bool true) ∧ w = w' := by
  go_enter Try.func13, Try.ntmps13
  go_wp2
  go_returns
  exact ⟨rfl, rfl⟩


theorem s_unit_4 (w : World) :
    Calls Try.prog 14 #[.int .i64 4] w fun e w' => e = .returned (.agg #[.int .i64 (Agg.unit 4).x, .int .i64 (Agg.unit 4).y, .int .i64 (Agg.unit 4).z]) ∧ Below w.heap.size w w' := by
  go_enter Try.func14, Try.ntmps14
  go_wp2
  all_goals (go_returns; exact ⟨ret_agg (by simp [Agg.unit]) (by simp [Agg.unit]) (by simp [Agg.unit]), (by first | (go_grown; done) | (refine below_drewN ?_ _; go_grown; done) | (refine (below_drewN _ ?_); go_grown; done))⟩)








theorem s_kind_5 (w : World) : Calls Try.prog 13 #[.int .i64 5] w fun e w' => e = .returned (.bool true) ∧ w = w' := by
  go_enter Try.func13, Try.ntmps13
  go_wp2
  go_returns
  exact ⟨rfl, rfl⟩


theorem s_unit_5 (w : World) :
    Calls Try.prog 14 #[.int .i64 5] w fun e w' => e = .returned (.agg #[.int .i64 (Agg.unit 5).x, .int .i64 (Agg.unit 5).y, .int .i64 (Agg.unit 5).z]) ∧ Below w.heap.size w w' := by
  go_enter Try.func14, Try.ntmps14
  go_wp2
  all_goals (go_returns; exact ⟨ret_agg (by simp [Agg.unit]) (by simp [Agg.unit]) (by simp [Agg.unit]), (by first | (go_grown; done) | (refine below_drewN ?_ _; go_grown; done) | (refine (below_drewN _ ?_); go_grown; done))⟩)








end Go.Proofs.Ytebdiknhamplmaa
