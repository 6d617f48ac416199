/-
  Two tests of the model: whether a number is a kind, and whether it lies between two others.
-/
import Derived.Test.YtebdiknhamplmaaA
namespace Go.Proofs.Ytebdiknhamplmaa
set_option linter.unusedSimpArgs false
open Go.RowKit
theorem s_kind_any (k : Int) (w : World) : Calls Try.prog 13 #[.int .i64 k] w fun e w' => e = .returned (.bool (Agg.isKind k)) ∧ w = w' := by
  go_enter Try.func13, Try.ntmps13
  go_wp2
  all_goals (go_returns; exact ⟨ret_bool (by simp [Agg.isKind] <;> omega), rfl⟩)
end Go.Proofs.Ytebdiknhamplmaa
