/-
  Two tests of the model: whether a number is a kind, and whether it lies between two others.
-/
import Derived.Test.YtofpnmjadflebaaA
namespace Go.Proofs.Ytofpnmjadflebaa
set_option linter.unusedSimpArgs false
open Go.RowKit
theorem s_in_any (n lo hi : Int) (w : World) :
    Calls Try.prog 37 #[.int .i64 n, .int .i64 lo, .int .i64 hi] w fun e w' => e = .returned (.bool (decide (lo ≤ n) && decide (n ≤ hi))) ∧ w = w' := by
  go_enter Try.func37, Try.ntmps37
  go_wp2
  all_goals (go_returns; exact ⟨ret_bool (by simp <;> omega), rfl⟩)
theorem s_in_item (n : Int) (w : World) :
    Calls Try.prog 37 #[.int .i64 n, .int .i64 0, .int .i64 96] w fun e w' => e = .returned (.bool (Agg.isItem n)) ∧ w = w' := by
  go_enter Try.func37, Try.ntmps37
  go_wp2
  all_goals (go_returns; exact ⟨ret_bool (by simp [Agg.isItem] <;> omega), rfl⟩)
end Go.Proofs.Ytofpnmjadflebaa
