/-
  Two tests of the model: whether a number is a kind, and whether it lies between two others.
-/
import Derived.Test.YtolgclajlklmaaaGreatA
namespace Go.Proofs.YtolgclajlklmaaaGreat
set_option linter.unusedSimpArgs false
open Go.RowKit
theorem s_in_any (n lo hi : Int) (w : World) :
    Calls Tryz.prog 71 #[.int .i64 n, .int .i64 lo, .int .i64 hi] w fun e w' => e = .returned (.bool (decide (lo ≤ n) && decide (n ≤ hi))) ∧ w = w' := by
  go_enter Tryz.func71, Tryz.ntmps71
  go_wp2
  all_goals (go_returns; exact ⟨ret_bool (by simp <;> omega), rfl⟩)
theorem s_in_item (n : Int) (w : World) :
    Calls Tryz.prog 71 #[.int .i64 n, .int .i64 0, .int .i64 96] w fun e w' => e = .returned (.bool (Agg.isItem n)) ∧ w = w' := by
  go_enter Tryz.func71, Tryz.ntmps71
  go_wp2
  all_goals (go_returns; exact ⟨ret_bool (by simp [Agg.isItem] <;> omega), rfl⟩)
theorem s_kind_any (k : Int) (w : World) : Calls Tryz.prog 56 #[.int .i64 k] w fun e w' => e = .returned (.bool (Agg.isKind k)) ∧ w = w' := by
  go_enter Tryz.func56, Tryz.ntmps56
  go_wp2
  all_goals (go_returns; exact ⟨ret_bool (by simp [Agg.isKind] <;> omega), rfl⟩)
end Go.Proofs.YtolgclajlklmaaaGreat
