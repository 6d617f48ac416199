/-
  Laws of panes: panes are rows, panes are parts.
-/
import Derived.Test.YtfmkjpbmaogjpaaGreat5h
import Derived.Test.YtfmkjpbmaogjpaaGreat2t
import Derived.Deep.DeepMust
import Derived.Deep.Cut
namespace Go.Proofs.YtfmkjpbmaogjpaaGreat
set_option linter.unusedSimpArgs false
set_option linter.unusedVariables false
open Go.RowKit
theorem Agg.rowsN_div {n s : Nat} (hs : 1 ≤ s) : Agg.rowsN n s s = n / s := by
  unfold Agg.rowsN
  split
  · rw [Nat.div_eq_of_lt (by omega)]
  · rw [Nat.div_eq_sub_div (by omega) (by omega : s ≤ n)]
end Go.Proofs.YtfmkjpbmaogjpaaGreat
