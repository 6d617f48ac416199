/-
  Valid stacks in the model.
-/
import Derived.Test.YtolgclajlklmaaaGreat3s
import Derived.Test.YtolgclajlklmaaaGreat3a
import Derived.Test.YtolgclajlklmaaaGreatRw
namespace Go.Proofs.YtolgclajlklmaaaGreat
set_option linter.unusedSimpArgs false
set_option linter.unusedVariables false
open Go.RowKit
theorem Agg.sOk_kind {k : Int} {s : Agg.S} (h : Agg.isKind k = false) : Agg.sOk k s = false := by simp [Agg.sOk, h]
theorem Agg.sOk_items {k : Int} {s : Agg.S} (h : Agg.itemsOk s.items = false) : Agg.sOk k s = false := by simp [Agg.sOk, h]
theorem Agg.sOk_counts {k : Int} {s : Agg.S} (h : ((decide (0 ≤ s.flips) && decide (s.flips ≤ 1000000)) && (decide (0 ≤ s.cost) && decide (s.cost ≤ 1000000))) = false) : Agg.sOk k s = false := by
  rcases Bool.and_eq_false_iff.1 h with h | h
  · exact Agg.sOk_flips h
  · exact Agg.sOk_cost h
end Go.Proofs.YtolgclajlklmaaaGreat
