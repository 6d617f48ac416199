/-
  The law FnStacksStart, walked.
-/
import Derived.Test.Ythkokeeciicdnaa3y
import Derived.Test.Ythkokeeciicdnaa3v
import Derived.Test.YthkokeeciicdnaaDq
namespace Go.Proofs.Ythkokeeciicdnaa
set_option linter.unusedSimpArgs false
set_option linter.unusedVariables false
open Go.RowKit
theorem vals_none (w : World) : Vals w none 0 0 [] := ⟨rfl, Nat.le_refl _, by simp [maxLen], .inl rfl⟩
theorem nums_none (w : World) : Nums .i64 w none 0 0 [] := ⟨rfl, Nat.le_refl _, by simp [maxLen], .inl rfl⟩
theorem Agg.start_ok {k : Int} (hk : Agg.isKind k = true) : Agg.sOk k ⟨[], [], Agg.unit k, 0, 0⟩ = true := by
  simp [Agg.sOk, hk, Agg.S.size, Agg.itemsOk, Agg.fold_nil]
end Go.Proofs.Ythkokeeciicdnaa
