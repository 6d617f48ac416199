/-
  Whether all elements of a slice are items, in the program and in the model.
-/
import Derived.Test.YtofpnmjadflebaaRw
import Derived.Test.YtofpnmjadflebaaS0
namespace Go.Proofs.Ytofpnmjadflebaa
set_option linter.unusedSimpArgs false
open Go.RowKit
theorem itemsOk_of (l : List Int) (hn : l.length ≤ 60) (h : ∀ i, i < l.length → Agg.isItem (l[i]?.getD 0) = true) : Agg.itemsOk l = true := by
  simp only [Agg.itemsOk, Bool.and_eq_true, decide_eq_true_eq, List.all_eq_true]
  refine ⟨hn, fun x hx => ?_⟩
  obtain ⟨i, hi, rfl⟩ := List.getElem_of_mem hx
  simpa [hi] using h i hi
theorem itemsOk_not (l : List Int) {i : Nat} (hi : i < l.length) (h : Agg.isItem (l[i]?.getD 0) = false) : Agg.itemsOk l = false := by
  rw [Bool.eq_false_iff]
  intro hk
  simp only [Agg.itemsOk, Bool.and_eq_true, decide_eq_true_eq, List.all_eq_true] at hk
  have := hk.2 (l[i]?.getD 0) (by simp [hi])
  rw [h] at this
  exact absurd this (by decide)

end Go.Proofs.Ytofpnmjadflebaa
