/-
  The aggregate of two stacks, in the program and in the model.
-/
import Derived.Test.Ythkokeeciicdnaa3t
import Derived.Test.YthkokeeciicdnaaRw
namespace Go.Proofs.Ythkokeeciicdnaa
set_option linter.unusedSimpArgs false
set_option linter.unusedVariables false
open Go.RowKit
/-- What valid stacks have. -/
theorem Agg.sOk_parts {k : Int} {s : Agg.S} (h : Agg.sOk k s = true) : Agg.isKind k = true ∧ s.size ≤ 60 ∧ (∀ i, i < s.front.length → Agg.ok k (s.front[i]?.getD Agg.zero) = true) ∧ Agg.itemsOk s.items = true ∧ s.back = Agg.fold k s.items ∧ Agg.ok k s.back = true ∧ 0 ≤ s.flips ∧ 0 ≤ s.cost := by
  simp only [Agg.sOk, Bool.and_eq_true, decide_eq_true_eq, List.all_eq_true] at h
  obtain ⟨⟨⟨⟨⟨⟨hk, hf⟩, hc⟩, hs⟩, ha⟩, hi⟩, hb⟩ := h
  refine ⟨hk, hs, fun i hi2 => ha _ (by simp [hi2]), hi, hb, ?_, hf.1, hc.1⟩
  rw [hb]
  exact Agg.ok_fold_all hk hi
theorem Agg.aVal_not {k : Int} {s : Agg.S} (h : Agg.sOk k s = false) : Agg.aValS k s = (Agg.zero, false) := by simp [Agg.aValS, Agg.give, h]
theorem Agg.aVal_unit {k : Int} {s : Agg.S} (h : Agg.sOk k s = true) (h0 : s.front.length = 0) : Agg.aComb k (Agg.unit k) s.back = Agg.aValS k s := by
  obtain ⟨hk, -, -, -, -, hb, -⟩ := Agg.sOk_parts h
  simp [Agg.aComb, Agg.aValS, Agg.valS, h0, h, hb, Agg.valid, hk, Agg.ok_unit hk, Agg.comb_unit_left hk hb]
theorem Agg.aVal_last {k : Int} {s : Agg.S} (h : Agg.sOk k s = true) (h0 : 0 < s.front.length) : Agg.aComb k (s.front[s.front.length - 1]?.getD Agg.zero) s.back = Agg.aValS k s := by
  obtain ⟨hk, -, hf, -, -, hb, -⟩ := Agg.sOk_parts h
  have hl := hf (s.front.length - 1) (by omega)
  have hn : ¬ s.front.length = 0 := by omega
  simp only [Agg.aComb, Agg.aValS, Agg.valS, hn, if_false, h, Agg.valid, hk, hl, hb, Bool.and_self, Bool.true_and]
end Go.Proofs.Ythkokeeciicdnaa
