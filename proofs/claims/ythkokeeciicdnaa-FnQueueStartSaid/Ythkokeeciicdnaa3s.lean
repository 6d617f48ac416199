/-
  Two stacks: their size, whether they are valid, in the program and in the model.
-/
import Derived.Test.YthkokeeciicdnaaRw
import Derived.Test.YthkokeeciicdnaaM
import Derived.Test.YthkokeeciicdnaaN
import Derived.Test.YthkokeeciicdnaaMa
import Derived.Test.YthkokeeciicdnaaL
namespace Go.Proofs.Ythkokeeciicdnaa
set_option linter.unusedSimpArgs false
set_option linter.unusedVariables false
open Go.RowKit
theorem Agg.sOk_size {k : Int} {s : Agg.S} (h : ¬ s.size ≤ 60) : Agg.sOk k s = false := by simp [Agg.sOk, h]
theorem Agg.sOk_flips {k : Int} {s : Agg.S} (h : (decide (0 ≤ s.flips) && decide (s.flips ≤ 1000000)) = false) : Agg.sOk k s = false := by
  have : decide (0 ≤ s.flips ∧ s.flips ≤ 1000000) = false := by rw [Bool.decide_and]; exact h
  simp [Agg.sOk, this]
theorem Agg.sOk_cost {k : Int} {s : Agg.S} (h : (decide (0 ≤ s.cost) && decide (s.cost ≤ 1000000)) = false) : Agg.sOk k s = false := by
  have : decide (0 ≤ s.cost ∧ s.cost ≤ 1000000) = false := by rw [Bool.decide_and]; exact h
  simp [Agg.sOk, this]
theorem Agg.sOk_front {k : Int} {s : Agg.S} {i : Nat} (hi : i < s.front.length) (h : Agg.valid k (s.front[i]?.getD Agg.zero) = false) : Agg.sOk k s = false := by
  rw [Bool.eq_false_iff]
  intro hs
  simp only [Agg.sOk, Bool.and_eq_true, decide_eq_true_eq, List.all_eq_true] at hs
  have h1 := hs.1.1.2 (s.front[i]?.getD Agg.zero) (by simp [hi])
  have h2 := hs.1.1.1.1.1.1
  rw [Agg.valid, h2, h1] at h
  simp at h
theorem Agg.sOk_rest {k : Int} {s : Agg.S} (hs : s.size ≤ 60) (h1 : (decide (0 ≤ s.flips) && decide (s.flips ≤ 1000000)) = true) (h2 : (decide (0 ≤ s.cost) && decide (s.cost ≤ 1000000)) = true)
    (hf : ∀ i, i < s.front.length → Agg.valid k (s.front[i]?.getD Agg.zero) = true) : Agg.sOk k s = ((Agg.isKind k && Agg.itemsOk s.items) && decide (s.back = Agg.fold k s.items)) := by
  simp only [Bool.and_eq_true, decide_eq_true_eq] at h1 h2
  have hall : Agg.isKind k = true → s.front.all (Agg.ok k) = true := by
    intro hk
    rw [List.all_eq_true]
    intro v hv
    obtain ⟨i, hi, rfl⟩ := List.getElem_of_mem hv
    have := hf i hi
    simp only [hi, Agg.valid, hk, Bool.true_and, List.getElem?_eq_getElem, Option.getD_some] at this
    exact this
  unfold Agg.sOk
  cases hk : Agg.isKind k
  · simp
  · simp [hall hk, hs, h1, h2]
end Go.Proofs.Ythkokeeciicdnaa
