/-
  The laws FnQueriesOf, FnWindowCount and FnQueriesPrefix, walked.
-/
import Derived.Test.Ythkokeeciicdnaa2f
import Derived.Test.Ythkokeeciicdnaa2t
import Derived.Test.Ythkokeeciicdnaa2q
import Derived.Test.YthkokeeciicdnaaMa
namespace Go.Proofs.Ythkokeeciicdnaa
set_option linter.unusedSimpArgs false
set_option linter.unusedVariables false
open Go.RowKit
namespace Agg
theorem opAt_take (l : List (Bool × Int)) {i j : Nat} (h : j < i) : opAt (l.take i) j = opAt l j := by simp [opAt, List.getElem?_take, h]
theorem winAt_take (l : List (Bool × Int)) (i : Nat) : ∀ j, j ≤ i → winAt (l.take i) j = winAt l j
  | 0, _ => rfl
  | j + 1, h => by simp only [winAt]; rw [winAt_take l i j (by omega), opAt_take l (by omega)]
theorem allOk_take (l : List (Bool × Int)) (i : Nat) : ∀ j, j ≤ i → allOk (l.take i) j = allOk l j
  | 0, _ => rfl
  | j + 1, h => by simp only [allOk]; rw [allOk_take l i j (by omega), opAt_take l (by omega)]
theorem fitTo_take (l : List (Bool × Int)) (i : Nat) : ∀ j, j ≤ i → fitTo (l.take i) j = fitTo l j
  | 0, _ => rfl
  | j + 1, h => by simp only [fitTo]; rw [fitTo_take l i j (by omega), opAt_take l (by omega), winAt_take l i j (by omega)]
theorem opsOk_take {l : List (Bool × Int)} (h : opsOk l = true) {i : Nat} (hi : i ≤ l.length) : opsOk (l.take i) = true := by
  obtain ⟨h1, h2, h3⟩ := opsOk_parts h
  have hl : (l.take i).length = i := by simp; omega
  simp only [opsOk, hl, Bool.and_eq_true, decide_eq_true_eq]
  exact ⟨⟨by omega, by rw [allOk_take l i i (Nat.le_refl _)]; exact allOk_down hi h2⟩, by rw [fitTo_take l i i (Nat.le_refl _)]; exact fitTo_down hi h3⟩
theorem qs_take (k : Int) (l : List (Bool × Int)) {i : Nat} (hi : i ≤ l.length) : qs k (l.take i) = (qs k l).take i := by
  have hl : (l.take i).length = i := by simp; omega
  simp only [qs, hl]
  rw [← List.map_take, List.take_range, Nat.min_eq_left hi]
  apply List.map_congr_left
  intro j hj
  have := List.mem_range.1 hj
  rw [winAt_take l i (j + 1) (by omega)]
theorem qs_at (k : Int) (l : List (Bool × Int)) {j : Nat} (h : j < l.length) : (qs k l)[j]?.getD 0 = number k (winAt l (j + 1)) := by simp [qs, h]
theorem number_count {l : List Int} (h : itemsOk l = true) : number 2 l = l.length := by
  have hk : isKind 2 = true := by decide
  have := items_len h
  rw [number, count_len, num, aLow_of hk (by rw [← count_len]; exact ok_fold_all hk h)]
  simp [low]
end Agg
theorem Nums.pre {w : World} {a : Option Addr} {n cap : Nat} {l : List Int} (h : Nums .i64 w a n cap l) {i : Nat} (hi : i ≤ n) : Nums .i64 w a i cap (l.take i) := by
  obtain ⟨h1, h2, h3, h4⟩ := h
  refine ⟨by simp; omega, by omega, h3, ?_⟩
  rcases h4 with h4 | ⟨b, off, ha, hb, hc⟩
  · exact .inl (by omega)
  · exact .inr ⟨b, off, ha, hb, fun j hj => by rw [hc j (by omega), List.getElem?_take, if_pos hj]⟩
theorem Ops.pre {w : World} {a : Option Addr} {n cap : Nat} {l : List (Bool × Int)} (h : Ops w a n cap l) {i : Nat} (hi : i ≤ n) : Ops w a i cap (l.take i) := by
  obtain ⟨h1, h2, h3, h4⟩ := h
  refine ⟨by simp; omega, by omega, h3, ?_⟩
  rcases h4 with h4 | ⟨b, off, ha, hb, hc⟩
  · exact .inl (by omega)
  · exact .inr ⟨b, off, ha, hb, fun j hj => by rw [List.getElem?_take, if_pos hj]; exact hc j (by omega)⟩
end Go.Proofs.Ythkokeeciicdnaa
