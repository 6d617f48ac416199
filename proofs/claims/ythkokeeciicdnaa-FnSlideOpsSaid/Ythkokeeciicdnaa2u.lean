/-
  The law FnSlideQueries, walked.
-/
import Derived.Test.Ythkokeeciicdnaa2i
import Derived.Test.Ythkokeeciicdnaa2o
namespace Go.Proofs.Ythkokeeciicdnaa
set_option linter.unusedSimpArgs false
set_option linter.unusedVariables false
open Go.RowKit
namespace Agg
theorem winAt_pre (A B : List (Bool × Int)) {i : Nat} (h : i ≤ A.length) : winAt (A ++ B) i = winAt A i := by
  have := winAt_take (A ++ B) A.length i h
  rw [List.take_left] at this
  exact this.symm
theorem allOk_pre (A B : List (Bool × Int)) {i : Nat} (h : i ≤ A.length) : allOk (A ++ B) i = allOk A i := by
  have := allOk_take (A ++ B) A.length i h
  rw [List.take_left] at this
  exact this.symm
theorem fitTo_pre (A B : List (Bool × Int)) {i : Nat} (h : i ≤ A.length) : fitTo (A ++ B) i = fitTo A i := by
  have := fitTo_take (A ++ B) A.length i h
  rw [List.take_left] at this
  exact this.symm
theorem opAt_end (A : List (Bool × Int)) (o : Bool × Int) : opAt (A ++ [o]) A.length = o := by simp [opAt]
/-- The window behind i changes of a window of size s. -/
def slideWin (l : List Int) (s i : Nat) : List Int := if i < s then l.take i else if (i - s) % 2 = 0 then (l.drop ((i - s) / 2)).take s else (l.drop ((i - s) / 2)).take (s + 1)
/-- How many changes there are for j items. -/
def slideLen (s j : Nat) : Nat := if j < s then j else s + 2 * (j - s)
structure SlideGood (l : List Int) (s : Nat) (A : List (Bool × Int)) (n : Nat) : Prop where
  len : A.length = n
  all : allOk A n = true
  fit : fitTo A n = true
  win : ∀ i, i ≤ n → winAt A i = slideWin l s i
theorem SlideGood.snoc {l : List Int} {s : Nat} {A : List (Bool × Int)} {n : Nat} (h : SlideGood l s A n) (o : Bool × Int) (h1 : opOk o = true) (h2 : fits (slideWin l s n) o = true) (h3 : stepW (slideWin l s n) o = slideWin l s (n + 1)) : SlideGood l s (A ++ [o]) (n + 1) := by
  obtain ⟨e1, e2, e3, e4⟩ := h
  have ho : opAt (A ++ [o]) n = o := by rw [← e1]; exact opAt_end A o
  have hw : winAt (A ++ [o]) n = slideWin l s n := by rw [winAt_pre A [o] (by omega)]; exact e4 n (Nat.le_refl _)
  refine ⟨by simp [e1], ?_, ?_, ?_⟩
  · simp only [allOk, ho, h1, Bool.and_true]; rw [allOk_pre A [o] (by omega)]; exact e2
  · simp only [fitTo, ho, hw, h2, Bool.and_true]; rw [fitTo_pre A [o] (by omega)]; exact e3
  · intro i hi
    by_cases hl : i ≤ n
    · rw [winAt_pre A [o] (by omega)]; exact e4 i hl
    · obtain rfl : i = n + 1 := by omega
      simp only [winAt, ho, hw]
      exact h3
theorem slideWin_len {l : List Int} {s i : Nat} (hs : 1 ≤ s) (hi : i ≤ slideLen s l.length) : (slideWin l s i).length = if i < s then i else if (i - s) % 2 = 0 then s else s + 1 := by
  unfold slideLen at hi
  unfold slideWin
  by_cases h1 : i < s
  · rw [if_pos h1, if_pos h1]
    simp
    split at hi <;> omega
  · rw [if_neg h1, if_neg h1]
    split at hi
    · omega
    · by_cases h2 : (i - s) % 2 = 0
      · rw [if_pos h2, if_pos h2]; simp; omega
      · rw [if_neg h2, if_neg h2]; simp; omega
theorem slide_good {l : List Int} (hl : itemsOk l = true) {s : Nat} (hs : 1 ≤ s) (h59 : s ≤ 59) : ∀ j, j ≤ l.length → SlideGood l s (sOps l s j) (slideLen s j)
  | 0, _ => by
    have e : slideLen s 0 = 0 := by unfold slideLen; split <;> omega
    rw [e]
    refine ⟨rfl, rfl, rfl, fun i hi => ?_⟩
    obtain rfl : i = 0 := by omega
    simp [winAt, slideWin, show 0 < s by omega]
  | j + 1, hj => by
    have ih := slide_good hl hs h59 j (by omega)
    have hx := item_at hl (i := j) (by omega)
    obtain ⟨x, hxe⟩ : ∃ x, x = l[j]?.getD 0 := ⟨_, rfl⟩
    have hxl : l[j]? = some x := by rw [hxe, List.getElem?_eq_getElem (by omega)]; rfl
    rw [← hxe] at hx
    have hxo : opOk (true, x) = true := by simp [opOk, hx]
    by_cases hsj : s ≤ j
    · have e0 : slideLen s j = s + 2 * (j - s) := by unfold slideLen; rw [if_neg (by omega)]
      have e1 : slideLen s (j + 1) = slideLen s j + 1 + 1 := by rw [e0]; unfold slideLen; rw [if_neg (by omega)]; omega
      have w0 : slideWin l s (slideLen s j) = (l.drop (j - s)).take s := by
        unfold slideWin
        rw [e0, if_neg (by omega), if_pos (by omega), show (s + 2 * (j - s) - s) / 2 = j - s by omega]
      have w1 : slideWin l s (slideLen s j + 1) = (l.drop (j - s)).take (s + 1) := by
        unfold slideWin
        rw [e0, if_neg (by omega), if_neg (by omega), show (s + 2 * (j - s) + 1 - s) / 2 = j - s by omega]
      have w2 : slideWin l s (slideLen s j + 1 + 1) = (l.drop (j - s + 1)).take s := by
        unfold slideWin
        rw [e0, if_neg (by omega), if_pos (by omega), show (s + 2 * (j - s) + 1 + 1 - s) / 2 = j - s + 1 by omega]
      have hd : (l.drop (j - s))[s]? = some x := by rw [List.getElem?_drop, show j - s + s = j by omega]; exact hxl
      have t1 : (l.drop (j - s)).take (s + 1) = (l.drop (j - s)).take s ++ [x] := by rw [List.take_add_one, hd]; rfl
      have t2 : ((l.drop (j - s)).take (s + 1)).tail = (l.drop (j - s + 1)).take s := by
        rw [← List.drop_one, List.drop_take, List.drop_drop]
        simp
      have a := (ih.snoc (true, x) hxo (by rw [w0]; simp [fits]; omega) (by rw [w0, w1, t1]; simp [stepW])).snoc (false, 0) (by decide) (by rw [w1]; simp [fits]; omega) (by rw [w1, w2, ← t2]; simp [stepW])
      rw [e1]
      simp only [sOps, hsj, if_true, ← hxe]
      exact a
    · have e0 : slideLen s j = j := by unfold slideLen; rw [if_pos (by omega)]
      have e1 : slideLen s (j + 1) = j + 1 := by unfold slideLen; split <;> omega
      have w0 : slideWin l s j = l.take j := by unfold slideWin; rw [if_pos (by omega)]
      have w1 : slideWin l s (j + 1) = l.take (j + 1) := by
        unfold slideWin
        by_cases h : j + 1 < s
        · rw [if_pos h]
        · rw [if_neg h, if_pos (by omega), show (j + 1 - s) / 2 = 0 by omega, show s = j + 1 by omega]; simp
      have t1 : l.take (j + 1) = l.take j ++ [x] := by rw [List.take_add_one, hxl]; rfl
      rw [e0] at ih
      have a := ih.snoc (true, x) hxo (by rw [w0]; simp [fits]; omega) (by rw [w0, w1, t1]; simp [stepW])
      rw [e1]
      simp only [sOps, if_neg hsj, ← hxe]
      exact a
/-- How many of the first i windows are full. -/
def slideCnt (s i : Nat) : Nat := if i < s then 0 else (i - s) / 2 + 1
theorem slide_full {l : List Int} {s i : Nat} (hs : 1 ≤ s) (hi : i < slideLen s l.length) (h : (slideWin l s (i + 1)).length = s) :
    slideCnt s i < l.length + 1 - s ∧ slideWin l s (i + 1) = (l.drop (slideCnt s i)).take s ∧ slideCnt s (i + 1) = slideCnt s i + 1 := by
  rw [slideWin_len hs hi] at h
  by_cases h1 : i + 1 < s
  · rw [if_pos h1] at h; omega
  · rw [if_neg h1] at h
    by_cases h2 : (i + 1 - s) % 2 = 0
    · have hc : slideCnt s i = (i + 1 - s) / 2 := by unfold slideCnt; split <;> omega
      have hc1 : slideCnt s (i + 1) = (i + 1 - s) / 2 + 1 := by unfold slideCnt; rw [if_neg h1]
      refine ⟨?_, ?_, by omega⟩
      · rw [hc]
        unfold slideLen at hi
        split at hi <;> omega
      · rw [hc, slideWin, if_neg h1, if_pos h2]
    · rw [if_neg h2] at h; omega
theorem slide_part {l : List Int} {s i : Nat} (hs : 1 ≤ s) (hi : i < slideLen s l.length) (h : (slideWin l s (i + 1)).length ≠ s) : slideCnt s (i + 1) = slideCnt s i := by
  rw [slideWin_len hs hi] at h
  unfold slideCnt
  by_cases h1 : i + 1 < s
  · rw [if_pos h1, if_pos (by omega)]
  · rw [if_neg h1] at h
    by_cases h2 : (i + 1 - s) % 2 = 0
    · rw [if_pos h2] at h; omega
    · rw [if_neg h1, if_neg (by omega)]; omega
theorem slide_end (l : List Int) {s : Nat} (hs : 1 ≤ s) : slideCnt s (slideLen s l.length) = l.length + 1 - s := by
  unfold slideCnt slideLen
  by_cases h : l.length < s
  · rw [if_pos h, if_pos h]; omega
  · rw [if_neg h, if_neg (by omega)]; omega
theorem slide_ops {l : List Int} (hl : itemsOk l = true) {s : Nat} (hs : 1 ≤ s) (h59 : s ≤ 59) : opsOk (sOps l s l.length) = true ∧ (sOps l s l.length).length = slideLen s l.length := by
  obtain ⟨e1, e2, e3, -⟩ := slide_good hl hs h59 l.length (Nat.le_refl _)
  have hm := items_len hl
  have hb : slideLen s l.length ≤ 200 := by unfold slideLen; split <;> omega
  refine ⟨?_, e1⟩
  simp [opsOk, e1, e2, e3, hb]
end Agg
end Go.Proofs.Ythkokeeciicdnaa
