/-
  Plain mathematics of the costs of shared windows: bounds, and no cuts at all.
-/
import Derived.Test.Ytofpnmjadflebaa9m
namespace Go.Proofs.Ytofpnmjadflebaa.Agg
set_option linter.unusedSimpArgs false
set_option linter.unusedVariables false
theorem qry_size {l : List (Int × Int)} (h : qrysOk l = true) (j : Nat) : 0 ≤ (qryAt l j).1 ∧ (qryAt l j).1 ≤ 60 := by
  by_cases hj : j < l.length
  · have := qryOk_parts (qrysOk_at h hj); omega
  · have e : qryAt l j = (0, 0) := by simp [qryAt, List.getElem?_eq_none (Nat.le_of_not_lt hj)]
    rw [e]; simp
theorem qry_wins {n : Nat} {l : List (Int × Int)} (h : qrysOk l = true) (hn : n ≤ 60) {j : Nat} (hj : j < l.length) : winsN n (qryAt l j) ≤ 60 := (wins_cast (qrysOk_at h hj) hn).2
theorem mul_bound (i : Nat) {x : Int} (h0 : 0 ≤ x) (h1 : x ≤ 60) : 0 ≤ (i : Int) * x ∧ (i : Int) * x ≤ (i : Int) * 60 :=
  ⟨Int.mul_nonneg (Int.natCast_nonneg i) h0, Int.mul_le_mul_of_nonneg_left h1 (Int.natCast_nonneg i)⟩
theorem alone_bound {n : Nat} {l : List (Int × Int)} (h : qrysOk l = true) (hn : n ≤ 60) : ∀ j, j ≤ l.length → ∀ i : Nat, 0 ≤ aloneTo n l j i ∧ aloneTo n l j i ≤ 3600 * j + i * 60
  | 0, _, i => by
    have := mul_bound i (qry_size h 0).1 (qry_size h 0).2
    simp only [aloneTo]
    omega
  | j + 1, hj, i => by
    have ih := alone_bound h hn j (by omega) (winsN n (qryAt l j))
    have hw := qry_wins h hn (j := j) (by omega)
    have := mul_bound i (qry_size h (j + 1)).1 (qry_size h (j + 1)).2
    simp only [aloneTo]
    omega
theorem cutIx_le (n : Nat) (l : List (Int × Int)) (x : Nat) : cutIx n l x ≤ x := cutsTo_len n l x
theorem slice_bound (n : Nat) (l : List (Int × Int)) (q : Int × Int) (hb : ∀ i, i < winsN n q → i * qH q + qS q ≤ 60) : ∀ i, i ≤ winsN n q → -(60 * i : Int) ≤ sliceSum n l q i ∧ sliceSum n l q i ≤ 60 * i
  | 0, _ => by simp [sliceSum]
  | i + 1, hi => by
    have ih := slice_bound n l q hb i (by omega)
    have h1 := hb i (by omega)
    have h2 := cutIx_le n l (i * qH q + qS q)
    have h3 := cutIx_le n l (i * qH q)
    simp only [sliceSum]
    omega
theorem shared_bound {n : Nat} {l : List (Int × Int)} (h : qrysOk l = true) (hn : n ≤ 60) : ∀ j, j ≤ l.length → ∀ i : Nat, (j < l.length ∧ i ≤ winsN n (qryAt l j) ∨ i = 0) → -(3600 * j + i * 60 : Int) ≤ sharedTo n l j i ∧ sharedTo n l j i ≤ 3600 * j + i * 60
  | 0, _, i, hi => by
    simp only [sharedTo]
    rcases hi with ⟨h0, hi⟩ | rfl
    · have hq := qrysOk_at h h0
      have := slice_bound n l (qryAt l 0) (fun t ht => by have := (wins_lt hq t).1 ht; omega) i hi
      omega
    · simp [sliceSum]
  | j + 1, hj, i, hi => by
    have hw := qry_wins h hn (j := j) (by omega)
    have ih := shared_bound h hn j (by omega) (winsN n (qryAt l j)) (.inl ⟨by omega, Nat.le_refl _⟩)
    simp only [sharedTo]
    rcases hi with ⟨h0, hi⟩ | rfl
    · have hq := qrysOk_at h h0
      have := slice_bound n l (qryAt l (j + 1)) (fun t ht => by have := (wins_lt hq t).1 ht; omega) i hi
      omega
    · simp only [sliceSum]
      omega
theorem no_wins {n : Nat} {l : List (Int × Int)} (h : qrysOk l = true) (h0 : (cutsN n l).length = 0) {j : Nat} (hj : j < l.length) : winsN n (qryAt l j) = 0 := by
  rcases Nat.eq_zero_or_pos (winsN n (qryAt l j)) with e | e
  · exact e
  · have hc := (hits_cut h hj e).1
    rw [Nat.zero_mul] at hc
    have hm : 0 ∈ cutsTo n l (n + 1) := cutsTo_mem.2 ⟨by omega, hc⟩
    have hl : (cutsTo n l (n + 1)).length = 0 := by simpa [cutsN] using h0
    rw [List.length_eq_zero_iff.1 hl] at hm
    simp at hm
theorem no_costs {n : Nat} {l : List (Int × Int)} (h : qrysOk l = true) (h0 : (cutsN n l).length = 0) : ∀ j, j ≤ l.length → aloneTo n l j 0 = 0 ∧ sharedTo n l j 0 = 0
  | 0, _ => by simp [aloneTo, sharedTo, sliceSum]
  | j + 1, hj => by
    rw [aloneTo_next, sharedTo_next, no_wins h h0 (show j < l.length by omega)]
    exact no_costs h h0 j (by omega)
theorem cutsN_items {n : Nat} {l : List (Int × Int)} (i : Nat) (hi : i < (cutsN n l).length) : 0 ≤ (cutsN n l)[i]?.getD 0 ∧ (cutsN n l)[i]?.getD 0 ≤ n := by
  have hl : i < (cutsTo n l (n + 1)).length := by simpa [cutsN] using hi
  have hm := (cutsTo_mem.1 (List.getElem_mem hl)).1
  have e : (cutsN n l)[i]?.getD 0 = ((cutsTo n l (n + 1))[i] : Int) := by
    simp [cutsN, List.getElem?_map, List.getElem?_eq_getElem hl]
  rw [e]
  omega
end Go.Proofs.Ytofpnmjadflebaa.Agg
