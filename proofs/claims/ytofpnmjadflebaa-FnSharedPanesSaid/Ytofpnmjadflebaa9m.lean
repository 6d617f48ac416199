/-
  Plain mathematics of shared windows: valid queries, cuts, and where a cut stands among them.
-/
import Derived.Test.Ytofpnmjadflebaa5a
import Derived.Test.Ytofpnmjadflebaa9b
namespace Go.Proofs.Ytofpnmjadflebaa.Agg
set_option linter.unusedSimpArgs false
set_option linter.unusedVariables false
def qryOk (q : Int × Int) : Bool := hopsOk q.1 q.2
theorem qryOk_parts {q : Int × Int} (h : qryOk q = true) : 1 ≤ q.1 ∧ q.1 ≤ 60 ∧ 1 ≤ q.2 ∧ q.2 ≤ 60 := by
  simp [qryOk, hopsOk] at h; omega
/-- The first i queries are valid and no two of them are equal. -/
def qrysTo (l : List (Int × Int)) : Nat → Bool
  | 0 => true
  | i + 1 => qrysTo l i && (qryOk (qryAt l i) && !(l.take i).contains (qryAt l i))
def qrysOk (l : List (Int × Int)) : Bool := decide (l.length ≤ 8) && qrysTo l l.length
theorem qrysTo_down {l : List (Int × Int)} {i : Nat} : ∀ {j : Nat}, i ≤ j → qrysTo l j = true → qrysTo l i = true
  | 0, h, e => by obtain rfl : i = 0 := by omega
                  exact e
  | j + 1, h, e => by
    by_cases hij : i = j + 1
    · subst hij; exact e
    · simp only [qrysTo, Bool.and_eq_true] at e
      exact qrysTo_down (by omega) e.1
theorem qrysOk_at {l : List (Int × Int)} (h : qrysOk l = true) {i : Nat} (hi : i < l.length) : qryOk (qryAt l i) = true := by
  simp only [qrysOk, Bool.and_eq_true, decide_eq_true_eq] at h
  have := qrysTo_down (i := i + 1) hi h.2
  simp only [qrysTo, Bool.and_eq_true] at this
  exact this.2.1
theorem qrysOk_len {l : List (Int × Int)} (h : qrysOk l = true) : l.length ≤ 8 := by
  simp only [qrysOk, Bool.and_eq_true, decide_eq_true_eq] at h
  exact h.1
theorem qrysOk_false {l : List (Int × Int)} {i : Nat} (hi : i ≤ l.length) (h : qrysTo l i = false) : qrysOk l = false := by
  cases e : qrysOk l
  · rfl
  · simp only [qrysOk, Bool.and_eq_true, decide_eq_true_eq] at e
    rw [qrysTo_down hi e.2] at h
    cases h
theorem qryAt_append {l m : List (Int × Int)} {i : Nat} (h : i < l.length) : qryAt (l ++ m) i = qryAt l i := by
  simp [qryAt, List.getElem?_append_left h]
theorem qryAt_last (l : List (Int × Int)) (q : Int × Int) : qryAt (l ++ [q]) l.length = q := by
  simp [qryAt]
theorem qrysTo_append {l m : List (Int × Int)} : ∀ {i : Nat}, i ≤ l.length → qrysTo (l ++ m) i = qrysTo l i
  | 0, _ => rfl
  | i + 1, h => by
    simp only [qrysTo]
    rw [qrysTo_append (by omega), qryAt_append (by omega), List.take_append_of_le_length (by omega)]
theorem qrysOk_mem {l : List (Int × Int)} (h : qrysOk l = true) {q : Int × Int} (hq : l.contains q = true) : qryOk q = true := by
  rw [List.contains_iff_mem] at hq
  obtain ⟨i, hi, rfl⟩ := List.getElem_of_mem hq
  have := qrysOk_at h hi
  simpa [qryAt, hi] using this
/-- What AddQuery answers. -/
def addQ (l : List (Int × Int)) (q : Int × Int) : List (Int × Int) := if l.contains q then l else l ++ [q]
def addOk (l : List (Int × Int)) (q : Int × Int) : Bool := qrysOk (addQ l q)
def addOut (l : List (Int × Int)) (q : Int × Int) : List (Int × Int) := if addOk l q then addQ l q else []
theorem add_snoc (l : List (Int × Int)) (q : Int × Int) (h : l.contains q = false) : qrysOk (l ++ [q]) = (decide (l.length + 1 ≤ 8) && (qrysTo l l.length && qryOk q)) := by
  simp only [qrysOk, List.length_append, List.length_singleton, qrysTo]
  rw [qrysTo_append (Nat.le_refl _), qryAt_last, List.take_left' rfl, h]
  simp
theorem add_bad {l : List (Int × Int)} {q : Int × Int} (h : qrysOk l = false) : addOk l q = false := by
  simp only [addOk, addQ]
  cases hc : l.contains q
  · rw [if_neg (by simp), add_snoc l q hc]
    simp only [qrysOk] at h
    cases h1 : qrysTo l l.length
    · simp
    · rw [h1, Bool.and_true, decide_eq_false_iff_not] at h
      have h2 : ¬ (l.length + 1 ≤ 8) := by omega
      simp [h2]
  · simpa using h
theorem add_badq {l : List (Int × Int)} {q : Int × Int} (h : qryOk q = false) : addOk l q = false := by
  simp only [addOk, addQ]
  cases hc : l.contains q
  · rw [if_neg (by simp), add_snoc l q hc, h]
    simp
  · rw [if_pos rfl]
    cases e : qrysOk l
    · rfl
    · rw [qrysOk_mem e hc] at h; cases h
theorem add_has {l : List (Int × Int)} {q : Int × Int} (h : qrysOk l = true) (hc : l.contains q = true) : addOk l q = true ∧ addOut l q = l := by
  have e : addQ l q = l := by rw [addQ, if_pos hc]
  have e2 : addOk l q = true := by rw [addOk, e]; exact h
  exact ⟨e2, by rw [addOut, e2, e]; rfl⟩
theorem add_new {l : List (Int × Int)} {q : Int × Int} (h : qrysOk l = true) (hq : qryOk q = true) (hc : l.contains q = false) : addOk l q = decide (l.length + 1 ≤ 8) ∧ addQ l q = l ++ [q] := by
  have e : addQ l q = l ++ [q] := by rw [addQ, hc]; rfl
  refine ⟨?_, e⟩
  simp only [qrysOk, Bool.and_eq_true, decide_eq_true_eq] at h
  rw [addOk, e, add_snoc l q hc, h.2, hq]
  simp
/-- The windows of a query. -/
def qS (q : Int × Int) : Nat := q.1.toNat
def qH (q : Int × Int) : Nat := q.2.toNat
def winsN (n : Nat) (q : Int × Int) : Nat := (hopN n q.1 q.2).toNat
theorem q_cast {q : Int × Int} (h : qryOk q = true) : (qS q : Int) = q.1 ∧ (qH q : Int) = q.2 ∧ 1 ≤ qS q ∧ qS q ≤ 60 ∧ 1 ≤ qH q ∧ qH q ≤ 60 := by
  have := qryOk_parts h
  simp only [qS, qH]
  omega
theorem wins_cast {n : Nat} {q : Int × Int} (h : qryOk q = true) (hn : n ≤ 60) : (winsN n q : Int) = hopN n q.1 q.2 ∧ winsN n q ≤ 60 := by
  have h1 : hopOk n q.1 q.2 = true := by
    simp only [hopOk, Bool.and_eq_true, decide_eq_true_eq]
    exact ⟨by omega, h⟩
  have := hopN_le h1
  simp only [winsN]
  omega
theorem wins_lt {n : Nat} {q : Int × Int} (h : qryOk q = true) (i : Nat) : i < winsN n q ↔ i * qH q + qS q ≤ n := by
  obtain ⟨h1, h2, h3, h4, h5, h6⟩ := q_cast h
  have e : winsN n q = if n < qS q then 0 else (n - qS q) / qH q + 1 := by
    simp only [winsN, hopN]
    by_cases hlt : n < qS q
    · have hl2 : (n : Int) < q.1 := by omega
      rw [if_pos hl2, if_pos hlt]; rfl
    · have hl2 : ¬ (n : Int) < q.1 := by omega
      rw [if_neg hl2, if_neg hlt, ← h1, ← h2]
      have : ((n : Int) - (qS q : Int)) = ((n - qS q : Nat) : Int) := by omega
      have e3 : ((n - qS q : Nat) : Int) / (qH q : Int) = (((n - qS q) / qH q : Nat) : Int) := (Int.natCast_ediv _ _).symm
      rw [this, e3]
      generalize (n - qS q) / qH q = d
      omega
  rw [e]
  by_cases hlt : n < qS q
  · rw [if_pos hlt]
    constructor
    · intro h; omega
    · intro h; have := Nat.le_trans (Nat.le_add_left _ _) h; omega
  · rw [if_neg hlt, Nat.lt_succ_iff, Nat.le_div_iff_mul_le (by omega)]
    omega
/-- Whether one of the first i windows of a query begins or ends at p. -/
def hits (q : Int × Int) (i : Nat) (p : Nat) : Bool := (List.range i).any fun a => a * qH q == p || a * qH q + qS q == p
/-- The same for all windows of the first j queries, and i ones of the next. -/
def cutTo (n : Nat) (l : List (Int × Int)) (j i : Nat) (p : Nat) : Bool := ((l.take j).any fun q => hits q (winsN n q) p) || hits (qryAt l j) i p
def cutSet (n : Nat) (l : List (Int × Int)) (p : Nat) : Bool := l.any fun q => hits q (winsN n q) p
theorem cutTo_zero (n : Nat) (l : List (Int × Int)) (p : Nat) : cutTo n l 0 0 p = false := by simp [cutTo, hits]
theorem hits_succ (q : Int × Int) (i p : Nat) : hits q (i + 1) p = (hits q i p || (i * qH q == p || i * qH q + qS q == p)) := by
  simp [hits, List.range_succ]
theorem cutTo_step (n : Nat) (l : List (Int × Int)) (j i p : Nat) : cutTo n l j (i + 1) p = (cutTo n l j i p || (i * qH (qryAt l j) == p || i * qH (qryAt l j) + qS (qryAt l j) == p)) := by
  rw [cutTo, hits_succ, cutTo, Bool.or_assoc]
theorem cutTo_next {n : Nat} {l : List (Int × Int)} {j : Nat} (h : j < l.length) (p : Nat) : cutTo n l j (winsN n (qryAt l j)) p = cutTo n l (j + 1) 0 p := by
  have e : l.take (j + 1) = l.take j ++ [qryAt l j] := by
    rw [List.take_succ_eq_append_getElem h]; simp [qryAt, h]
  rw [cutTo, cutTo, e]
  simp [hits]
theorem cutTo_all (n : Nat) (l : List (Int × Int)) (p : Nat) : cutTo n l l.length 0 p = cutSet n l p := by simp [cutTo, hits, cutSet]
theorem cutSet_high {n : Nat} {l : List (Int × Int)} (h : qrysOk l = true) {p : Nat} (hp : n < p) : cutSet n l p = false := by
  cases e : cutSet n l p
  · rfl
  · simp only [cutSet, hits, List.any_eq_true, List.mem_range, Bool.or_eq_true, beq_iff_eq] at e
    obtain ⟨q, hq, i, hi, e⟩ := e
    have hok := qrysOk_mem h (List.contains_iff_mem.2 hq)
    rw [wins_lt hok] at hi
    omega
/-- The places below p that are cuts. -/
def cutsTo (n : Nat) (l : List (Int × Int)) (p : Nat) : List Nat := (List.range p).filter (cutSet n l)
theorem cutsTo_succ (n : Nat) (l : List (Int × Int)) (p : Nat) : cutsTo n l (p + 1) = if cutSet n l p then cutsTo n l p ++ [p] else cutsTo n l p := by
  simp only [cutsTo, List.range_succ, List.filter_append, List.filter_cons, List.filter_nil]
  split <;> simp
theorem cutsTo_len (n : Nat) (l : List (Int × Int)) (p : Nat) : (cutsTo n l p).length ≤ p := by
  have := List.length_filter_le (cutSet n l) (List.range p)
  simpa [cutsTo] using this
theorem cutsTo_end {n : Nat} {l : List (Int × Int)} (h : qrysOk l = true) : ∀ d : Nat, cutsTo n l (n + 1 + d) = cutsTo n l (n + 1)
  | 0 => rfl
  | d + 1 => by
    rw [show n + 1 + (d + 1) = (n + 1 + d) + 1 by omega, cutsTo_succ, cutSet_high h (by omega)]
    simpa using cutsTo_end h d
/-- What CutsOf answers. -/
def cutsOk (n : Int) (l : List (Int × Int)) : Bool := qrysOk l && decide (0 ≤ n ∧ n ≤ 60)
def cutsN (n : Nat) (l : List (Int × Int)) : List Int := (cutsTo n l (n + 1)).map Int.ofNat
def cutsOut (n : Int) (l : List (Int × Int)) : List Int := if cutsOk n l then cutsN n.toNat l else []
theorem cutsN_len (n : Nat) (l : List (Int × Int)) : (cutsN n l).length ≤ n + 1 := by
  have := cutsTo_len n l (n + 1)
  simpa [cutsN] using this
/-- The place x stands at the index m of ascending cuts. -/
structure StandsAt (c : List Int) (x : Int) (m : Nat) : Prop where
  lt : m < c.length
  eq : c[m]?.getD 0 = x
  low : ∀ i, i < m → c[i]?.getD 0 < x
  high : ∀ i, m ≤ i → i < c.length → x ≤ c[i]?.getD 0
theorem cutsTo_mem {n : Nat} {l : List (Int × Int)} {p x : Nat} : x ∈ cutsTo n l p ↔ x < p ∧ cutSet n l x = true := by simp [cutsTo]
theorem cutsTo_stands {n : Nat} {l : List (Int × Int)} {x : Nat} (hx : cutSet n l x = true) : ∀ {p : Nat}, x < p → StandsAt ((cutsTo n l p).map Int.ofNat) x (cutsTo n l x).length
  | 0, h => by omega
  | p + 1, h => by
    by_cases hp : x < p
    · have ih := cutsTo_stands hx hp
      rw [cutsTo_succ]
      split
      · refine ⟨?_, ?_, ?_, ?_⟩
        · have := ih.lt; simp at this ⊢; omega
        · have := ih.eq
          rw [List.map_append, List.getElem?_append_left ih.lt]
          exact this
        · intro i hi
          have := ih.low i hi
          have hl := ih.lt
          rw [List.map_append, List.getElem?_append_left (by omega)]
          exact this
        · intro i h1 h2
          by_cases hi : i < ((cutsTo n l p).map Int.ofNat).length
          · have := ih.high i h1 hi
            rw [List.map_append, List.getElem?_append_left hi]
            exact this
          · have hie : i = (cutsTo n l p).length := by simp at hi h2; omega
            subst hie
            simp
            omega
      · exact ih
    · obtain rfl : x = p := by omega
      rw [cutsTo_succ, if_pos hx]
      refine ⟨by simp, by simp, ?_, ?_⟩
      · intro i hi
        have hm : (cutsTo n l x)[i] ∈ cutsTo n l x := List.getElem_mem hi
        have := (cutsTo_mem.1 hm).1
        rw [List.map_append, List.getElem?_append_left (by simpa using hi), List.getElem?_map, List.getElem?_eq_getElem hi]
        simp
        omega
      · intro i h1 h2
        have hie : i = (cutsTo n l x).length := by simp at h2; omega
        subst hie
        simp
theorem hits_cut {n : Nat} {l : List (Int × Int)} (h : qrysOk l = true) {j : Nat} (hj : j < l.length) {i : Nat} (hi : i < winsN n (qryAt l j)) :
    cutSet n l (i * qH (qryAt l j)) = true ∧ cutSet n l (i * qH (qryAt l j) + qS (qryAt l j)) = true := by
  have hm : qryAt l j ∈ l := by
    have e : qryAt l j = l[j] := by simp [qryAt, hj]
    rw [e]; exact List.getElem_mem hj
  simp only [cutSet, hits, List.any_eq_true, List.mem_range, Bool.or_eq_true, beq_iff_eq]
  exact ⟨⟨_, hm, i, hi, .inl rfl⟩, ⟨_, hm, i, hi, .inr rfl⟩⟩
/-- The index of a place among the cuts. -/
def cutIx (n : Nat) (l : List (Int × Int)) (x : Nat) : Nat := (cutsTo n l x).length
theorem cut_stands {n : Nat} {l : List (Int × Int)} {x : Nat} (hx : cutSet n l x = true) (hn : x ≤ n) : StandsAt (cutsN n l) x (cutIx n l x) := cutsTo_stands hx (by omega)
/-- The combinations of all windows of the first j queries, and of i ones of the next: alone, and from slices. -/
def aloneTo (n : Nat) (l : List (Int × Int)) : Nat → Nat → Int
  | 0, i => i * (qryAt l 0).1
  | j + 1, i => aloneTo n l j (winsN n (qryAt l j)) + i * (qryAt l (j + 1)).1
def sliceSum (n : Nat) (l : List (Int × Int)) (q : Int × Int) : Nat → Int
  | 0 => 0
  | i + 1 => sliceSum n l q i + ((cutIx n l (i * qH q + qS q) : Int) - (cutIx n l (i * qH q) : Int))
def sharedTo (n : Nat) (l : List (Int × Int)) : Nat → Nat → Int
  | 0, i => sliceSum n l (qryAt l 0) i
  | j + 1, i => sharedTo n l j (winsN n (qryAt l j)) + sliceSum n l (qryAt l (j + 1)) i
theorem aloneTo_next (n : Nat) (l : List (Int × Int)) (j : Nat) : aloneTo n l (j + 1) 0 = aloneTo n l j (winsN n (qryAt l j)) := by simp [aloneTo]
theorem aloneTo_step (n : Nat) (l : List (Int × Int)) (j i : Nat) : aloneTo n l j (i + 1) = aloneTo n l j i + (qryAt l j).1 := by
  cases j <;> simp [aloneTo, Int.add_mul] <;> omega
theorem sharedTo_next (n : Nat) (l : List (Int × Int)) (j : Nat) : sharedTo n l (j + 1) 0 = sharedTo n l j (winsN n (qryAt l j)) := by simp [sharedTo, sliceSum]
theorem sharedTo_step (n : Nat) (l : List (Int × Int)) (j i : Nat) : sharedTo n l j (i + 1) = sharedTo n l j i + ((cutIx n l (i * qH (qryAt l j) + qS (qryAt l j)) : Int) - (cutIx n l (i * qH (qryAt l j)) : Int)) := by
  cases j <;> simp [sharedTo, sliceSum] <;> omega
def cutsSpan (c : List Int) : Int := if c.length = 0 then 0 else c[c.length - 1]?.getD 0 - c[0]?.getD 0
def sharedA (n : Int) (l : List (Int × Int)) : Int × Int := if cutsOk n l then (aloneTo n.toNat l l.length 0, cutsSpan (cutsN n.toNat l) + sharedTo n.toNat l l.length 0) else (0, 0)
end Go.Proofs.Ytofpnmjadflebaa.Agg
