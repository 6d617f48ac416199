/-
  Plain mathematics of queues with four places: the row of each aggregate, valid queues, their changes, their aggregate.
-/
import Derived.Test.YthkokeeciicdnaaMa
set_option linter.unusedSimpArgs false
set_option linter.unusedVariables false
namespace Go.Proofs.Ythkokeeciicdnaa.Agg

/-- A queue. -/
structure Q where
  items : List Int
  aggs : List V
  l : Int
  r : Int
  a : Int
  b : Int
  cost : Int
theorem Q.ext' {p q : Q} (h1 : p.items = q.items) (h2 : p.aggs = q.aggs) (h3 : p.l = q.l) (h4 : p.r = q.r) (h5 : p.a = q.a) (h6 : p.b = q.b) (h7 : p.cost = q.cost) : p = q := by
  cases p; cases q; simp_all
def zeroQ : Q := ⟨[], [], 0, 0, 0, 0, 0⟩
/-- The places of a queue with e items are in order. -/
def placesOk (e l r a b : Int) : Bool :=
  if e = 0 then decide (l = 0 ∧ r = 0 ∧ a = 0 ∧ b = 0)
  else decide (0 ≤ l ∧ l ≤ r ∧ r ≤ a ∧ a ≤ b ∧ 1 ≤ b ∧ b ≤ e ∧ l = e - b + 1 ∧ r - l = a - r)
/-- Where the row of an aggregate begins and ends. -/
def rowLo (l r a b i : Int) : Int := if i < l then i else if i < r then i else if i < a then r else if i < b then i else b
def rowHi (l r a b i : Int) : Int := if i < l then b else if i < r then r else if i < a then i + 1 else if i < b then b else i + 1
def part (l : List Int) (i j : Int) : List Int := (l.drop i.toNat).take (j - i).toNat
def rowAgg (k : Int) (items : List Int) (l r a b : Int) (i : Nat) : V := fold k (part items (rowLo l r a b i) (rowHi l r a b i))
def wantAggs (k : Int) (items : List Int) (l r a b : Int) : List V := (List.range items.length).map (rowAgg k items l r a b)
/-- Queues that are valid. -/
def qOk (k : Int) (q : Q) : Bool :=
  isKind k && itemsOk q.items && decide (q.aggs.length = q.items.length) && placesOk q.items.length q.l q.r q.a q.b && decide (0 ≤ q.cost ∧ q.cost ≤ 1000000) && decide (q.aggs = wantAggs k q.items q.l q.r q.a q.b)

theorem places_of {e l r a b : Int} (h : placesOk e l r a b = true) (he : 0 < e) : 0 ≤ l ∧ l ≤ r ∧ r ≤ a ∧ a ≤ b ∧ 1 ≤ b ∧ b ≤ e ∧ l = e - b + 1 ∧ r - l = a - r := by
  unfold placesOk at h
  rw [if_neg (by omega)] at h
  simpa using h
theorem row_in {e l r a b : Int} (h : placesOk e l r a b = true) {i : Int} (h0 : 0 ≤ i) (h1 : i < e) : 0 ≤ rowLo l r a b i ∧ rowLo l r a b i ≤ rowHi l r a b i ∧ rowHi l r a b i ≤ e := by
  obtain ⟨p1, p2, p3, p4, p5, p6, p7, p8⟩ := places_of h (by omega)
  unfold rowLo rowHi
  repeat' split
  all_goals omega
/-- The model's rows: another order of cases. -/
theorem row_model {e l r a b : Int} (h : placesOk e l r a b = true) {i : Int} (h0 : 0 ≤ i) (h1 : i < e) :
    rowLo l r a b i = (if b ≤ i then b else if l ≤ i ∧ i < r then i else if r ≤ i ∧ i < a then r else i) ∧
    rowHi l r a b i = (if b ≤ i then i + 1 else if l ≤ i ∧ i < r then r else if r ≤ i ∧ i < a then i + 1 else b) := by
  obtain ⟨p1, p2, p3, p4, p5, p6, p7, p8⟩ := places_of h (by omega)
  unfold rowLo rowHi
  constructor <;> (repeat' split) <;> omega
theorem part_items {l : List Int} (h : itemsOk l = true) (i j : Int) : itemsOk (part l i j) = true := items_take (items_drop h _) _
theorem part_length {l : List Int} {i j : Int} (h0 : 0 ≤ i) (h1 : i ≤ j) (h2 : j ≤ l.length) : (part l i j).length = (j - i).toNat := by
  unfold part; simp; omega
theorem want_length (k : Int) (items : List Int) (l r a b : Int) : (wantAggs k items l r a b).length = items.length := by simp [wantAggs]
theorem want_at (k : Int) (items : List Int) (l r a b : Int) {i : Nat} (h : i < items.length) : (wantAggs k items l r a b)[i]?.getD zero = rowAgg k items l r a b i := by simp [wantAggs, h]
theorem aggs_want {k : Int} {items : List Int} {aggs : List V} {l r a b : Int} (hl : aggs.length = items.length) (h : ∀ i, i < items.length → aggs[i]?.getD zero = rowAgg k items l r a b i) : aggs = wantAggs k items l r a b := by
  apply List.ext_getElem
  · rw [hl, want_length]
  · intro i h1 h2
    have := h i (by omega)
    rw [← want_at k items l r a b (by omega)] at this
    simpa [h1, h2] using this
theorem qOk_parts {k : Int} {q : Q} (h : qOk k q = true) : isKind k = true ∧ itemsOk q.items = true ∧ q.aggs.length = q.items.length ∧ placesOk q.items.length q.l q.r q.a q.b = true ∧ (0 ≤ q.cost ∧ q.cost ≤ 1000000) ∧ q.aggs = wantAggs k q.items q.l q.r q.a q.b := by
  simp only [qOk, Bool.and_eq_true, decide_eq_true_eq] at h
  obtain ⟨⟨⟨⟨⟨h1, h2⟩, h3⟩, h4⟩, h5⟩, h6⟩ := h
  exact ⟨h1, h2, h3, h4, h5, h6⟩
theorem qOk_of {k : Int} {q : Q} (h1 : isKind k = true) (h2 : itemsOk q.items = true) (h3 : q.aggs.length = q.items.length) (h4 : placesOk q.items.length q.l q.r q.a q.b = true) (h5 : 0 ≤ q.cost ∧ q.cost ≤ 1000000) (h6 : q.aggs = wantAggs k q.items q.l q.r q.a q.b) : qOk k q = true := by
  simp only [qOk, Bool.and_eq_true, decide_eq_true_eq]
  exact ⟨⟨⟨⟨⟨h1, h2⟩, h3⟩, h4⟩, h5⟩, h6⟩
theorem qOk_kind {k : Int} {q : Q} (h : isKind k = false) : qOk k q = false := by simp [qOk, h]
theorem qOk_items {k : Int} {q : Q} (h : itemsOk q.items = false) : qOk k q = false := by simp [qOk, h]
theorem qOk_len {k : Int} {q : Q} (h : ¬ q.aggs.length = q.items.length) : qOk k q = false := by simp [qOk, h]
theorem qOk_places {k : Int} {q : Q} (h : placesOk q.items.length q.l q.r q.a q.b = false) : qOk k q = false := by simp [qOk, h]
theorem qOk_cost {k : Int} {q : Q} (h : (decide (0 ≤ q.cost) && decide (q.cost ≤ 1000000)) = false) : qOk k q = false := by
  have : decide (0 ≤ q.cost ∧ q.cost ≤ 1000000) = false := by rw [Bool.decide_and]; exact h
  simp [qOk, this]
theorem qOk_at {k : Int} {q : Q} {i : Nat} (hi : i < q.items.length) (h : q.aggs[i]?.getD zero ≠ rowAgg k q.items q.l q.r q.a q.b i) : qOk k q = false := by
  rw [Bool.eq_false_iff]
  intro hq
  obtain ⟨-, -, -, -, -, h6⟩ := qOk_parts hq
  apply h
  rw [h6, want_at _ _ _ _ _ _ hi]
theorem agg_ok {k : Int} {q : Q} (h : qOk k q = true) (i : Nat) : i < q.items.length → ok k (q.aggs[i]?.getD zero) = true := by
  intro hi
  obtain ⟨h1, h2, -, -, -, h6⟩ := qOk_parts h
  rw [h6, want_at _ _ _ _ _ _ hi]
  exact ok_fold_all h1 (part_items h2 _ _)

/-! Changes. -/
/-- The aggregate at a place, or that of no items. -/
def qAt (k : Int) (aggs : List V) (at_ lo hi : Int) : V := if lo = hi then unit k else aggs[at_.toNat]?.getD zero
def shrinkQ (k : Int) (q : Q) : Q :=
  let last := qAt k q.aggs q.a q.a q.b
  let mid := qAt k q.aggs (q.a - 1) q.r q.a
  ⟨q.items, (q.aggs.set q.l.toNat (comb k (comb k (q.aggs[q.l.toNat]?.getD zero) mid) last)).set (q.a - 1).toNat (comb k (lift k (q.items[(q.a - 1).toNat]?.getD 0)) last), q.l + 1, q.r, q.a - 1, q.b, q.cost + 3⟩
def moveQ (k : Int) (q : Q) : Q := if q.l = q.r then ⟨q.items, q.aggs, q.l + 1, q.r + 1, q.a + 1, q.b, q.cost⟩ else shrinkQ k q
def fixQ (k : Int) (q : Q) : Q :=
  if q.b = 0 then ⟨q.items, q.aggs, q.items.length, q.items.length, q.items.length, q.items.length, q.cost⟩
  else moveQ k (if q.l = q.b then ⟨q.items, q.aggs, 0, q.b, q.items.length, q.items.length, q.cost⟩ else q)
def backQ (k : Int) (q : Q) : V := qAt k q.aggs ((q.items.length : Int) - 1) q.b q.items.length
def frontQ (k : Int) (q : Q) : V := qAt k q.aggs 0 0 q.b
def pushQ (k : Int) (q : Q) (x : Int) : Q := ⟨q.items ++ [x], q.aggs ++ [comb k (backQ k q) (lift k x)], q.l, q.r, q.a, q.b, q.cost + 1⟩
def popQ (q : Q) : Q := ⟨q.items.tail, q.aggs.tail, q.l - 1, q.r - 1, q.a - 1, q.b - 1, q.cost⟩
def stepQ (k : Int) (q : Q) (o : Bool × Int) : Q := fixQ k (if o.1 then pushQ k q o.2 else popQ q)
def stepOkQ (k : Int) (q : Q) (o : Bool × Int) : Bool := qOk k q && decide (q.cost ≤ 900000) && can o q.items.length
def aStepQ (k : Int) (q : Q) (o : Bool × Int) : Q := if stepOkQ k q o then stepQ k q o else zeroQ
def valQ (k : Int) (q : Q) : V := comb k (frontQ k q) (backQ k q)
def aValQ (k : Int) (q : Q) : V × Bool := give (qOk k q) (valQ k q)
theorem front_ok {k : Int} {q : Q} (h : qOk k q = true) : ok k (frontQ k q) = true := by
  obtain ⟨h1, h2, h3, h4, -, -⟩ := qOk_parts h
  unfold frontQ qAt
  split
  · exact ok_unit h1
  · rename_i hb
    refine agg_ok h _ ?_
    by_cases he : (q.items.length : Int) = 0
    · unfold placesOk at h4
      rw [if_pos he] at h4
      simp only [decide_eq_true_eq] at h4
      omega
    · simp; omega
theorem back_ok {k : Int} {q : Q} (h : qOk k q = true) : ok k (backQ k q) = true := by
  obtain ⟨h1, h2, h3, h4, -, -⟩ := qOk_parts h
  unfold backQ qAt
  split
  · exact ok_unit h1
  · rename_i hb
    refine agg_ok h _ ?_
    by_cases he : (q.items.length : Int) = 0
    · unfold placesOk at h4
      rw [if_pos he] at h4
      simp only [decide_eq_true_eq] at h4
      omega
    · omega
end Go.Proofs.Ythkokeeciicdnaa.Agg
