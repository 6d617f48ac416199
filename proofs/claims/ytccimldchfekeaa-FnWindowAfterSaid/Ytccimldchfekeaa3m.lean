/-
  Plain mathematics of two stacks: valid ones, their changes, their aggregate; what they stand for after changes; what the changes cost.
-/
import Derived.Test.Ytccimldchfekeaa2w
set_option linter.unusedSimpArgs false
set_option linter.unusedVariables false
namespace Go.Proofs.Ytccimldchfekeaa.Agg

/-- Two stacks. -/
structure S where
  front : List V
  items : List Int
  back : V
  flips : Int
  cost : Int
theorem S.ext' {a b : S} (h1 : a.front = b.front) (h2 : a.items = b.items) (h3 : a.back = b.back) (h4 : a.flips = b.flips) (h5 : a.cost = b.cost) : a = b := by
  cases a; cases b; simp_all
def zeroS : S := ⟨[], [], zero, 0, 0⟩
def startS (k : Int) : S := ⟨[], [], unit k, 0, 0⟩
def S.size (s : S) : Nat := s.front.length + s.items.length
/-- Stacks that are valid. -/
def sOk (k : Int) (s : S) : Bool :=
  isKind k && decide (0 ≤ s.flips ∧ s.flips ≤ 1000000) && decide (0 ≤ s.cost ∧ s.cost ≤ 1000000) && decide (s.size ≤ 60) && s.front.all (ok k) && itemsOk s.items && decide (s.back = fold k s.items)
/-- The aggregate of the last j items. -/
def sufAt (k : Int) (l : List Int) (j : Nat) : V := fold k (l.drop (l.length - j))
def sufs (k : Int) (l : List Int) (n : Nat) : List V := (List.range n).map fun i => sufAt k l (i + 1)
def flipS (k : Int) (s : S) : S := ⟨sufs k s.items s.items.length, [], unit k, s.flips + 1, s.cost + s.items.length⟩
def pushS (k : Int) (s : S) (x : Int) : S := ⟨s.front, s.items ++ [x], comb k s.back (lift k x), s.flips, s.cost + 1⟩
def readyS (k : Int) (s : S) : S := if s.front.length = 0 then flipS k s else s
def popS (s : S) : S := ⟨s.front.take (s.front.length - 1), s.items, s.back, s.flips, s.cost⟩
def stepS (k : Int) (s : S) (o : Bool × Int) : S := if o.1 then pushS k s o.2 else popS (readyS k s)
def stepOk (k : Int) (s : S) (o : Bool × Int) : Bool := sOk k s && decide (s.flips ≤ 900000) && decide (s.cost ≤ 900000) && can o s.size
def aStep (k : Int) (s : S) (o : Bool × Int) : S := if stepOk k s o then stepS k s o else zeroS
def valS (k : Int) (s : S) : V := if s.front.length = 0 then s.back else comb k (s.front[s.front.length - 1]?.getD zero) s.back
def aValS (k : Int) (s : S) : V × Bool := give (sOk k s && ok k (valS k s)) (valS k s)
/-- The stacks after j changes. -/
def stAt (k : Int) (l : List (Bool × Int)) : Nat → S
  | 0 => startS k
  | j + 1 => stepS k (stAt k l j) (opAt l j)

theorem sufs_length (k : Int) (l : List Int) (n : Nat) : (sufs k l n).length = n := by simp [sufs]
theorem suf_zero (k : Int) (l : List Int) : sufAt k l 0 = unit k := by simp [sufAt, fold_nil]
theorem suf_step {k : Int} {l : List Int} (hk : isKind k = true) (h : itemsOk l = true) {j : Nat} (hj : j < l.length) :
    comb k (lift k (l[l.length - 1 - j]?.getD 0)) (sufAt k l j) = sufAt k l (j + 1) := by
  have e : l.drop (l.length - (j + 1)) = [l[l.length - 1 - j]?.getD 0] ++ l.drop (l.length - j) := by
    rw [List.drop_eq_getElem_cons (by omega)]
    have e1 : l.length - (j + 1) + 1 = l.length - j := by omega
    have e2 : l.length - (j + 1) = l.length - 1 - j := by omega
    rw [e1]
    simp [show l.length - 1 - j < l.length by omega, e2]
  have hx := item_at h (i := l.length - 1 - j) (by omega)
  unfold sufAt
  rw [e, fold_append hk _ _ (by rw [← e]; exact items_drop h _), fold_one hk hx]
theorem ok_suf {k : Int} {l : List Int} (hk : isKind k = true) (h : itemsOk l = true) (j : Nat) : ok k (sufAt k l j) = true :=
  ok_fold_all hk (items_drop h _)
theorem sufs_snoc (k : Int) (l : List Int) (j : Nat) : sufs k l (j + 1) = sufs k l j ++ [sufAt k l (j + 1)] := by simp [sufs, List.range_succ]
theorem suf_all (k : Int) (l : List Int) : sufAt k l l.length = fold k l := by simp [sufAt]
theorem suf_tail (k : Int) (l : List Int) (j : Nat) (h : j < l.length) : sufAt k l.tail j = sufAt k l j := by
  unfold sufAt
  congr 1
  rw [← List.drop_one, List.drop_drop, List.length_drop]
  congr 1
  omega
theorem sufs_tail (k : Int) (l : List Int) : (sufs k l l.length).take ((sufs k l l.length).length - 1) = sufs k l.tail l.tail.length := by
  rw [sufs_length, List.length_tail]
  cases h : l.length - 1 with
  | zero => simp [sufs]
  | succ m =>
    rw [← h]
    unfold sufs
    rw [← List.map_take, List.take_range]
    rw [Nat.min_eq_left (by omega)]
    apply List.map_congr_left
    intro i hi
    have := List.mem_range.1 hi
    exact (suf_tail k l (i + 1) (by omega)).symm

/-- The stacks stand for this window. -/
def Stands (k : Int) (w : List Int) (s : S) : Prop := ∃ f, w = f ++ s.items ∧ s.front = sufs k f f.length ∧ s.back = fold k s.items
theorem Stands.start (k : Int) : Stands k [] (startS k) := ⟨[], rfl, rfl, rfl⟩
theorem Stands.size {k : Int} {w : List Int} {s : S} (h : Stands k w s) : s.size = w.length := by
  obtain ⟨f, rfl, hf, -⟩ := h
  simp [S.size, hf, sufs_length]
theorem Stands.step {k : Int} {w : List Int} {s : S} {o : Bool × Int} (hk : isKind k = true) (h : Stands k w s) (hf : fits w o = true) : Stands k (stepW w o) (stepS k s o) := by
  obtain ⟨p, x⟩ := o
  obtain ⟨f, hw, hfr, hb⟩ := h
  cases p
  · simp only [fits, Bool.false_eq_true, if_false, decide_eq_true_eq] at hf
    simp only [stepW, stepS, Bool.false_eq_true, if_false, readyS]
    by_cases h0 : s.front.length = 0
    · rw [if_pos h0]
      have hf0 : f = [] := List.eq_nil_of_length_eq_zero (by rw [hfr, sufs_length] at h0; exact h0)
      subst hf0
      simp only [List.nil_append] at hw
      refine ⟨s.items.tail, ?_, ?_, rfl⟩
      · simp [popS, flipS, hw]
      · simp only [popS, flipS]
        exact sufs_tail k s.items
    · rw [if_neg h0]
      rw [hfr, sufs_length] at h0
      refine ⟨f.tail, ?_, ?_, hb⟩
      · rw [hw]
        cases f with
        | nil => simp at h0
        | cons y f => simp [popS]
      · simp only [popS]
        rw [hfr]
        exact sufs_tail k f
  · simp only [stepW, stepS, if_true, pushS]
    exact ⟨f, by rw [hw, List.append_assoc], hfr, by rw [hb, fold_snoc]⟩
theorem Stands.value {k : Int} {w : List Int} {s : S} (hk : isKind k = true) (hi : itemsOk w = true) (h : Stands k w s) : valS k s = fold k w := by
  obtain ⟨f, rfl, hfr, hb⟩ := h
  unfold valS
  by_cases h0 : s.front.length = 0
  · rw [if_pos h0]
    have hf0 : f = [] := List.eq_nil_of_length_eq_zero (by rw [hfr, sufs_length] at h0; exact h0)
    subst hf0
    simpa using hb
  · rw [if_neg h0]
    rw [hfr, sufs_length] at h0
    have e : s.front[s.front.length - 1]?.getD zero = fold k f := by
      rw [hfr, sufs_length]
      have : f.length - 1 + 1 = f.length := by omega
      simp [sufs, show f.length - 1 < f.length by omega, this, suf_all]
    rw [e, hb, fold_append hk f s.items hi]
theorem itemsOk_left {a b : List Int} (h : itemsOk (a ++ b) = true) : itemsOk a = true := by
  have := items_take h a.length
  simpa using this
theorem itemsOk_right {a b : List Int} (h : itemsOk (a ++ b) = true) : itemsOk b = true := by
  have := items_drop h a.length
  simpa using this
theorem Stands.valid {k : Int} {w : List Int} {s : S} (hk : isKind k = true) (hi : itemsOk w = true) (h : Stands k w s) (h0 : 0 ≤ s.flips) (h1 : s.flips ≤ 1000000) (h2 : 0 ≤ s.cost) (h3 : s.cost ≤ 1000000) : sOk k s = true := by
  have hs := h.size
  obtain ⟨f, rfl, hfr, hb⟩ := h
  have hl := items_len hi
  have hf := itemsOk_left hi
  simp only [sOk, Bool.and_eq_true, decide_eq_true_eq]
  refine ⟨⟨⟨⟨⟨⟨hk, h0, h1⟩, h2, h3⟩, by omega⟩, ?_⟩, itemsOk_right hi⟩, hb⟩
  rw [List.all_eq_true]
  intro v hv
  rw [hfr] at hv
  simp only [sufs, List.mem_map] at hv
  obtain ⟨i, -, rfl⟩ := hv
  exact ok_suf hk hf _

/-- How many of the first j changes push. -/
def pushes (l : List (Bool × Int)) : Nat → Nat
  | 0 => 0
  | j + 1 => pushes l j + (if (opAt l j).1 then 1 else 0)
theorem pushes_le (l : List (Bool × Int)) : ∀ j, pushes l j ≤ j
  | 0 => Nat.le_refl _
  | j + 1 => by have := pushes_le l j; simp only [pushes]; split <;> omega
theorem cost_step {k : Int} {s : S} {o : Bool × Int} {j p : Nat} (h0 : 0 ≤ s.flips) (h1 : s.flips + p ≤ j) (h2 : p ≤ s.cost) (h3 : s.cost + s.items.length ≤ 2 * p) :
    0 ≤ (stepS k s o).flips ∧ (stepS k s o).flips + (p + (if o.1 then 1 else 0) : Nat) ≤ (j + 1 : Nat) ∧ ((p + (if o.1 then 1 else 0) : Nat) : Int) ≤ (stepS k s o).cost ∧ (stepS k s o).cost + (stepS k s o).items.length ≤ 2 * (p + (if o.1 then 1 else 0) : Nat) := by
  obtain ⟨q, x⟩ := o
  cases q
  · simp only [stepS, Bool.false_eq_true, if_false, readyS, popS]
    split
    · simp [flipS]; omega
    · simp; omega
  · simp only [stepS, if_true, pushS]
    simp
    omega
theorem cost_at (k : Int) (l : List (Bool × Int)) : ∀ j, 0 ≤ (stAt k l j).flips ∧ (stAt k l j).flips + (pushes l j : Nat) ≤ (j : Nat) ∧ ((pushes l j : Nat) : Int) ≤ (stAt k l j).cost ∧ (stAt k l j).cost + (stAt k l j).items.length ≤ 2 * (pushes l j : Nat)
  | 0 => by simp [stAt, startS, pushes]
  | j + 1 => by
    obtain ⟨h0, h1, h2, h3⟩ := cost_at k l j
    exact cost_step h0 h1 h2 h3
theorem stands_at {k : Int} {l : List (Bool × Int)} (hk : isKind k = true) : ∀ j, fitTo l j = true → Stands k (winAt l j) (stAt k l j)
  | 0, _ => Stands.start k
  | j + 1, h => by
    simp only [fitTo, Bool.and_eq_true] at h
    exact (stands_at hk j h.1).step hk h.2
theorem items_at {l : List (Bool × Int)} {j : Nat} (ha : allOk l j = true) (hf : fitTo l j = true) : itemsOk (winAt l j) = true :=
  items_of (win_len j hf) (win_items j ha)
theorem can_of {w : List Int} {o : Bool × Int} {n : Nat} (ho : opOk o = true) (hf : fits w o = true) (hn : n = w.length) : can o (n : Int) = true := by
  subst hn
  obtain ⟨p, x⟩ := o
  cases p
  · simp only [fits, Bool.false_eq_true, if_false, decide_eq_true_eq] at hf
    simp [can, ho]; omega
  · simp only [fits, if_true, decide_eq_true_eq] at hf
    simp [can, ho]; omega
/-- Each step of a run can be made, and has an aggregate. -/
theorem run_step {k : Int} {l : List (Bool × Int)} (hk : isKind k = true) {n j : Nat} (hn : n ≤ 200) (ha : allOk l n = true) (hf : fitTo l n = true) (hj : j < n) :
    stepOk k (stAt k l j) (opAt l j) = true ∧ sOk k (stAt k l (j + 1)) = true ∧ valS k (stAt k l (j + 1)) = fold k (winAt l (j + 1)) ∧ ok k (valS k (stAt k l (j + 1))) = true := by
  have fj := fitTo_down (i := j) (by omega) hf
  have aj := allOk_down (i := j) (by omega) ha
  have fj1 := fitTo_down (i := j + 1) (by omega) hf
  have aj1 := allOk_down (i := j + 1) (by omega) ha
  have sj := stands_at hk j fj
  have sj1 := stands_at hk (j + 1) fj1
  have ij := items_at aj fj
  have ij1 := items_at aj1 fj1
  obtain ⟨c0, c1, c2, c3⟩ := cost_at k l j
  obtain ⟨d0, d1, d2, d3⟩ := cost_at k l (j + 1)
  have hp := pushes_le l j
  have hp1 := pushes_le l (j + 1)
  have ho := opOk_at hj ha
  have hfi := fits_at hj hf
  have v1 := sj.valid hk ij c0 (by omega) (by omega) (by omega)
  have v2 := sj1.valid hk ij1 d0 (by omega) (by omega) (by omega)
  have ev := sj1.value hk ij1
  refine ⟨?_, v2, ev, by rw [ev]; exact ok_fold_all hk ij1⟩
  simp only [stepOk, Bool.and_eq_true, decide_eq_true_eq]
  exact ⟨⟨⟨v1, by omega⟩, by omega⟩, can_of ho hfi sj.size⟩
end Go.Proofs.Ytccimldchfekeaa.Agg
