/-
  Plain mathematics of the laws of chapter 1: units, groups, orders, folds of parts, of lists that are turned, what is left without a first part.
-/
import Derived.Test.YtohllpdmopofoaaGreatMath4
set_option linter.unusedSimpArgs false
set_option linter.unusedVariables false
namespace Go.Proofs.YtohllpdmopofoaaGreat.Agg

theorem comb_unit_left {k : Int} {a : V} (hk : isKind k = true) (ha : ok k a = true) : comb k (unit k) a = a := by
  rcases kinds hk with rfl | rfl | rfl | rfl | rfl | rfl | rfl | rfl | rfl | rfl <;> (simp [ok] at ha; apply V.ext' <;> simp [comb, unit] <;> omega)
theorem comb_unit_right {k : Int} {a : V} (hk : isKind k = true) (ha : ok k a = true) : comb k a (unit k) = a := by
  rcases kinds hk with rfl | rfl | rfl | rfl | rfl | rfl | rfl | rfl | rfl | rfl <;> (simp [ok] at ha; apply V.ext' <;> simp [comb, unit] <;> (repeat' split) <;> first | omega | (simp; omega) | simp_all)

theorem ok_unit {k : Int} (hk : isKind k = true) : ok k (unit k) = true := (small_unit hk).1

theorem add97 (a b : Int) : (a % 97 + b) % 97 = (a + b) % 97 := by omega
theorem add97' (a b : Int) : (a + b % 97) % 97 = (a + b) % 97 := by omega
theorem mul97 (a b : Int) : (a % 97 * b) % 97 = (a * b) % 97 := by rw [Int.mul_emod, Int.emod_emod_of_dvd _ (Int.dvd_refl 97), ← Int.mul_emod]
theorem mul97' (a b : Int) : (a * (b % 97)) % 97 = (a * b) % 97 := by rw [Int.mul_comm, mul97, Int.mul_comm]

theorem assoc8 (a b c : V) : comb 8 (comb 8 a b) c = comb 8 a (comb 8 b c) := by
  apply V.ext' <;> simp [comb]
  · rw [mul97, mul97', Int.mul_assoc]
  · rw [← add97 ((a.y * b.x + b.y) % 97 * c.x) c.y, mul97, add97, ← add97 (a.y * (b.x * c.x % 97)), mul97', add97, Int.add_mul, Int.mul_assoc, Int.add_assoc]

set_option maxHeartbeats 2000000 in
theorem assoc {k : Int} {a b c : V} (hk : isKind k = true) (ha : ok k a = true) (hb : ok k b = true) (hc : ok k c = true) :
    comb k (comb k a b) c = comb k a (comb k b c) := by
  obtain ⟨ax, ay, az⟩ := a
  obtain ⟨bx, by', bz⟩ := b
  obtain ⟨cx, cy, cz⟩ := c
  rcases kinds hk with rfl | rfl | rfl | rfl | rfl | rfl | rfl | rfl | rfl | rfl
  · apply V.ext' <;> simp [comb] <;> omega
  · apply V.ext' <;> simp [comb] <;> omega
  · simp [ok] at ha hb hc; simp only [comb]; apply V.ext' <;> simp <;> (repeat' split) <;> simp_all <;> omega
  · simp [ok] at ha hb hc; simp only [comb]; apply V.ext' <;> simp <;> (repeat' split) <;> simp_all <;> omega
  · simp [ok] at ha hb hc; simp only [comb]; apply V.ext' <;> simp <;> (repeat' split) <;> simp_all <;> omega
  · simp [ok] at ha hb hc; simp only [comb]; apply V.ext' <;> simp <;> (repeat' split) <;> simp_all <;> omega
  · apply V.ext' <;> simp [comb] <;> omega
  · exact assoc8 _ _ _
  · simp [ok] at ha hb hc; simp only [comb]; apply V.ext' <;> simp <;> (repeat' split) <;> simp_all <;> omega
  · simp [ok] at ha hb hc; simp only [comb]; apply V.ext' <;> simp <;> (repeat' split) <;> simp_all <;> omega

theorem commuted {k : Int} {a b : V} (hk : isKind k = true) (hc : comm k = true) (ha : ok k a = true) (hb : ok k b = true) : comb k a b = comb k b a := by
  obtain ⟨ax, ay, az⟩ := a
  obtain ⟨bx, by', bz⟩ := b
  simp only [comm, decide_eq_true_eq] at hc
  obtain rfl | rfl | rfl | rfl | rfl : k = 1 ∨ k = 2 ∨ k = 3 ∨ k = 4 ∨ k = 7 := by omega
  · apply V.ext' <;> simp [comb] <;> omega
  · apply V.ext' <;> simp [comb] <;> omega
  · simp [ok] at ha hb; simp only [comb]; apply V.ext' <;> simp <;> (repeat' split) <;> simp_all <;> omega
  · simp [ok] at ha hb; simp only [comb]; apply V.ext' <;> simp <;> (repeat' split) <;> simp_all <;> omega
  · apply V.ext' <;> simp [comb] <;> omega

/-- Fields that are not great. -/
def few (v : V) : Prop := v.x ≤ 1000 ∧ v.y ≤ 1000 ∧ v.z ≤ 1000
set_option maxHeartbeats 1000000 in
theorem ok_comb_few {k : Int} {a b : V} (hk : isKind k = true) (ha : ok k a = true) (hb : ok k b = true) (fa : few a) (fb : few b) : ok k (comb k a b) = true := by
  obtain ⟨ax, ay, az⟩ := a
  obtain ⟨bx, by', bz⟩ := b
  obtain ⟨fa1, fa2, fa3⟩ := fa
  obtain ⟨fb1, fb2, fb3⟩ := fb
  simp only at fa1 fa2 fa3 fb1 fb2 fb3
  rcases kinds hk with rfl | rfl | rfl | rfl | rfl | rfl | rfl | rfl | rfl | rfl
  · simp [ok, comb] at *; omega
  · simp [ok, comb] at *; omega
  · simp [ok, comb] at *; (repeat' split) <;> simp_all <;> omega
  · simp [ok, comb] at *; (repeat' split) <;> simp_all <;> omega
  · simp [ok, comb] at *; (repeat' split) <;> simp_all <;> omega
  · simp [ok, comb] at *; (repeat' split) <;> simp_all <;> omega
  · simp [ok, comb] at *; omega
  · simp [ok, comb] at *
    have := prod97 ha.1 ha.2.1 hb.1 hb.2.1
    omega
  · simp [ok, comb] at *; (repeat' split) <;> simp_all <;> omega
  · simp [ok, comb] at *; (repeat' split) <;> simp_all <;> omega

theorem small_few {k : Int} {v : V} {m : Int} (hk : isKind k = true) (h : small k v m) (hm : m ≤ 10) (h0 : 0 ≤ m) : few v := by
  obtain ⟨h1, h2, h3, h4⟩ := h
  unfold few
  rcases kinds hk with rfl | rfl | rfl | rfl | rfl | rfl | rfl | rfl | rfl | rfl <;> simp [ok] at * <;> omega

/-- Both orders of two aggregates have an aggregate, or none, if their fields are not great; the same one if the kind commutes. -/
theorem aComb_back {k : Int} {a b : V} (fa : few a) (fb : few b) : (aComb k a b).2 = (aComb k b a).2 ∧ ((isKind k && comm k) = true → aComb k a b = aComb k b a) := by
  by_cases hk : isKind k = true
  · by_cases ha : ok k a = true
    · by_cases hb : ok k b = true
      · have h1 := ok_comb_few hk ha hb fa fb
        have h2 := ok_comb_few hk hb ha fb fa
        refine ⟨by simp [aComb, give, valid, hk, ha, hb, h1, h2], fun hc => ?_⟩
        simp only [Bool.and_eq_true] at hc
        have := commuted hk hc.2 ha hb
        simp [aComb, give, valid, hk, ha, hb, this]
      · simp [aComb, give, valid, hb]
    · simp [aComb, give, valid, ha]
  · simp [aComb, give, valid, hk]

/-! Folds. -/
theorem items_mem {l : List Int} (h : itemsOk l = true) : ∀ x ∈ l, isItem x = true := by
  simp only [itemsOk, Bool.and_eq_true, decide_eq_true_eq, List.all_eq_true] at h; exact h.2
theorem items_of {l : List Int} (h1 : l.length ≤ 60) (h2 : ∀ x ∈ l, isItem x = true) : itemsOk l = true := by
  simp only [itemsOk, Bool.and_eq_true, decide_eq_true_eq, List.all_eq_true]; exact ⟨h1, h2⟩
theorem items_take {l : List Int} (h : itemsOk l = true) (i : Nat) : itemsOk (l.take i) = true :=
  items_of (by have := items_len h; simp; omega) (fun x hx => items_mem h x (List.mem_of_mem_take hx))
theorem items_drop {l : List Int} (h : itemsOk l = true) (i : Nat) : itemsOk (l.drop i) = true :=
  items_of (by have := items_len h; simp; omega) (fun x hx => items_mem h x (List.mem_of_mem_drop hx))
theorem items_rev {l : List Int} (h : itemsOk l = true) : itemsOk l.reverse = true :=
  items_of (by have := items_len h; simp; omega) (fun x hx => items_mem h x (by simpa using hx))
theorem items_rev_eq (l : List Int) : itemsOk l.reverse = itemsOk l := by
  cases h : itemsOk l
  · cases h2 : itemsOk l.reverse
    · rfl
    · have := items_rev h2; simp [h] at this
  · exact items_rev h
theorem ok_fold_all {k : Int} {l : List Int} (hk : isKind k = true) (h : itemsOk l = true) : ok k (fold k l) = true := by
  have := ok_fold hk h l.length (Nat.le_refl _); simpa using this
theorem small_fold_all {k : Int} {l : List Int} (hk : isKind k = true) (h : itemsOk l = true) : small k (fold k l) l.length := by
  have := small_fold hk h l.length (Nat.le_refl _); simpa using this

theorem fold_append {k : Int} (hk : isKind k = true) (l1 l2 : List Int) (h : itemsOk (l1 ++ l2) = true) : fold k (l1 ++ l2) = comb k (fold k l1) (fold k l2) := by
  induction hn : l2.length generalizing l2 with
  | zero =>
    obtain rfl := List.length_eq_zero_iff.1 hn
    have h1 : itemsOk l1 = true := by simpa using h
    rw [List.append_nil, fold_nil, comb_unit_right hk (ok_fold_all hk h1)]
  | succ n ih =>
    have hne : l2 ≠ [] := by intro e; subst e; simp at hn
    obtain ⟨l3, x, rfl⟩ : ∃ l3 x, l2 = l3 ++ [x] := ⟨l2.dropLast, l2.getLast hne, (List.dropLast_concat_getLast hne).symm⟩
    have hlen := items_len h
    have h13 : itemsOk (l1 ++ l3) = true := items_of (by simp at hlen ⊢; omega) (fun y hy => items_mem h y (by simp at hy ⊢; rcases hy with hy | hy <;> simp [hy]))
    have h1 : itemsOk l1 = true := items_of (by simp at hlen ⊢; omega) (fun y hy => items_mem h y (by simp [hy]))
    have h3 : itemsOk l3 = true := items_of (by simp at hlen ⊢; omega) (fun y hy => items_mem h y (by simp [hy]))
    have hx : isItem x = true := items_mem h x (by simp)
    rw [← List.append_assoc, fold_snoc, fold_snoc, ih l3 h13 (by simp at hn; omega)]
    exact assoc hk (ok_fold_all hk h1) (ok_fold_all hk h3) (ok_lift hk hx)

theorem fold_one {k x : Int} (hk : isKind k = true) (hx : isItem x = true) : fold k [x] = lift k x := by
  have := fold_snoc k [] x
  rw [List.nil_append, fold_nil, comb_unit_left hk (ok_lift hk hx)] at this
  exact this

/-- A list's fold is that of its two parts. -/
theorem fold_cut {k : Int} {l : List Int} (hk : isKind k = true) (h : itemsOk l = true) (i : Nat) : comb k (fold k (l.take i)) (fold k (l.drop i)) = fold k l := by
  rw [← fold_append hk _ _ (by rw [List.take_append_drop]; exact h), List.take_append_drop]

theorem aFold_of {k : Int} {l : List Int} (hk : isKind k = true) (h : itemsOk l = true) : aFold k l = (fold k l, true) := by simp [aFold, give, hk, h]
theorem aFold_true {k : Int} {l : List Int} {v : V} (h : aFold k l = (v, true)) : isKind k = true ∧ itemsOk l = true ∧ v = fold k l := by
  unfold aFold give at h
  split at h
  · rename_i hh
    simp only [Bool.and_eq_true] at hh
    simp only [Prod.mk.injEq, and_true] at h
    exact ⟨hh.1, hh.2, h.symm⟩
  · simp at h
theorem aFold_parts {k : Int} {l : List Int} {v : V} (h : aFold k l = (v, true)) (i : Nat) :
    aFold k (l.take i) = (fold k (l.take i), true) ∧ aFold k (l.drop i) = (fold k (l.drop i), true) ∧ aComb k (fold k (l.take i)) (fold k (l.drop i)) = (v, true) := by
  obtain ⟨hk, hi, rfl⟩ := aFold_true h
  refine ⟨aFold_of hk (items_take hi i), aFold_of hk (items_drop hi i), ?_⟩
  simp [aComb, give, valid, hk, ok_fold_all hk (items_take hi i), ok_fold_all hk (items_drop hi i), fold_cut hk hi i, ok_fold_all hk hi]
theorem aFold_valid {k : Int} {l : List Int} {v : V} (h : aFold k l = (v, true)) : valid k v = true := by
  obtain ⟨hk, hi, rfl⟩ := aFold_true h
  simp [valid, hk, ok_fold_all hk hi]

/-- A list backwards has the same fold for kinds that commute. -/
theorem fold_rev {k : Int} (hk : isKind k = true) (hc : comm k = true) : ∀ (l : List Int), itemsOk l = true → fold k l.reverse = fold k l
  | [], _ => rfl
  | x :: l, h => by
    have hl : itemsOk l = true := items_of (by have := items_len h; simp at this; omega) (fun y hy => items_mem h y (by simp [hy]))
    have hx : isItem x = true := items_mem h x (by simp)
    rw [List.reverse_cons, fold_snoc, fold_rev hk hc l hl, commuted hk hc (ok_fold_all hk hl) (ok_lift hk hx), ← fold_one hk hx, ← fold_append hk [x] l h]
    rfl

theorem fold_last {l : List Int} {x : Int} : fold 6 (l ++ [x]) = lift 6 x := by
  rw [fold_snoc]; simp [comb, lift]
theorem fold_first {x : Int} {l : List Int} (h : itemsOk (x :: l) = true) : fold 5 (x :: l) = lift 5 x := by
  have hx : isItem x = true := items_mem h x (by simp)
  have := fold_append (k := 5) (by decide) [x] l h
  rw [show x :: l = [x] ++ l from rfl, this, fold_one (by decide) hx]
  simp [comb, lift]
theorem first_last {l : List Int} (h : itemsOk l = true) : fold 6 l.reverse = fold 5 l := by
  cases l with
  | nil => rfl
  | cons x l => rw [List.reverse_cons, fold_last, fold_first h]; rfl
end Go.Proofs.YtohllpdmopofoaaGreat.Agg
