/-
  Plain mathematics of the laws of chapter 1: what is left without a first part, numbers of folds, rises.
-/
import Derived.Test.YtohllpdmopofoaaGreatMath5
set_option linter.unusedSimpArgs false
set_option linter.unusedVariables false
namespace Go.Proofs.YtohllpdmopofoaaGreat.Agg

theorem ok_8y {v : V} (h : ok 8 v = true) : 1 ≤ v.x ∧ v.x ≤ 96 ∧ 0 ≤ v.y ∧ v.y ≤ 96 ∧ v.z = 0 := by simpa [ok] using h

theorem sub97 (a b : Int) : (a % 97 - b) % 97 = (a - b) % 97 := by omega
theorem sub97' (a b : Int) : (a - b % 97) % 97 = (a - b) % 97 := by omega
theorem id97 {a : Int} (h0 : 0 ≤ a) (h1 : a ≤ 96) : a % 97 = a := by omega

/-- x times b, and its inverse in front again. -/
theorem inv_mul {x b : Int} (h0 : 1 ≤ x) (h1 : x ≤ 96) (b0 : 0 ≤ b) (b1 : b ≤ 96) : (x * b % 97) * inv x % 97 = b := by
  have h := (inv_spec h0 h1).1
  rw [mul97, Int.mul_comm x b, Int.mul_assoc, ← mul97', h, Int.mul_one, id97 b0 b1]
theorem mul_inv {x b : Int} (h0 : 1 ≤ x) (h1 : x ≤ 96) (b0 : 0 ≤ b) (b1 : b ≤ 96) : x * (b * inv x % 97) % 97 = b := by
  have h := (inv_spec h0 h1).1
  rw [mul97', Int.mul_comm b, ← Int.mul_assoc, ← mul97, h, Int.one_mul, id97 b0 b1]

/-- What is left of a combination without its first part is the second one. -/
theorem rest_comb {k : Int} {a b : V} (hr : removes k = true) (ha : ok k a = true) (hb : ok k b = true) : rest k a (comb k a b) = b := by
  simp only [removes, decide_eq_true_eq] at hr
  obtain ⟨ax, ay, az⟩ := a
  obtain ⟨bx, by', bz⟩ := b
  obtain rfl | rfl | rfl | rfl := hr
  · simp [ok] at ha hb; apply V.ext' <;> simp [comb, rest] <;> omega
  · simp [ok] at ha hb; apply V.ext' <;> simp [comb, rest] <;> omega
  · simp [ok] at ha hb; apply V.ext' <;> simp [comb, rest] <;> omega
  · obtain ⟨a1, a2, a3, a4, a5⟩ := ok_8y ha
    obtain ⟨b1, b2, b3, b4, b5⟩ := ok_8y hb
    simp only at a1 a2 a3 a4 a5 b1 b2 b3 b4 b5
    have e := inv_mul a1 a2 (show 0 ≤ bx by omega) b2
    apply V.ext' <;> simp [comb, rest, e]
    · omega
    · omega

/-- What is left, put behind the first part again. -/
theorem comb_rest {k : Int} {a w : V} (hr : removes k = true) (ha : ok k a = true) (hw : ok k w = true) : comb k a (rest k a w) = w := by
  simp only [removes, decide_eq_true_eq] at hr
  obtain ⟨ax, ay, az⟩ := a
  obtain ⟨bx, by', bz⟩ := w
  obtain rfl | rfl | rfl | rfl := hr
  · simp [ok] at ha hw; apply V.ext' <;> simp [comb, rest] <;> omega
  · simp [ok] at ha hw; apply V.ext' <;> simp [comb, rest] <;> omega
  · simp [ok] at ha hw; apply V.ext' <;> simp [comb, rest] <;> omega
  · obtain ⟨a1, a2, a3, a4, a5⟩ := ok_8y ha
    obtain ⟨b1, b2, b3, b4, b5⟩ := ok_8y hw
    simp only at a1 a2 a3 a4 a5 b1 b2 b3 b4 b5
    have e := mul_inv a1 a2 (show 0 ≤ bx by omega) b2
    apply V.ext' <;> simp [comb, rest, e]
    · omega
    · omega

theorem aRest_true {k : Int} {a w v : V} (h : aRest k a w = (v, true)) : removes k = true ∧ valid k a = true ∧ valid k w = true ∧ ok k v = true ∧ v = rest k a w := by
  unfold aRest give at h
  split at h
  · rename_i hh
    simp only [Bool.and_eq_true] at hh
    simp only [Prod.mk.injEq, and_true] at h
    subst h
    exact ⟨hh.1.2, hh.1.1.1, hh.1.1.2, hh.2, rfl⟩
  · simp at h
/-- What is removed in front can be put back. -/
theorem aRest_back {k : Int} {a w v : V} (h : aRest k a w = (v, true)) : valid k v = true ∧ aComb k a v = (w, true) := by
  obtain ⟨hr, ha, hw, ho, rfl⟩ := aRest_true h
  simp only [valid, Bool.and_eq_true] at ha hw
  have e := comb_rest hr ha.2 hw.2
  refine ⟨by simp [valid, ha.1, ho], ?_⟩
  simp [aComb, give, valid, ha.1, ha.2, ho, e, hw.2]

/-- Without its first items, a list has the aggregate of the others. -/
theorem aRest_items {k : Int} {l : List Int} {v : V} (h : aFold k l = (v, true)) (i : Nat) (hr : removes k = true) : aRest k (fold k (l.take i)) v = (fold k (l.drop i), true) := by
  obtain ⟨hk, hi, rfl⟩ := aFold_true h
  have h1 := ok_fold_all hk (items_take hi i)
  have h2 := ok_fold_all hk (items_drop hi i)
  have h3 := ok_fold_all hk hi
  have e := rest_comb hr h1 h2
  rw [fold_cut hk hi i] at e
  simp [aRest, give, valid, hk, h1, h2, h3, hr, e]
theorem aRest_none {k : Int} {a w : V} (hr : removes k = false) : aRest k a w = (zero, false) := by simp [aRest, give, hr]

/-! Numbers. -/
/-- What a fold of the kinds 3 to 6, 10 and 2 says of its list. -/
theorem pick_mem {k : Int} (hk : 3 ≤ k ∧ k ≤ 6) (l : List Int) (h : itemsOk l = true) : fold k l = ⟨0, 0, 0⟩ ∧ l = [] ∨ ∃ x, x ∈ l ∧ fold k l = ⟨x, 1, 0⟩ := by
  induction hn : l.length generalizing l with
  | zero =>
    obtain rfl := List.length_eq_zero_iff.1 hn
    refine .inl ⟨?_, rfl⟩
    rw [fold_nil, unit, if_neg (by omega)]
  | succ n ih =>
    have hne : l ≠ [] := by intro e; subst e; simp at hn
    obtain ⟨l3, x, rfl⟩ : ∃ l3 x, l = l3 ++ [x] := ⟨l.dropLast, l.getLast hne, (List.dropLast_concat_getLast hne).symm⟩
    have hlen := items_len h
    have h3 : itemsOk l3 = true := items_of (by simp at hlen ⊢; omega) (fun y hy => items_mem h y (by simp [hy]))
    right
    rw [fold_snoc]
    have hl : lift k x = ⟨x, 1, 0⟩ := by simp only [lift]; (repeat' split) <;> first | omega | rfl
    rw [hl]
    rcases ih l3 h3 (by simp at hn; omega) with ⟨e, -⟩ | ⟨y, hy, e⟩
    · refine ⟨x, by simp, ?_⟩
      rw [e]; obtain rfl | rfl | rfl | rfl : k = 3 ∨ k = 4 ∨ k = 5 ∨ k = 6 := by omega
      all_goals simp [comb]
    · rw [e]
      have : comb k ⟨y, 1, 0⟩ ⟨x, 1, 0⟩ = ⟨y, 1, 0⟩ ∨ comb k ⟨y, 1, 0⟩ ⟨x, 1, 0⟩ = ⟨x, 1, 0⟩ := by
        obtain rfl | rfl | rfl | rfl : k = 3 ∨ k = 4 ∨ k = 5 ∨ k = 6 := by omega
        all_goals (simp [comb] <;> omega)
      rcases this with e2 | e2
      · exact ⟨y, by simp [hy], e2⟩
      · exact ⟨x, by simp, e2⟩

theorem place_at (l : List Int) (h : itemsOk l = true) : (fold 10 l).z = l.length ∧ (l = [] ∨ (0 ≤ (fold 10 l).y ∧ (fold 10 l).y < l.length ∧ l[(fold 10 l).y.toNat]? = some (fold 10 l).x)) := by
  induction hn : l.length generalizing l with
  | zero =>
    obtain rfl := List.length_eq_zero_iff.1 hn
    exact ⟨by simp [fold_nil, unit], .inl rfl⟩
  | succ n ih =>
    have hne : l ≠ [] := by intro e; subst e; simp at hn
    obtain ⟨l3, x, rfl⟩ : ∃ l3 x, l = l3 ++ [x] := ⟨l.dropLast, l.getLast hne, (List.dropLast_concat_getLast hne).symm⟩
    have hlen := items_len h
    have h3 : itemsOk l3 = true := items_of (by simp at hlen ⊢; omega) (fun y hy => items_mem h y (by simp [hy]))
    have hn3 : l3.length = n := by simpa using hn
    obtain ⟨hz, hp⟩ := ih l3 h3 hn3
    rw [fold_snoc]
    obtain ⟨F, hF⟩ : ∃ F, F = fold 10 l3 := ⟨_, rfl⟩
    rw [← hF] at hz hp ⊢
    by_cases h0 : n = 0
    · obtain rfl := List.length_eq_zero_iff.1 (show l3.length = 0 by omega)
      have : F.z = 0 := by omega
      refine ⟨by simp [comb, lift, this] <;> omega, .inr ?_⟩
      simp [comb, lift, this] <;> omega
    · rcases hp with hp | ⟨p0, p1, p2⟩
      · subst hp; simp at hn3; omega
      · have hz0 : F.z ≠ 0 := by omega
        by_cases hx : F.x < x
        · refine ⟨by simp [comb, lift, hz0, hx] <;> omega, .inr ?_⟩
          simp [comb, lift, hz0, hx, hz, h0]
          rw [← hn3]; simp <;> omega
        · refine ⟨by simp [comb, lift, hz0, hx] <;> omega, .inr ?_⟩
          simp [comb, lift, hz0, hx]
          refine ⟨p0, by omega, ?_⟩
          rw [List.getElem?_append_left (by omega)]
          exact p2

theorem count_len (l : List Int) : fold 2 l = ⟨l.length, 0, 0⟩ := by
  induction hn : l.length generalizing l with
  | zero => obtain rfl := List.length_eq_zero_iff.1 hn; rfl
  | succ n ih =>
    have hne : l ≠ [] := by intro e; subst e; simp at hn
    obtain ⟨l3, x, rfl⟩ : ∃ l3 x, l = l3 ++ [x] := ⟨l.dropLast, l.getLast hne, (List.dropLast_concat_getLast hne).symm⟩
    rw [fold_snoc, ih l3 (by simpa using hn)]
    simp [comb, lift]

/-! Rises. -/
/-- How many of the items 1 to i of a list are greater than the one before. -/
def rises (l : List Int) : Nat → Int
  | 0 => 0
  | i + 1 => rises l i + if i + 1 < l.length ∧ l[i]?.getD 0 < l[i + 1]?.getD 0 then 1 else 0
theorem rises_bounds (l : List Int) : ∀ i, 0 ≤ rises l i ∧ rises l i ≤ i
  | 0 => by simp [rises]
  | i + 1 => by have := rises_bounds l i; simp only [rises]; split <;> omega
theorem rise_take (l : List Int) (h : itemsOk l = true) (hn : l ≠ []) : ∀ i, i < l.length → fold 9 (l.take (i + 1)) = ⟨l[0]?.getD 0, l[i]?.getD 0, 1 + rises l i⟩
  | 0, hi => by
    rw [fold_take 9 l 0 hi]
    simp [fold_nil, unit, comb, lift, rises]
  | i + 1, hi => by
    rw [fold_take 9 l (i + 1) hi, rise_take l h hn i (by omega)]
    have hb := rises_bounds l i
    have h1 : (1 : Int) + rises l i ≠ 0 := by omega
    simp only [comb, lift, rises]
    simp [h1, hi]
    split <;> omega
theorem rise_all (l : List Int) (h : itemsOk l = true) (hn : l ≠ []) : fold 9 l = ⟨l[0]?.getD 0, l[l.length - 1]?.getD 0, 1 + rises l (l.length - 1)⟩ := by
  have hp : 0 < l.length := List.length_pos_iff.2 hn
  have := rise_take l h hn (l.length - 1) (by omega)
  rw [show l.length - 1 + 1 = l.length by omega, List.take_length] at this
  exact this
end Go.Proofs.YtohllpdmopofoaaGreat.Agg
