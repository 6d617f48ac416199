/-
  Plain facts on aggregates: folds of items are valid, and small; combinations of valid aggregates.
-/
import Derived.Test.YtohllpdmopofoaaGreatMath3
set_option linter.unusedSimpArgs false
namespace Go.Proofs.YtohllpdmopofoaaGreat.Agg

/-- A kind is one of ten numbers. -/
theorem kinds {k : Int} (h : isKind k = true) : k = 1 ∨ k = 2 ∨ k = 3 ∨ k = 4 ∨ k = 5 ∨ k = 6 ∨ k = 7 ∨ k = 8 ∨ k = 9 ∨ k = 10 := by
  simp only [isKind, decide_eq_true_eq] at h; omega

/-- A valid aggregate of at most m items. -/
def small (k : Int) (v : V) (m : Int) : Prop :=
  ok k v = true ∧ (k = 2 → v.x ≤ m) ∧ (k = 7 → v.y ≤ m) ∧ ((k = 9 ∨ k = 10) → v.z ≤ m)

theorem small_unit {k : Int} (hk : isKind k = true) : small k (unit k) 0 := by
  rcases kinds hk with rfl | rfl | rfl | rfl | rfl | rfl | rfl | rfl | rfl | rfl <;> simp [small, ok, unit]

theorem mod97 (a : Int) : 0 ≤ a % 97 ∧ a % 97 ≤ 96 := by omega
theorem prod97_all : ∀ a b : Fin 97, a.val ≠ 0 → b.val ≠ 0 → 1 ≤ ((a.val : Int) * b.val) % 97 := by decide +kernel
theorem prod97 {a b : Int} (a0 : 1 ≤ a) (a1 : a ≤ 96) (b0 : 1 ≤ b) (b1 : b ≤ 96) : 1 ≤ a * b % 97 := by
  obtain ⟨m, rfl⟩ := Int.eq_ofNat_of_zero_le (show 0 ≤ a by omega)
  obtain ⟨n, rfl⟩ := Int.eq_ofNat_of_zero_le (show 0 ≤ b by omega)
  exact prod97_all ⟨m, by omega⟩ ⟨n, by omega⟩ (by simp; omega) (by simp; omega)

theorem ok_lift {k n : Int} (hk : isKind k = true) (hn : isItem n = true) : ok k (lift k n) = true := by
  simp only [isItem, decide_eq_true_eq] at hn
  rcases kinds hk with rfl | rfl | rfl | rfl | rfl | rfl | rfl | rfl | rfl | rfl <;> simp [ok, lift] <;> omega

theorem small_step {k n m : Int} {v : V} (hk : isKind k = true) (hn : isItem n = true) (h : small k v m) (hm : m ≤ 1000) : small k (comb k v (lift k n)) (m + 1) := by
  simp only [isItem, decide_eq_true_eq] at hn
  obtain ⟨h1, h2, h3, h4⟩ := h
  rcases kinds hk with rfl | rfl | rfl | rfl | rfl | rfl | rfl | rfl | rfl | rfl
  · simp [small, ok, comb, lift] at *; omega
  · simp [small, ok, comb, lift] at *; omega
  · simp [small, ok, comb, lift] at *; (repeat' split) <;> simp_all <;> omega
  · simp [small, ok, comb, lift] at *; (repeat' split) <;> simp_all <;> omega
  · simp [small, ok, comb, lift] at *; (repeat' split) <;> simp_all <;> omega
  · simp [small, ok, comb, lift] at *; (repeat' split) <;> simp_all <;> omega
  · simp [small, ok, comb, lift] at *; omega
  · simp [small, ok, comb, lift] at *
    have := prod97 h1.1 h1.2.1 (show 1 ≤ n % 9 + 1 by omega) (show n % 9 + 1 ≤ 96 by omega)
    omega
  · simp [small, ok, comb, lift] at *; (repeat' split) <;> simp_all <;> omega
  · simp [small, ok, comb, lift] at *; (repeat' split) <;> simp_all <;> omega

theorem fold_snoc (k : Int) (l : List Int) (n : Int) : fold k (l ++ [n]) = comb k (fold k l) (lift k n) := by simp [fold]
theorem fold_nil (k : Int) : fold k [] = unit k := rfl

theorem take_snoc (l : List Int) (i : Nat) (h : i < l.length) : l.take (i + 1) = l.take i ++ [l[i]?.getD 0] := by
  rw [List.take_succ_eq_append_getElem h]; simp [h]

theorem fold_take (k : Int) (l : List Int) (i : Nat) (h : i < l.length) : fold k (l.take (i + 1)) = comb k (fold k (l.take i)) (lift k (l[i]?.getD 0)) := by
  rw [take_snoc l i h, fold_snoc]

theorem item_at {l : List Int} (h : itemsOk l = true) {i : Nat} (hi : i < l.length) : isItem (l[i]?.getD 0) = true := by
  simp only [itemsOk, Bool.and_eq_true, decide_eq_true_eq, List.all_eq_true] at h
  exact h.2 _ (by simp [hi])
theorem items_len {l : List Int} (h : itemsOk l = true) : l.length ≤ 60 := by
  simp only [itemsOk, Bool.and_eq_true, decide_eq_true_eq] at h; exact h.1

theorem small_fold {k : Int} {l : List Int} (hk : isKind k = true) (h : itemsOk l = true) : ∀ i, i ≤ l.length → small k (fold k (l.take i)) i
  | 0, _ => by simpa [fold_nil] using small_unit hk
  | i + 1, hi => by
    rw [fold_take k l i (by omega)]
    have := small_step hk (item_at h (show i < l.length by omega)) (small_fold hk h i (by omega)) (by have := items_len h; omega)
    simpa using this

theorem ok_fold {k : Int} {l : List Int} (hk : isKind k = true) (h : itemsOk l = true) (i : Nat) (hi : i ≤ l.length) : ok k (fold k (l.take i)) = true :=
  (small_fold hk h i hi).1

end Go.Proofs.YtohllpdmopofoaaGreat.Agg
