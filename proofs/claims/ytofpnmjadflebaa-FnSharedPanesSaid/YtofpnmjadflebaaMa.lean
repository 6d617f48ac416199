/-
  Plain mathematics of aggregates: ten kinds, their combination, folds, numbers, inverses. It imports nothing of the program.
-/
namespace Go.Proofs.Ytofpnmjadflebaa.Agg
set_option linter.unusedSimpArgs false

/-- An aggregate: its three fields. -/
structure V where
  x : Int
  y : Int
  z : Int
deriving DecidableEq

theorem V.ext' {a b : V} (h1 : a.x = b.x) (h2 : a.y = b.y) (h3 : a.z = b.z) : a = b := by
  cases a; cases b; simp_all

def zero : V := ⟨0, 0, 0⟩

def isKind (k : Int) : Bool := decide (1 ≤ k ∧ k ≤ 10)
def isItem (n : Int) : Bool := decide (0 ≤ n ∧ n ≤ 96)

/-- ValueValid at a kind from 1 to 10. -/
def ok (k : Int) (v : V) : Bool :=
  if k = 1 then decide (0 ≤ v.x ∧ v.x ≤ 96 ∧ v.y = 0 ∧ v.z = 0)
  else if k = 2 then decide (0 ≤ v.x ∧ v.x ≤ 1000000 ∧ v.y = 0 ∧ v.z = 0)
  else if k = 7 then decide (0 ≤ v.y ∧ v.y ≤ 10000 ∧ 0 ≤ v.x ∧ v.x ≤ 96 * v.y ∧ v.z = 0)
  else if k = 8 then decide (1 ≤ v.x ∧ v.x ≤ 96 ∧ 0 ≤ v.y ∧ v.y ≤ 96 ∧ v.z = 0)
  else if k = 9 then decide ((v.x = 0 ∧ v.y = 0 ∧ v.z = 0) ∨ (0 ≤ v.x ∧ v.x ≤ 96 ∧ 0 ≤ v.y ∧ v.y ≤ 96 ∧ 1 ≤ v.z ∧ v.z ≤ 1000000))
  else if k = 10 then decide ((v.x = 0 ∧ v.y = 0 ∧ v.z = 0) ∨ (0 ≤ v.x ∧ v.x ≤ 96 ∧ 1 ≤ v.z ∧ v.z ≤ 1000000 ∧ 0 ≤ v.y ∧ v.y ≤ v.z - 1))
  else decide ((v.x = 0 ∧ v.y = 0 ∧ v.z = 0) ∨ (0 ≤ v.x ∧ v.x ≤ 96 ∧ v.y = 1 ∧ v.z = 0))

def valid (k : Int) (v : V) : Bool := isKind k && ok k v

def unit (k : Int) : V := if k = 8 then ⟨1, 0, 0⟩ else ⟨0, 0, 0⟩

def lift (k n : Int) : V :=
  if k = 1 then ⟨n, 0, 0⟩
  else if k = 2 then ⟨1, 0, 0⟩
  else if k = 8 then ⟨n % 9 + 1, n, 0⟩
  else if k = 9 then ⟨n, n, 1⟩
  else if k = 10 then ⟨n, 0, 1⟩
  else ⟨n, 1, 0⟩

/-- Combination of two valid aggregates of a kind from 1 to 10. -/
def comb (k : Int) (a b : V) : V :=
  if k = 1 then ⟨(a.x + b.x) % 97, 0, 0⟩
  else if k = 2 then ⟨a.x + b.x, 0, 0⟩
  else if k = 7 then ⟨a.x + b.x, a.y + b.y, 0⟩
  else if k = 8 then ⟨a.x * b.x % 97, (a.y * b.x + b.y) % 97, 0⟩
  else if k = 9 then
    if a.z = 0 then b else if b.z = 0 then a
    else ⟨a.x, b.y, if a.y < b.x then a.z + b.z else a.z + b.z - 1⟩
  else if k = 10 then
    if a.z = 0 then b else if b.z = 0 then a
    else if a.x < b.x then ⟨b.x, a.z + b.y, a.z + b.z⟩ else ⟨a.x, a.y, a.z + b.z⟩
  else if a.y = 0 then b
  else if b.y = 0 then a
  else if k = 3 then (if b.x < a.x then b else a)
  else if k = 4 then (if a.x < b.x then b else a)
  else if k = 5 then a
  else b

/-- The number of a valid aggregate, and whether it has one. -/
def low (k : Int) (v : V) : Int × Bool :=
  if k = 1 ∨ k = 2 then (v.x, true)
  else if k = 8 then ((v.x + v.y) % 97, true)
  else if k = 7 then (if v.y = 0 then (0, false) else (v.x / v.y, true))
  else if k = 9 then (if v.z = 0 then (0, true) else (v.z - 1, true))
  else if k = 10 then (v.y, decide (v.z ≠ 0))
  else (v.x, decide (v.y ≠ 0))

def comm (k : Int) : Bool := decide (1 ≤ k ∧ k ≤ 4 ∨ k = 7)

/-- n to the power i, modulo 97. -/
def pow97 (n : Int) : Nat → Int
  | 0 => 1
  | i + 1 => pow97 n i * n % 97
/-- The inverse of n modulo 97. -/
def inv (n : Int) : Int := pow97 n 95

/-- What is left of a whole without its first part, for the kinds 1, 2, 7 and 8. -/
def rest (k : Int) (a w : V) : V :=
  if k = 1 then ⟨(w.x - a.x) % 97, 0, 0⟩
  else if k = 2 then ⟨w.x - a.x, 0, 0⟩
  else if k = 7 then ⟨w.x - a.x, w.y - a.y, 0⟩
  else ⟨w.x * inv a.x % 97, (w.y - a.y * (w.x * inv a.x % 97)) % 97, 0⟩

def removes (k : Int) : Bool := decide (k = 1 ∨ k = 2 ∨ k = 7 ∨ k = 8)

def fold (k : Int) (l : List Int) : V := l.foldl (fun v n => comb k v (lift k n)) (unit k)
def itemsOk (l : List Int) : Bool := decide (l.length ≤ 60) && l.all isItem

/-! The answers of the exported functions: a value and whether there is one. -/
def give (b : Bool) (v : V) : V × Bool := if b then (v, true) else (zero, false)
def aLift (k n : Int) : V × Bool := give (isKind k && isItem n) (lift k n)
def aUnit (k : Int) : V × Bool := give (isKind k) (unit k)
def aComb (k : Int) (a b : V) : V × Bool := give (valid k a && valid k b && ok k (comb k a b)) (comb k a b)
def aLow (k : Int) (v : V) : Int × Bool := if valid k v && (low k v).2 then ((low k v).1, true) else (0, false)
def aRest (k : Int) (a w : V) : V × Bool := give (valid k a && valid k w && removes k && ok k (rest k a w)) (rest k a w)
def aFold (k : Int) (l : List Int) : V × Bool := give (isKind k && itemsOk l) (fold k l)

end Go.Proofs.Ytofpnmjadflebaa.Agg

/-
  Plain facts on aggregates: bounds, inverses modulo 97.
-/
namespace Go.Proofs.Ytofpnmjadflebaa.Agg
set_option linter.unusedSimpArgs false

theorem ok_bounds {k : Int} {v : V} (h : ok k v = true) : 0 ≤ v.x ∧ v.x ≤ 1000000 ∧ 0 ≤ v.y ∧ v.y ≤ 1000000 ∧ 0 ≤ v.z ∧ v.z ≤ 1000000 := by
  unfold ok at h
  repeat' split at h
  all_goals (simp only [decide_eq_true_eq] at h; omega)

theorem ok_8 {v : V} (h : ok 8 v = true) : 1 ≤ v.x ∧ v.x ≤ 96 ∧ 0 ≤ v.y ∧ v.y ≤ 96 ∧ v.z = 0 := by
  simpa [ok] using h

theorem mul_bounds {a b m n : Int} (h0 : 0 ≤ a) (h1 : a ≤ m) (h2 : 0 ≤ b) (h3 : b ≤ n) : 0 ≤ a * b ∧ a * b ≤ m * n :=
  ⟨Int.mul_nonneg h0 h2, Int.mul_le_mul h1 h3 h2 (by omega)⟩

theorem pow97_bounds (n : Int) : ∀ i, 0 ≤ pow97 n i ∧ pow97 n i ≤ 96
  | 0 => by simp [pow97]
  | i + 1 => by simp only [pow97]; omega

theorem inv_all : ∀ n : Fin 97, n.val ≠ 0 → (n.val : Int) * inv n.val % 97 = 1 ∧ 1 ≤ inv n.val ∧ inv n.val ≤ 96 := by decide +kernel

theorem inv_spec {n : Int} (h0 : 1 ≤ n) (h1 : n ≤ 96) : n * inv n % 97 = 1 ∧ 1 ≤ inv n ∧ inv n ≤ 96 := by
  obtain ⟨m, rfl⟩ := Int.eq_ofNat_of_zero_le (show 0 ≤ n by omega)
  exact inv_all ⟨m, by omega⟩ (by simp; omega)

/-- The same power by squares: the powers that the program's own loop keeps. -/
def sq (x : Int) (n : Nat) (y : Int) : Nat → Int
  | 0 => y
  | f + 1 => if n = 0 then y else sq (x * x % 97) (n / 2) (if n % 2 = 1 then y * x % 97 else y) f

theorem sq_all : ∀ n : Fin 97, sq n.val 95 1 8 = inv n.val := by decide +kernel
theorem sq_inv {n : Int} (h0 : 1 ≤ n) (h1 : n ≤ 96) : sq n 95 1 8 = inv n := by
  obtain ⟨m, rfl⟩ := Int.eq_ofNat_of_zero_le (show 0 ≤ n by omega)
  exact sq_all ⟨m, by omega⟩

end Go.Proofs.Ytofpnmjadflebaa.Agg

/-
  Plain facts on aggregates: numbers of aggregates.
-/
set_option linter.unusedSimpArgs false
namespace Go.Proofs.Ytofpnmjadflebaa.Agg

/-- For the kinds 3 to 6, the second field is 0 or 1. -/
theorem ok_pick {k x y z : Int} (h : ok k ⟨x, y, z⟩ = true) (hk : 3 ≤ k ∧ k ≤ 6) : y = 0 ∨ y = 1 := by
  unfold ok at h
  repeat' split at h
  all_goals (simp only [decide_eq_true_eq] at h; omega)

/-- A valid aggregate without a number has the number 0 besides. -/
theorem aLow_of {k : Int} {v : V} (hk : isKind k = true) (h : ok k v = true) : aLow k v = low k v := by
  simp only [aLow, valid, hk, h, Bool.and_true, Bool.true_and]
  by_cases hl : (low k v).2 = true
  · rw [if_pos hl, ← hl]
  · rw [if_neg hl]
    have h2 : (low k v).2 = false := by simpa using hl
    have h1 : (low k v).1 = 0 := by
      unfold ok at h
      unfold low at h2 ⊢
      repeat' split at h2
      all_goals (first | contradiction | skip)
      all_goals (simp only [decide_eq_false_iff_not, decide_eq_true_eq, Decidable.not_not] at *)
      all_goals (first | rfl | skip)
      all_goals (repeat' split at h)
      all_goals (simp only [decide_eq_true_eq] at h)
      all_goals (repeat' split)
      all_goals (first | omega | rfl | (simp; omega))
    rw [← h1, ← h2]

end Go.Proofs.Ytofpnmjadflebaa.Agg

/-
  Plain facts on aggregates: folds of items are valid, and small; combinations of valid aggregates.
-/
set_option linter.unusedSimpArgs false
namespace Go.Proofs.Ytofpnmjadflebaa.Agg

/-- A kind is one of ten numbers. -/
theorem kinds {k : Int} (h : isKind k = true) : k = 1 ∨ k = 2 ∨ k = 3 ∨ k = 4 ∨ k = 5 ∨ k = 6 ∨ k = 7 ∨ k = 8 ∨ k = 9 ∨ k = 10 := by
  simp only [isKind, decide_eq_true_eq] at h; omega

/-- A valid aggregate of at most m items. -/
def small (k : Int) (v : V) (m : Int) : Prop :=
  ok k v = true ∧ (k = 2 → v.x ≤ m) ∧ (k = 7 → v.y ≤ m) ∧ ((k = 9 ∨ k = 10) → v.z ≤ m)

theorem small_unit {k : Int} (hk : isKind k = true) : small k (unit k) 0 := by
  rcases kinds hk with rfl | rfl | rfl | rfl | rfl | rfl | rfl | rfl | rfl | rfl <;> simp [small, ok, unit]

theorem mod97 (a : Int) : 0 ≤ a % 97 ∧ a % 97 ≤ 96 := by omega
theorem prod97_all : ∀ a b : Fin 97, a.val ≠ 0 → b.val ≠ 0 → 1 ≤ ((a.val : Int) * b.val) % 97 := by decide +kernel
theorem prod97 {a b : Int} (a0 : 1 ≤ a) (a1 : a ≤ 96) (b0 : 1 ≤ b) (b1 : b ≤ 96) : 1 ≤ a * b % 97 := by
  obtain ⟨m, rfl⟩ := Int.eq_ofNat_of_zero_le (show 0 ≤ a by omega)
  obtain ⟨n, rfl⟩ := Int.eq_ofNat_of_zero_le (show 0 ≤ b by omega)
  exact prod97_all ⟨m, by omega⟩ ⟨n, by omega⟩ (by simp; omega) (by simp; omega)

theorem ok_lift {k n : Int} (hk : isKind k = true) (hn : isItem n = true) : ok k (lift k n) = true := by
  simp only [isItem, decide_eq_true_eq] at hn
  rcases kinds hk with rfl | rfl | rfl | rfl | rfl | rfl | rfl | rfl | rfl | rfl <;> simp [ok, lift] <;> omega

theorem small_step {k n m : Int} {v : V} (hk : isKind k = true) (hn : isItem n = true) (h : small k v m) (hm : m ≤ 1000) : small k (comb k v (lift k n)) (m + 1) := by
  simp only [isItem, decide_eq_true_eq] at hn
  obtain ⟨h1, h2, h3, h4⟩ := h
  rcases kinds hk with rfl | rfl | rfl | rfl | rfl | rfl | rfl | rfl | rfl | rfl
  · simp [small, ok, comb, lift] at *; omega
  · simp [small, ok, comb, lift] at *; omega
  · simp [small, ok, comb, lift] at *; (repeat' split) <;> simp_all <;> omega
  · simp [small, ok, comb, lift] at *; (repeat' split) <;> simp_all <;> omega
  · simp [small, ok, comb, lift] at *; (repeat' split) <;> simp_all <;> omega
  · simp [small, ok, comb, lift] at *; (repeat' split) <;> simp_all <;> omega
  · simp [small, ok, comb, lift] at *; omega
  · simp [small, ok, comb, lift] at *
    have := prod97 h1.1 h1.2.1 (show 1 ≤ n % 9 + 1 by omega) (show n % 9 + 1 ≤ 96 by omega)
    omega
  · simp [small, ok, comb, lift] at *; (repeat' split) <;> simp_all <;> omega
  · simp [small, ok, comb, lift] at *; (repeat' split) <;> simp_all <;> omega

theorem fold_snoc (k : Int) (l : List Int) (n : Int) : fold k (l ++ [n]) = comb k (fold k l) (lift k n) := by simp [fold]
theorem fold_nil (k : Int) : fold k [] = unit k := rfl

theorem take_snoc (l : List Int) (i : Nat) (h : i < l.length) : l.take (i + 1) = l.take i ++ [l[i]?.getD 0] := by
  rw [List.take_succ_eq_append_getElem h]; simp [h]

theorem fold_take (k : Int) (l : List Int) (i : Nat) (h : i < l.length) : fold k (l.take (i + 1)) = comb k (fold k (l.take i)) (lift k (l[i]?.getD 0)) := by
  rw [take_snoc l i h, fold_snoc]

theorem item_at {l : List Int} (h : itemsOk l = true) {i : Nat} (hi : i < l.length) : isItem (l[i]?.getD 0) = true := by
  simp only [itemsOk, Bool.and_eq_true, decide_eq_true_eq, List.all_eq_true] at h
  exact h.2 _ (by simp [hi])
theorem items_len {l : List Int} (h : itemsOk l = true) : l.length ≤ 60 := by
  simp only [itemsOk, Bool.and_eq_true, decide_eq_true_eq] at h; exact h.1

theorem small_fold {k : Int} {l : List Int} (hk : isKind k = true) (h : itemsOk l = true) : ∀ i, i ≤ l.length → small k (fold k (l.take i)) i
  | 0, _ => by simpa [fold_nil] using small_unit hk
  | i + 1, hi => by
    rw [fold_take k l i (by omega)]
    have := small_step hk (item_at h (show i < l.length by omega)) (small_fold hk h i (by omega)) (by have := items_len h; omega)
    simpa using this

theorem ok_fold {k : Int} {l : List Int} (hk : isKind k = true) (h : itemsOk l = true) (i : Nat) (hi : i ≤ l.length) : ok k (fold k (l.take i)) = true :=
  (small_fold hk h i hi).1

end Go.Proofs.Ytofpnmjadflebaa.Agg

/-
  Plain mathematics of the laws of chapter 1: units, groups, orders, folds of parts, of lists that are turned, what is left without a first part.
-/
set_option linter.unusedSimpArgs false
set_option linter.unusedVariables false
namespace Go.Proofs.Ytofpnmjadflebaa.Agg

theorem comb_unit_left {k : Int} {a : V} (hk : isKind k = true) (ha : ok k a = true) : comb k (unit k) a = a := by
  rcases kinds hk with rfl | rfl | rfl | rfl | rfl | rfl | rfl | rfl | rfl | rfl <;> (simp [ok] at ha; apply V.ext' <;> simp [comb, unit] <;> omega)
theorem comb_unit_right {k : Int} {a : V} (hk : isKind k = true) (ha : ok k a = true) : comb k a (unit k) = a := by
  rcases kinds hk with rfl | rfl | rfl | rfl | rfl | rfl | rfl | rfl | rfl | rfl <;> (simp [ok] at ha; apply V.ext' <;> simp [comb, unit] <;> (repeat' split) <;> first | omega | (simp; omega) | simp_all)

theorem ok_unit {k : Int} (hk : isKind k = true) : ok k (unit k) = true := (small_unit hk).1

theorem add97 (a b : Int) : (a % 97 + b) % 97 = (a + b) % 97 := by omega
theorem add97' (a b : Int) : (a + b % 97) % 97 = (a + b) % 97 := by omega
theorem mul97 (a b : Int) : (a % 97 * b) % 97 = (a * b) % 97 := by rw [Int.mul_emod, Int.emod_emod_of_dvd _ (Int.dvd_refl 97), ← Int.mul_emod]
theorem mul97' (a b : Int) : (a * (b % 97)) % 97 = (a * b) % 97 := by rw [Int.mul_comm, mul97, Int.mul_comm]

theorem assoc8 (a b c : V) : comb 8 (comb 8 a b) c = comb 8 a (comb 8 b c) := by
  apply V.ext' <;> simp [comb]
  · rw [mul97, mul97', Int.mul_assoc]
  · rw [← add97 ((a.y * b.x + b.y) % 97 * c.x) c.y, mul97, add97, ← add97 (a.y * (b.x * c.x % 97)), mul97', add97, Int.add_mul, Int.mul_assoc, Int.add_assoc]

set_option maxHeartbeats 2000000 in
theorem assoc {k : Int} {a b c : V} (hk : isKind k = true) (ha : ok k a = true) (hb : ok k b = true) (hc : ok k c = true) :
    comb k (comb k a b) c = comb k a (comb k b c) := by
  obtain ⟨ax, ay, az⟩ := a
  obtain ⟨bx, by', bz⟩ := b
  obtain ⟨cx, cy, cz⟩ := c
  rcases kinds hk with rfl | rfl | rfl | rfl | rfl | rfl | rfl | rfl | rfl | rfl
  · apply V.ext' <;> simp [comb] <;> omega
  · apply V.ext' <;> simp [comb] <;> omega
  · simp [ok] at ha hb hc; simp only [comb]; apply V.ext' <;> simp <;> (repeat' split) <;> simp_all <;> omega
  · simp [ok] at ha hb hc; simp only [comb]; apply V.ext' <;> simp <;> (repeat' split) <;> simp_all <;> omega
  · simp [ok] at ha hb hc; simp only [comb]; apply V.ext' <;> simp <;> (repeat' split) <;> simp_all <;> omega
  · simp [ok] at ha hb hc; simp only [comb]; apply V.ext' <;> simp <;> (repeat' split) <;> simp_all <;> omega
  · apply V.ext' <;> simp [comb] <;> omega
  · exact assoc8 _ _ _
  · simp [ok] at ha hb hc; simp only [comb]; apply V.ext' <;> simp <;> (repeat' split) <;> simp_all <;> omega
  · simp [ok] at ha hb hc; simp only [comb]; apply V.ext' <;> simp <;> (repeat' split) <;> simp_all <;> omega

theorem commuted {k : Int} {a b : V} (hk : isKind k = true) (hc : comm k = true) (ha : ok k a = true) (hb : ok k b = true) : comb k a b = comb k b a := by
  obtain ⟨ax, ay, az⟩ := a
  obtain ⟨bx, by', bz⟩ := b
  simp only [comm, decide_eq_true_eq] at hc
  obtain rfl | rfl | rfl | rfl | rfl : k = 1 ∨ k = 2 ∨ k = 3 ∨ k = 4 ∨ k = 7 := by omega
  · apply V.ext' <;> simp [comb] <;> omega
  · apply V.ext' <;> simp [comb] <;> omega
  · simp [ok] at ha hb; simp only [comb]; apply V.ext' <;> simp <;> (repeat' split) <;> simp_all <;> omega
  · simp [ok] at ha hb; simp only [comb]; apply V.ext' <;> simp <;> (repeat' split) <;> simp_all <;> omega
  · apply V.ext' <;> simp [comb] <;> omega

/-- Fields that are not great. -/
def few (v : V) : Prop := v.x ≤ 1000 ∧ v.y ≤ 1000 ∧ v.z ≤ 1000
set_option maxHeartbeats 1000000 in
theorem ok_comb_few {k : Int} {a b : V} (hk : isKind k = true) (ha : ok k a = true) (hb : ok k b = true) (fa : few a) (fb : few b) : ok k (comb k a b) = true := by
  obtain ⟨ax, ay, az⟩ := a
  obtain ⟨bx, by', bz⟩ := b
  obtain ⟨fa1, fa2, fa3⟩ := fa
  obtain ⟨fb1, fb2, fb3⟩ := fb
  simp only at fa1 fa2 fa3 fb1 fb2 fb3
  rcases kinds hk with rfl | rfl | rfl | rfl | rfl | rfl | rfl | rfl | rfl | rfl
  · simp [ok, comb] at *; omega
  · simp [ok, comb] at *; omega
  · simp [ok, comb] at *; (repeat' split) <;> simp_all <;> omega
  · simp [ok, comb] at *; (repeat' split) <;> simp_all <;> omega
  · simp [ok, comb] at *; (repeat' split) <;> simp_all <;> omega
  · simp [ok, comb] at *; (repeat' split) <;> simp_all <;> omega
  · simp [ok, comb] at *; omega
  · simp [ok, comb] at *
    have := prod97 ha.1 ha.2.1 hb.1 hb.2.1
    omega
  · simp [ok, comb] at *; (repeat' split) <;> simp_all <;> omega
  · simp [ok, comb] at *; (repeat' split) <;> simp_all <;> omega

theorem small_few {k : Int} {v : V} {m : Int} (hk : isKind k = true) (h : small k v m) (hm : m ≤ 10) (h0 : 0 ≤ m) : few v := by
  obtain ⟨h1, h2, h3, h4⟩ := h
  unfold few
  rcases kinds hk with rfl | rfl | rfl | rfl | rfl | rfl | rfl | rfl | rfl | rfl <;> simp [ok] at * <;> omega

/-- Both orders of two aggregates have an aggregate, or none, if their fields are not great; the same one if the kind commutes. -/
theorem aComb_back {k : Int} {a b : V} (fa : few a) (fb : few b) : (aComb k a b).2 = (aComb k b a).2 ∧ ((isKind k && comm k) = true → aComb k a b = aComb k b a) := by
  by_cases hk : isKind k = true
  · by_cases ha : ok k a = true
    · by_cases hb : ok k b = true
      · have h1 := ok_comb_few hk ha hb fa fb
        have h2 := ok_comb_few hk hb ha fb fa
        refine ⟨by simp [aComb, give, valid, hk, ha, hb, h1, h2], fun hc => ?_⟩
        simp only [Bool.and_eq_true] at hc
        have := commuted hk hc.2 ha hb
        simp [aComb, give, valid, hk, ha, hb, this]
      · simp [aComb, give, valid, hb]
    · simp [aComb, give, valid, ha]
  · simp [aComb, give, valid, hk]

/-! Folds. -/
theorem items_mem {l : List Int} (h : itemsOk l = true) : ∀ x ∈ l, isItem x = true := by
  simp only [itemsOk, Bool.and_eq_true, decide_eq_true_eq, List.all_eq_true] at h; exact h.2
theorem items_of {l : List Int} (h1 : l.length ≤ 60) (h2 : ∀ x ∈ l, isItem x = true) : itemsOk l = true := by
  simp only [itemsOk, Bool.and_eq_true, decide_eq_true_eq, List.all_eq_true]; exact ⟨h1, h2⟩
theorem items_take {l : List Int} (h : itemsOk l = true) (i : Nat) : itemsOk (l.take i) = true :=
  items_of (by have := items_len h; simp; omega) (fun x hx => items_mem h x (List.mem_of_mem_take hx))
theorem items_drop {l : List Int} (h : itemsOk l = true) (i : Nat) : itemsOk (l.drop i) = true :=
  items_of (by have := items_len h; simp; omega) (fun x hx => items_mem h x (List.mem_of_mem_drop hx))
theorem items_rev {l : List Int} (h : itemsOk l = true) : itemsOk l.reverse = true :=
  items_of (by have := items_len h; simp; omega) (fun x hx => items_mem h x (by simpa using hx))
theorem items_rev_eq (l : List Int) : itemsOk l.reverse = itemsOk l := by
  cases h : itemsOk l
  · cases h2 : itemsOk l.reverse
    · rfl
    · have := items_rev h2; simp [h] at this
  · exact items_rev h
theorem ok_fold_all {k : Int} {l : List Int} (hk : isKind k = true) (h : itemsOk l = true) : ok k (fold k l) = true := by
  have := ok_fold hk h l.length (Nat.le_refl _); simpa using this
theorem small_fold_all {k : Int} {l : List Int} (hk : isKind k = true) (h : itemsOk l = true) : small k (fold k l) l.length := by
  have := small_fold hk h l.length (Nat.le_refl _); simpa using this

theorem fold_append {k : Int} (hk : isKind k = true) (l1 l2 : List Int) (h : itemsOk (l1 ++ l2) = true) : fold k (l1 ++ l2) = comb k (fold k l1) (fold k l2) := by
  induction hn : l2.length generalizing l2 with
  | zero =>
    obtain rfl := List.length_eq_zero_iff.1 hn
    have h1 : itemsOk l1 = true := by simpa using h
    rw [List.append_nil, fold_nil, comb_unit_right hk (ok_fold_all hk h1)]
  | succ n ih =>
    have hne : l2 ≠ [] := by intro e; subst e; simp at hn
    obtain ⟨l3, x, rfl⟩ : ∃ l3 x, l2 = l3 ++ [x] := ⟨l2.dropLast, l2.getLast hne, (List.dropLast_concat_getLast hne).symm⟩
    have hlen := items_len h
    have h13 : itemsOk (l1 ++ l3) = true := items_of (by simp at hlen ⊢; omega) (fun y hy => items_mem h y (by simp at hy ⊢; rcases hy with hy | hy <;> simp [hy]))
    have h1 : itemsOk l1 = true := items_of (by simp at hlen ⊢; omega) (fun y hy => items_mem h y (by simp [hy]))
    have h3 : itemsOk l3 = true := items_of (by simp at hlen ⊢; omega) (fun y hy => items_mem h y (by simp [hy]))
    have hx : isItem x = true := items_mem h x (by simp)
    rw [← List.append_assoc, fold_snoc, fold_snoc, ih l3 h13 (by simp at hn; omega)]
    exact assoc hk (ok_fold_all hk h1) (ok_fold_all hk h3) (ok_lift hk hx)

theorem fold_one {k x : Int} (hk : isKind k = true) (hx : isItem x = true) : fold k [x] = lift k x := by
  have := fold_snoc k [] x
  rw [List.nil_append, fold_nil, comb_unit_left hk (ok_lift hk hx)] at this
  exact this

/-- A list's fold is that of its two parts. -/
theorem fold_cut {k : Int} {l : List Int} (hk : isKind k = true) (h : itemsOk l = true) (i : Nat) : comb k (fold k (l.take i)) (fold k (l.drop i)) = fold k l := by
  rw [← fold_append hk _ _ (by rw [List.take_append_drop]; exact h), List.take_append_drop]

theorem aFold_of {k : Int} {l : List Int} (hk : isKind k = true) (h : itemsOk l = true) : aFold k l = (fold k l, true) := by simp [aFold, give, hk, h]
theorem aFold_true {k : Int} {l : List Int} {v : V} (h : aFold k l = (v, true)) : isKind k = true ∧ itemsOk l = true ∧ v = fold k l := by
  unfold aFold give at h
  split at h
  · rename_i hh
    simp only [Bool.and_eq_true] at hh
    simp only [Prod.mk.injEq, and_true] at h
    exact ⟨hh.1, hh.2, h.symm⟩
  · simp at h
theorem aFold_parts {k : Int} {l : List Int} {v : V} (h : aFold k l = (v, true)) (i : Nat) :
    aFold k (l.take i) = (fold k (l.take i), true) ∧ aFold k (l.drop i) = (fold k (l.drop i), true) ∧ aComb k (fold k (l.take i)) (fold k (l.drop i)) = (v, true) := by
  obtain ⟨hk, hi, rfl⟩ := aFold_true h
  refine ⟨aFold_of hk (items_take hi i), aFold_of hk (items_drop hi i), ?_⟩
  simp [aComb, give, valid, hk, ok_fold_all hk (items_take hi i), ok_fold_all hk (items_drop hi i), fold_cut hk hi i, ok_fold_all hk hi]
theorem aFold_valid {k : Int} {l : List Int} {v : V} (h : aFold k l = (v, true)) : valid k v = true := by
  obtain ⟨hk, hi, rfl⟩ := aFold_true h
  simp [valid, hk, ok_fold_all hk hi]

/-- A list backwards has the same fold for kinds that commute. -/
theorem fold_rev {k : Int} (hk : isKind k = true) (hc : comm k = true) : ∀ (l : List Int), itemsOk l = true → fold k l.reverse = fold k l
  | [], _ => rfl
  | x :: l, h => by
    have hl : itemsOk l = true := items_of (by have := items_len h; simp at this; omega) (fun y hy => items_mem h y (by simp [hy]))
    have hx : isItem x = true := items_mem h x (by simp)
    rw [List.reverse_cons, fold_snoc, fold_rev hk hc l hl, commuted hk hc (ok_fold_all hk hl) (ok_lift hk hx), ← fold_one hk hx, ← fold_append hk [x] l h]
    rfl

theorem fold_last {l : List Int} {x : Int} : fold 6 (l ++ [x]) = lift 6 x := by
  rw [fold_snoc]; simp [comb, lift]
theorem fold_first {x : Int} {l : List Int} (h : itemsOk (x :: l) = true) : fold 5 (x :: l) = lift 5 x := by
  have hx : isItem x = true := items_mem h x (by simp)
  have := fold_append (k := 5) (by decide) [x] l h
  rw [show x :: l = [x] ++ l from rfl, this, fold_one (by decide) hx]
  simp [comb, lift]
theorem first_last {l : List Int} (h : itemsOk l = true) : fold 6 l.reverse = fold 5 l := by
  cases l with
  | nil => rfl
  | cons x l => rw [List.reverse_cons, fold_last, fold_first h]; rfl
end Go.Proofs.Ytofpnmjadflebaa.Agg

/-
  Plain mathematics of the laws of chapter 1: what is left without a first part, numbers of folds, rises.
-/
set_option linter.unusedSimpArgs false
set_option linter.unusedVariables false
namespace Go.Proofs.Ytofpnmjadflebaa.Agg

theorem ok_8y {v : V} (h : ok 8 v = true) : 1 ≤ v.x ∧ v.x ≤ 96 ∧ 0 ≤ v.y ∧ v.y ≤ 96 ∧ v.z = 0 := by simpa [ok] using h

theorem sub97 (a b : Int) : (a % 97 - b) % 97 = (a - b) % 97 := by omega
theorem sub97' (a b : Int) : (a - b % 97) % 97 = (a - b) % 97 := by omega
theorem id97 {a : Int} (h0 : 0 ≤ a) (h1 : a ≤ 96) : a % 97 = a := by omega

/-- x times b, and its inverse in front again. -/
theorem inv_mul {x b : Int} (h0 : 1 ≤ x) (h1 : x ≤ 96) (b0 : 0 ≤ b) (b1 : b ≤ 96) : (x * b % 97) * inv x % 97 = b := by
  have h := (inv_spec h0 h1).1
  rw [mul97, Int.mul_comm x b, Int.mul_assoc, ← mul97', h, Int.mul_one, id97 b0 b1]
theorem mul_inv {x b : Int} (h0 : 1 ≤ x) (h1 : x ≤ 96) (b0 : 0 ≤ b) (b1 : b ≤ 96) : x * (b * inv x % 97) % 97 = b := by
  have h := (inv_spec h0 h1).1
  rw [mul97', Int.mul_comm b, ← Int.mul_assoc, ← mul97, h, Int.one_mul, id97 b0 b1]

/-- What is left of a combination without its first part is the second one. -/
theorem rest_comb {k : Int} {a b : V} (hr : removes k = true) (ha : ok k a = true) (hb : ok k b = true) : rest k a (comb k a b) = b := by
  simp only [removes, decide_eq_true_eq] at hr
  obtain ⟨ax, ay, az⟩ := a
  obtain ⟨bx, by', bz⟩ := b
  obtain rfl | rfl | rfl | rfl := hr
  · simp [ok] at ha hb; apply V.ext' <;> simp [comb, rest] <;> omega
  · simp [ok] at ha hb; apply V.ext' <;> simp [comb, rest] <;> omega
  · simp [ok] at ha hb; apply V.ext' <;> simp [comb, rest] <;> omega
  · obtain ⟨a1, a2, a3, a4, a5⟩ := ok_8y ha
    obtain ⟨b1, b2, b3, b4, b5⟩ := ok_8y hb
    simp only at a1 a2 a3 a4 a5 b1 b2 b3 b4 b5
    have e := inv_mul a1 a2 (show 0 ≤ bx by omega) b2
    apply V.ext' <;> simp [comb, rest, e]
    · omega
    · omega

/-- What is left, put behind the first part again. -/
theorem comb_rest {k : Int} {a w : V} (hr : removes k = true) (ha : ok k a = true) (hw : ok k w = true) : comb k a (rest k a w) = w := by
  simp only [removes, decide_eq_true_eq] at hr
  obtain ⟨ax, ay, az⟩ := a
  obtain ⟨bx, by', bz⟩ := w
  obtain rfl | rfl | rfl | rfl := hr
  · simp [ok] at ha hw; apply V.ext' <;> simp [comb, rest] <;> omega
  · simp [ok] at ha hw; apply V.ext' <;> simp [comb, rest] <;> omega
  · simp [ok] at ha hw; apply V.ext' <;> simp [comb, rest] <;> omega
  · obtain ⟨a1, a2, a3, a4, a5⟩ := ok_8y ha
    obtain ⟨b1, b2, b3, b4, b5⟩ := ok_8y hw
    simp only at a1 a2 a3 a4 a5 b1 b2 b3 b4 b5
    have e := mul_inv a1 a2 (show 0 ≤ bx by omega) b2
    apply V.ext' <;> simp [comb, rest, e]
    · omega
    · omega

theorem aRest_true {k : Int} {a w v : V} (h : aRest k a w = (v, true)) : removes k = true ∧ valid k a = true ∧ valid k w = true ∧ ok k v = true ∧ v = rest k a w := by
  unfold aRest give at h
  split at h
  · rename_i hh
    simp only [Bool.and_eq_true] at hh
    simp only [Prod.mk.injEq, and_true] at h
    subst h
    exact ⟨hh.1.2, hh.1.1.1, hh.1.1.2, hh.2, rfl⟩
  · simp at h
/-- What is removed in front can be put back. -/
theorem aRest_back {k : Int} {a w v : V} (h : aRest k a w = (v, true)) : valid k v = true ∧ aComb k a v = (w, true) := by
  obtain ⟨hr, ha, hw, ho, rfl⟩ := aRest_true h
  simp only [valid, Bool.and_eq_true] at ha hw
  have e := comb_rest hr ha.2 hw.2
  refine ⟨by simp [valid, ha.1, ho], ?_⟩
  simp [aComb, give, valid, ha.1, ha.2, ho, e, hw.2]

/-- Without its first items, a list has the aggregate of the others. -/
theorem aRest_items {k : Int} {l : List Int} {v : V} (h : aFold k l = (v, true)) (i : Nat) (hr : removes k = true) : aRest k (fold k (l.take i)) v = (fold k (l.drop i), true) := by
  obtain ⟨hk, hi, rfl⟩ := aFold_true h
  have h1 := ok_fold_all hk (items_take hi i)
  have h2 := ok_fold_all hk (items_drop hi i)
  have h3 := ok_fold_all hk hi
  have e := rest_comb hr h1 h2
  rw [fold_cut hk hi i] at e
  simp [aRest, give, valid, hk, h1, h2, h3, hr, e]
theorem aRest_none {k : Int} {a w : V} (hr : removes k = false) : aRest k a w = (zero, false) := by simp [aRest, give, hr]

/-! Numbers. -/
/-- What a fold of the kinds 3 to 6, 10 and 2 says of its list. -/
theorem pick_mem {k : Int} (hk : 3 ≤ k ∧ k ≤ 6) (l : List Int) (h : itemsOk l = true) : fold k l = ⟨0, 0, 0⟩ ∧ l = [] ∨ ∃ x, x ∈ l ∧ fold k l = ⟨x, 1, 0⟩ := by
  induction hn : l.length generalizing l with
  | zero =>
    obtain rfl := List.length_eq_zero_iff.1 hn
    refine .inl ⟨?_, rfl⟩
    rw [fold_nil, unit, if_neg (by omega)]
  | succ n ih =>
    have hne : l ≠ [] := by intro e; subst e; simp at hn
    obtain ⟨l3, x, rfl⟩ : ∃ l3 x, l = l3 ++ [x] := ⟨l.dropLast, l.getLast hne, (List.dropLast_concat_getLast hne).symm⟩
    have hlen := items_len h
    have h3 : itemsOk l3 = true := items_of (by simp at hlen ⊢; omega) (fun y hy => items_mem h y (by simp [hy]))
    right
    rw [fold_snoc]
    have hl : lift k x = ⟨x, 1, 0⟩ := by simp only [lift]; (repeat' split) <;> first | omega | rfl
    rw [hl]
    rcases ih l3 h3 (by simp at hn; omega) with ⟨e, -⟩ | ⟨y, hy, e⟩
    · refine ⟨x, by simp, ?_⟩
      rw [e]; obtain rfl | rfl | rfl | rfl : k = 3 ∨ k = 4 ∨ k = 5 ∨ k = 6 := by omega
      all_goals simp [comb]
    · rw [e]
      have : comb k ⟨y, 1, 0⟩ ⟨x, 1, 0⟩ = ⟨y, 1, 0⟩ ∨ comb k ⟨y, 1, 0⟩ ⟨x, 1, 0⟩ = ⟨x, 1, 0⟩ := by
        obtain rfl | rfl | rfl | rfl : k = 3 ∨ k = 4 ∨ k = 5 ∨ k = 6 := by omega
        all_goals (simp [comb] <;> omega)
      rcases this with e2 | e2
      · exact ⟨y, by simp [hy], e2⟩
      · exact ⟨x, by simp, e2⟩

theorem place_at (l : List Int) (h : itemsOk l = true) : (fold 10 l).z = l.length ∧ (l = [] ∨ (0 ≤ (fold 10 l).y ∧ (fold 10 l).y < l.length ∧ l[(fold 10 l).y.toNat]? = some (fold 10 l).x)) := by
  induction hn : l.length generalizing l with
  | zero =>
    obtain rfl := List.length_eq_zero_iff.1 hn
    exact ⟨by simp [fold_nil, unit], .inl rfl⟩
  | succ n ih =>
    have hne : l ≠ [] := by intro e; subst e; simp at hn
    obtain ⟨l3, x, rfl⟩ : ∃ l3 x, l = l3 ++ [x] := ⟨l.dropLast, l.getLast hne, (List.dropLast_concat_getLast hne).symm⟩
    have hlen := items_len h
    have h3 : itemsOk l3 = true := items_of (by simp at hlen ⊢; omega) (fun y hy => items_mem h y (by simp [hy]))
    have hn3 : l3.length = n := by simpa using hn
    obtain ⟨hz, hp⟩ := ih l3 h3 hn3
    rw [fold_snoc]
    obtain ⟨F, hF⟩ : ∃ F, F = fold 10 l3 := ⟨_, rfl⟩
    rw [← hF] at hz hp ⊢
    by_cases h0 : n = 0
    · obtain rfl := List.length_eq_zero_iff.1 (show l3.length = 0 by omega)
      have : F.z = 0 := by omega
      refine ⟨by simp [comb, lift, this] <;> omega, .inr ?_⟩
      simp [comb, lift, this] <;> omega
    · rcases hp with hp | ⟨p0, p1, p2⟩
      · subst hp; simp at hn3; omega
      · have hz0 : F.z ≠ 0 := by omega
        by_cases hx : F.x < x
        · refine ⟨by simp [comb, lift, hz0, hx] <;> omega, .inr ?_⟩
          simp [comb, lift, hz0, hx, hz, h0]
          rw [← hn3]; simp <;> omega
        · refine ⟨by simp [comb, lift, hz0, hx] <;> omega, .inr ?_⟩
          simp [comb, lift, hz0, hx]
          refine ⟨p0, by omega, ?_⟩
          rw [List.getElem?_append_left (by omega)]
          exact p2

theorem count_len (l : List Int) : fold 2 l = ⟨l.length, 0, 0⟩ := by
  induction hn : l.length generalizing l with
  | zero => obtain rfl := List.length_eq_zero_iff.1 hn; rfl
  | succ n ih =>
    have hne : l ≠ [] := by intro e; subst e; simp at hn
    obtain ⟨l3, x, rfl⟩ : ∃ l3 x, l = l3 ++ [x] := ⟨l.dropLast, l.getLast hne, (List.dropLast_concat_getLast hne).symm⟩
    rw [fold_snoc, ih l3 (by simpa using hn)]
    simp [comb, lift]

/-! Rises. -/
/-- How many of the items 1 to i of a list are greater than the one before. -/
def rises (l : List Int) : Nat → Int
  | 0 => 0
  | i + 1 => rises l i + if i + 1 < l.length ∧ l[i]?.getD 0 < l[i + 1]?.getD 0 then 1 else 0
theorem rises_bounds (l : List Int) : ∀ i, 0 ≤ rises l i ∧ rises l i ≤ i
  | 0 => by simp [rises]
  | i + 1 => by have := rises_bounds l i; simp only [rises]; split <;> omega
theorem rise_take (l : List Int) (h : itemsOk l = true) (hn : l ≠ []) : ∀ i, i < l.length → fold 9 (l.take (i + 1)) = ⟨l[0]?.getD 0, l[i]?.getD 0, 1 + rises l i⟩
  | 0, hi => by
    rw [fold_take 9 l 0 hi]
    simp [fold_nil, unit, comb, lift, rises]
  | i + 1, hi => by
    rw [fold_take 9 l (i + 1) hi, rise_take l h hn i (by omega)]
    have hb := rises_bounds l i
    have h1 : (1 : Int) + rises l i ≠ 0 := by omega
    simp only [comb, lift, rises]
    simp [h1, hi]
    split <;> omega
theorem rise_all (l : List Int) (h : itemsOk l = true) (hn : l ≠ []) : fold 9 l = ⟨l[0]?.getD 0, l[l.length - 1]?.getD 0, 1 + rises l (l.length - 1)⟩ := by
  have hp : 0 < l.length := List.length_pos_iff.2 hn
  have := rise_take l h hn (l.length - 1) (by omega)
  rw [show l.length - 1 + 1 = l.length by omega, List.take_length] at this
  exact this
end Go.Proofs.Ytofpnmjadflebaa.Agg

/-
  Plain mathematics of windows: changes that are valid, and the window after some of them.
-/
set_option linter.unusedSimpArgs false
set_option linter.unusedVariables false
namespace Go.Proofs.Ytofpnmjadflebaa.Agg

/-- A change that is one: an item is pushed, or nothing besides. -/
def opOk (o : Bool × Int) : Bool := if o.1 then isItem o.2 else decide (o.2 = 0)
/-- The window after a change. -/
def stepW (w : List Int) (o : Bool × Int) : List Int := if o.1 then w ++ [o.2] else w.tail
/-- Whether a change can be made of a window. -/
def fits (w : List Int) (o : Bool × Int) : Bool := if o.1 then decide (w.length < 60) else decide (0 < w.length)
def opAt (l : List (Bool × Int)) (i : Nat) : Bool × Int := l[i]?.getD (false, 0)
/-- The window after the first i changes. -/
def winAt (l : List (Bool × Int)) : Nat → List Int
  | 0 => []
  | i + 1 => stepW (winAt l i) (opAt l i)
def allOk (l : List (Bool × Int)) : Nat → Bool
  | 0 => true
  | i + 1 => allOk l i && opOk (opAt l i)
def fitTo (l : List (Bool × Int)) : Nat → Bool
  | 0 => true
  | i + 1 => fitTo l i && fits (winAt l i) (opAt l i)
/-- Changes are valid. -/
def opsOk (l : List (Bool × Int)) : Bool := decide (l.length ≤ 200) && allOk l l.length && fitTo l l.length

theorem allOk_down {l : List (Bool × Int)} : ∀ {n i : Nat}, i ≤ n → allOk l n = true → allOk l i = true
  | 0, i, hi, h => by obtain rfl : i = 0 := by omega
                      exact h
  | n + 1, i, hi, h => by
    by_cases e : i = n + 1
    · subst e; exact h
    · simp only [allOk, Bool.and_eq_true] at h
      exact allOk_down (by omega) h.1
theorem fitTo_down {l : List (Bool × Int)} : ∀ {n i : Nat}, i ≤ n → fitTo l n = true → fitTo l i = true
  | 0, i, hi, h => by obtain rfl : i = 0 := by omega
                      exact h
  | n + 1, i, hi, h => by
    by_cases e : i = n + 1
    · subst e; exact h
    · simp only [fitTo, Bool.and_eq_true] at h
      exact fitTo_down (by omega) h.1
theorem opOk_at {l : List (Bool × Int)} {n i : Nat} (hi : i < n) (h : allOk l n = true) : opOk (opAt l i) = true := by
  have := allOk_down (i := i + 1) (by omega) h
  simp only [allOk, Bool.and_eq_true] at this
  exact this.2
theorem fits_at {l : List (Bool × Int)} {n i : Nat} (hi : i < n) (h : fitTo l n = true) : fits (winAt l i) (opAt l i) = true := by
  have := fitTo_down (i := i + 1) (by omega) h
  simp only [fitTo, Bool.and_eq_true] at this
  exact this.2
theorem win_len {l : List (Bool × Int)} : ∀ i, fitTo l i = true → (winAt l i).length ≤ 60
  | 0, _ => by simp [winAt]
  | i + 1, h => by
    simp only [fitTo, Bool.and_eq_true] at h
    have := win_len i h.1
    have h2 := h.2
    simp only [fits] at h2
    simp only [winAt, stepW]
    split
    · rename_i hp; rw [if_pos hp] at h2; simp only [decide_eq_true_eq] at h2; simp; omega
    · simp; omega
theorem opsOk_false_all {l : List (Bool × Int)} {i : Nat} (hi : i ≤ l.length) (h : allOk l i = false) : opsOk l = false := by
  cases h2 : allOk l l.length
  · simp [opsOk, h2]
  · have := allOk_down hi h2; simp [h] at this
theorem opsOk_false_fit {l : List (Bool × Int)} {i : Nat} (hi : i ≤ l.length) (h : fitTo l i = false) : opsOk l = false := by
  cases h2 : fitTo l l.length
  · simp [opsOk, h2]
  · have := fitTo_down hi h2; simp [h] at this
theorem win_items {l : List (Bool × Int)} : ∀ i, allOk l i = true → ∀ x ∈ winAt l i, isItem x = true
  | 0, _, x, hx => by simp [winAt] at hx
  | i + 1, h, x, hx => by
    simp only [allOk, Bool.and_eq_true] at h
    have ih := win_items i h.1
    have h2 := h.2
    simp only [opOk] at h2
    simp only [winAt, stepW] at hx
    split at hx
    · rename_i hp
      rw [if_pos hp] at h2
      rcases List.mem_append.1 hx with hx | hx
      · exact ih x hx
      · rw [List.mem_singleton.1 hx]; exact h2
    · exact ih x (List.mem_of_mem_tail hx)
/-- A change that a window of a size can take. -/
def can (o : Bool × Int) (n : Int) : Bool := opOk o && (if o.1 then decide (n < 60) else decide (0 < n))
end Go.Proofs.Ytofpnmjadflebaa.Agg

/-
  Plain mathematics of two stacks: valid ones, their changes, their aggregate; what they stand for after changes; what the changes cost.
-/
set_option linter.unusedSimpArgs false
set_option linter.unusedVariables false
namespace Go.Proofs.Ytofpnmjadflebaa.Agg

/-- Two stacks. -/
structure S where
  front : List V
  items : List Int
  back : V
  flips : Int
  cost : Int
theorem S.ext' {a b : S} (h1 : a.front = b.front) (h2 : a.items = b.items) (h3 : a.back = b.back) (h4 : a.flips = b.flips) (h5 : a.cost = b.cost) : a = b := by
  cases a; cases b; simp_all
def zeroS : S := ⟨[], [], zero, 0, 0⟩
def startS (k : Int) : S := ⟨[], [], unit k, 0, 0⟩
def S.size (s : S) : Nat := s.front.length + s.items.length
/-- Stacks that are valid. -/
def sOk (k : Int) (s : S) : Bool :=
  isKind k && decide (0 ≤ s.flips ∧ s.flips ≤ 1000000) && decide (0 ≤ s.cost ∧ s.cost ≤ 1000000) && decide (s.size ≤ 60) && s.front.all (ok k) && itemsOk s.items && decide (s.back = fold k s.items)
/-- The aggregate of the last j items. -/
def sufAt (k : Int) (l : List Int) (j : Nat) : V := fold k (l.drop (l.length - j))
def sufs (k : Int) (l : List Int) (n : Nat) : List V := (List.range n).map fun i => sufAt k l (i + 1)
def flipS (k : Int) (s : S) : S := ⟨sufs k s.items s.items.length, [], unit k, s.flips + 1, s.cost + s.items.length⟩
def pushS (k : Int) (s : S) (x : Int) : S := ⟨s.front, s.items ++ [x], comb k s.back (lift k x), s.flips, s.cost + 1⟩
def readyS (k : Int) (s : S) : S := if s.front.length = 0 then flipS k s else s
def popS (s : S) : S := ⟨s.front.take (s.front.length - 1), s.items, s.back, s.flips, s.cost⟩
def stepS (k : Int) (s : S) (o : Bool × Int) : S := if o.1 then pushS k s o.2 else popS (readyS k s)
def stepOk (k : Int) (s : S) (o : Bool × Int) : Bool := sOk k s && decide (s.flips ≤ 900000) && decide (s.cost ≤ 900000) && can o s.size
def aStep (k : Int) (s : S) (o : Bool × Int) : S := if stepOk k s o then stepS k s o else zeroS
def valS (k : Int) (s : S) : V := if s.front.length = 0 then s.back else comb k (s.front[s.front.length - 1]?.getD zero) s.back
def aValS (k : Int) (s : S) : V × Bool := give (sOk k s && ok k (valS k s)) (valS k s)
/-- The stacks after j changes. -/
def stAt (k : Int) (l : List (Bool × Int)) : Nat → S
  | 0 => startS k
  | j + 1 => stepS k (stAt k l j) (opAt l j)

theorem sufs_length (k : Int) (l : List Int) (n : Nat) : (sufs k l n).length = n := by simp [sufs]
theorem suf_zero (k : Int) (l : List Int) : sufAt k l 0 = unit k := by simp [sufAt, fold_nil]
theorem suf_step {k : Int} {l : List Int} (hk : isKind k = true) (h : itemsOk l = true) {j : Nat} (hj : j < l.length) :
    comb k (lift k (l[l.length - 1 - j]?.getD 0)) (sufAt k l j) = sufAt k l (j + 1) := by
  have e : l.drop (l.length - (j + 1)) = [l[l.length - 1 - j]?.getD 0] ++ l.drop (l.length - j) := by
    rw [List.drop_eq_getElem_cons (by omega)]
    have e1 : l.length - (j + 1) + 1 = l.length - j := by omega
    have e2 : l.length - (j + 1) = l.length - 1 - j := by omega
    rw [e1]
    simp [show l.length - 1 - j < l.length by omega, e2]
  have hx := item_at h (i := l.length - 1 - j) (by omega)
  unfold sufAt
  rw [e, fold_append hk _ _ (by rw [← e]; exact items_drop h _), fold_one hk hx]
theorem ok_suf {k : Int} {l : List Int} (hk : isKind k = true) (h : itemsOk l = true) (j : Nat) : ok k (sufAt k l j) = true :=
  ok_fold_all hk (items_drop h _)
theorem sufs_snoc (k : Int) (l : List Int) (j : Nat) : sufs k l (j + 1) = sufs k l j ++ [sufAt k l (j + 1)] := by simp [sufs, List.range_succ]
theorem suf_all (k : Int) (l : List Int) : sufAt k l l.length = fold k l := by simp [sufAt]
theorem suf_tail (k : Int) (l : List Int) (j : Nat) (h : j < l.length) : sufAt k l.tail j = sufAt k l j := by
  unfold sufAt
  congr 1
  rw [← List.drop_one, List.drop_drop, List.length_drop]
  congr 1
  omega
theorem sufs_tail (k : Int) (l : List Int) : (sufs k l l.length).take ((sufs k l l.length).length - 1) = sufs k l.tail l.tail.length := by
  rw [sufs_length, List.length_tail]
  cases h : l.length - 1 with
  | zero => simp [sufs]
  | succ m =>
    rw [← h]
    unfold sufs
    rw [← List.map_take, List.take_range]
    rw [Nat.min_eq_left (by omega)]
    apply List.map_congr_left
    intro i hi
    have := List.mem_range.1 hi
    exact (suf_tail k l (i + 1) (by omega)).symm

/-- The stacks stand for this window. -/
def Stands (k : Int) (w : List Int) (s : S) : Prop := ∃ f, w = f ++ s.items ∧ s.front = sufs k f f.length ∧ s.back = fold k s.items
theorem Stands.start (k : Int) : Stands k [] (startS k) := ⟨[], rfl, rfl, rfl⟩
theorem Stands.size {k : Int} {w : List Int} {s : S} (h : Stands k w s) : s.size = w.length := by
  obtain ⟨f, rfl, hf, -⟩ := h
  simp [S.size, hf, sufs_length]
theorem Stands.step {k : Int} {w : List Int} {s : S} {o : Bool × Int} (hk : isKind k = true) (h : Stands k w s) (hf : fits w o = true) : Stands k (stepW w o) (stepS k s o) := by
  obtain ⟨p, x⟩ := o
  obtain ⟨f, hw, hfr, hb⟩ := h
  cases p
  · simp only [fits, Bool.false_eq_true, if_false, decide_eq_true_eq] at hf
    simp only [stepW, stepS, Bool.false_eq_true, if_false, readyS]
    by_cases h0 : s.front.length = 0
    · rw [if_pos h0]
      have hf0 : f = [] := List.eq_nil_of_length_eq_zero (by rw [hfr, sufs_length] at h0; exact h0)
      subst hf0
      simp only [List.nil_append] at hw
      refine ⟨s.items.tail, ?_, ?_, rfl⟩
      · simp [popS, flipS, hw]
      · simp only [popS, flipS]
        exact sufs_tail k s.items
    · rw [if_neg h0]
      rw [hfr, sufs_length] at h0
      refine ⟨f.tail, ?_, ?_, hb⟩
      · rw [hw]
        cases f with
        | nil => simp at h0
        | cons y f => simp [popS]
      · simp only [popS]
        rw [hfr]
        exact sufs_tail k f
  · simp only [stepW, stepS, if_true, pushS]
    exact ⟨f, by rw [hw, List.append_assoc], hfr, by rw [hb, fold_snoc]⟩
theorem Stands.value {k : Int} {w : List Int} {s : S} (hk : isKind k = true) (hi : itemsOk w = true) (h : Stands k w s) : valS k s = fold k w := by
  obtain ⟨f, rfl, hfr, hb⟩ := h
  unfold valS
  by_cases h0 : s.front.length = 0
  · rw [if_pos h0]
    have hf0 : f = [] := List.eq_nil_of_length_eq_zero (by rw [hfr, sufs_length] at h0; exact h0)
    subst hf0
    simpa using hb
  · rw [if_neg h0]
    rw [hfr, sufs_length] at h0
    have e : s.front[s.front.length - 1]?.getD zero = fold k f := by
      rw [hfr, sufs_length]
      have : f.length - 1 + 1 = f.length := by omega
      simp [sufs, show f.length - 1 < f.length by omega, this, suf_all]
    rw [e, hb, fold_append hk f s.items hi]
theorem itemsOk_left {a b : List Int} (h : itemsOk (a ++ b) = true) : itemsOk a = true := by
  have := items_take h a.length
  simpa using this
theorem itemsOk_right {a b : List Int} (h : itemsOk (a ++ b) = true) : itemsOk b = true := by
  have := items_drop h a.length
  simpa using this
theorem Stands.valid {k : Int} {w : List Int} {s : S} (hk : isKind k = true) (hi : itemsOk w = true) (h : Stands k w s) (h0 : 0 ≤ s.flips) (h1 : s.flips ≤ 1000000) (h2 : 0 ≤ s.cost) (h3 : s.cost ≤ 1000000) : sOk k s = true := by
  have hs := h.size
  obtain ⟨f, rfl, hfr, hb⟩ := h
  have hl := items_len hi
  have hf := itemsOk_left hi
  simp only [sOk, Bool.and_eq_true, decide_eq_true_eq]
  refine ⟨⟨⟨⟨⟨⟨hk, h0, h1⟩, h2, h3⟩, by omega⟩, ?_⟩, itemsOk_right hi⟩, hb⟩
  rw [List.all_eq_true]
  intro v hv
  rw [hfr] at hv
  simp only [sufs, List.mem_map] at hv
  obtain ⟨i, -, rfl⟩ := hv
  exact ok_suf hk hf _

/-- How many of the first j changes push. -/
def pushes (l : List (Bool × Int)) : Nat → Nat
  | 0 => 0
  | j + 1 => pushes l j + (if (opAt l j).1 then 1 else 0)
theorem pushes_le (l : List (Bool × Int)) : ∀ j, pushes l j ≤ j
  | 0 => Nat.le_refl _
  | j + 1 => by have := pushes_le l j; simp only [pushes]; split <;> omega
theorem cost_step {k : Int} {s : S} {o : Bool × Int} {j p : Nat} (h0 : 0 ≤ s.flips) (h1 : s.flips + p ≤ j) (h2 : p ≤ s.cost) (h3 : s.cost + s.items.length ≤ 2 * p) :
    0 ≤ (stepS k s o).flips ∧ (stepS k s o).flips + (p + (if o.1 then 1 else 0) : Nat) ≤ (j + 1 : Nat) ∧ ((p + (if o.1 then 1 else 0) : Nat) : Int) ≤ (stepS k s o).cost ∧ (stepS k s o).cost + (stepS k s o).items.length ≤ 2 * (p + (if o.1 then 1 else 0) : Nat) := by
  obtain ⟨q, x⟩ := o
  cases q
  · simp only [stepS, Bool.false_eq_true, if_false, readyS, popS]
    split
    · simp [flipS]; omega
    · simp; omega
  · simp only [stepS, if_true, pushS]
    simp
    omega
theorem cost_at (k : Int) (l : List (Bool × Int)) : ∀ j, 0 ≤ (stAt k l j).flips ∧ (stAt k l j).flips + (pushes l j : Nat) ≤ (j : Nat) ∧ ((pushes l j : Nat) : Int) ≤ (stAt k l j).cost ∧ (stAt k l j).cost + (stAt k l j).items.length ≤ 2 * (pushes l j : Nat)
  | 0 => by simp [stAt, startS, pushes]
  | j + 1 => by
    obtain ⟨h0, h1, h2, h3⟩ := cost_at k l j
    exact cost_step h0 h1 h2 h3
theorem stands_at {k : Int} {l : List (Bool × Int)} (hk : isKind k = true) : ∀ j, fitTo l j = true → Stands k (winAt l j) (stAt k l j)
  | 0, _ => Stands.start k
  | j + 1, h => by
    simp only [fitTo, Bool.and_eq_true] at h
    exact (stands_at hk j h.1).step hk h.2
theorem items_at {l : List (Bool × Int)} {j : Nat} (ha : allOk l j = true) (hf : fitTo l j = true) : itemsOk (winAt l j) = true :=
  items_of (win_len j hf) (win_items j ha)
theorem can_of {w : List Int} {o : Bool × Int} {n : Nat} (ho : opOk o = true) (hf : fits w o = true) (hn : n = w.length) : can o (n : Int) = true := by
  subst hn
  obtain ⟨p, x⟩ := o
  cases p
  · simp only [fits, Bool.false_eq_true, if_false, decide_eq_true_eq] at hf
    simp [can, ho]; omega
  · simp only [fits, if_true, decide_eq_true_eq] at hf
    simp [can, ho]; omega
/-- Each step of a run can be made, and has an aggregate. -/
theorem run_step {k : Int} {l : List (Bool × Int)} (hk : isKind k = true) {n j : Nat} (hn : n ≤ 200) (ha : allOk l n = true) (hf : fitTo l n = true) (hj : j < n) :
    stepOk k (stAt k l j) (opAt l j) = true ∧ sOk k (stAt k l (j + 1)) = true ∧ valS k (stAt k l (j + 1)) = fold k (winAt l (j + 1)) ∧ ok k (valS k (stAt k l (j + 1))) = true := by
  have fj := fitTo_down (i := j) (by omega) hf
  have aj := allOk_down (i := j) (by omega) ha
  have fj1 := fitTo_down (i := j + 1) (by omega) hf
  have aj1 := allOk_down (i := j + 1) (by omega) ha
  have sj := stands_at hk j fj
  have sj1 := stands_at hk (j + 1) fj1
  have ij := items_at aj fj
  have ij1 := items_at aj1 fj1
  obtain ⟨c0, c1, c2, c3⟩ := cost_at k l j
  obtain ⟨d0, d1, d2, d3⟩ := cost_at k l (j + 1)
  have hp := pushes_le l j
  have hp1 := pushes_le l (j + 1)
  have ho := opOk_at hj ha
  have hfi := fits_at hj hf
  have v1 := sj.valid hk ij c0 (by omega) (by omega) (by omega)
  have v2 := sj1.valid hk ij1 d0 (by omega) (by omega) (by omega)
  have ev := sj1.value hk ij1
  refine ⟨?_, v2, ev, by rw [ev]; exact ok_fold_all hk ij1⟩
  simp only [stepOk, Bool.and_eq_true, decide_eq_true_eq]
  exact ⟨⟨⟨v1, by omega⟩, by omega⟩, can_of ho hfi sj.size⟩
end Go.Proofs.Ytofpnmjadflebaa.Agg

/-
  Plain mathematics of windows with an inverse, and of deques: valid ones, and their changes.
-/
set_option linter.unusedSimpArgs false
set_option linter.unusedVariables false
namespace Go.Proofs.Ytofpnmjadflebaa.Agg

theorem removes_kind {k : Int} (h : removes k = true) : isKind k = true := by
  simp only [removes, decide_eq_true_eq] at h
  simp only [isKind, decide_eq_true_eq]
  omega
/-- A window with an inverse. -/
structure Iv where
  items : List Int
  agg : V
def zeroIv : Iv := ⟨[], zero⟩
def ivOk (k : Int) (w : Iv) : Bool := removes k && itemsOk w.items && decide (w.agg = fold k w.items)
def ivStep (k : Int) (l : List Int) (o : Bool × Int) : Iv := ⟨stepW l o, fold k (stepW l o)⟩
def ivCan (k : Int) (w : Iv) (o : Bool × Int) : Bool := ivOk k w && can o w.items.length
def aIv (k : Int) (w : Iv) (o : Bool × Int) : Iv := if ivCan k w o then ivStep k w.items o else zeroIv
theorem ivOk_parts {k : Int} {w : Iv} (h : ivOk k w = true) : removes k = true ∧ isKind k = true ∧ itemsOk w.items = true ∧ w.agg = fold k w.items ∧ ok k w.agg = true := by
  simp only [ivOk, Bool.and_eq_true, decide_eq_true_eq] at h
  have hk := removes_kind h.1.1
  exact ⟨h.1.1, hk, h.1.2, h.2, by rw [h.2]; exact ok_fold_all hk h.1.2⟩
theorem can_push {x n : Int} (h : can (true, x) n = true) : isItem x = true ∧ n < 60 := by
  simpa [can, opOk] using h
theorem can_pop {x n : Int} (h : can (false, x) n = true) : x = 0 ∧ 0 < n := by
  simpa [can, opOk] using h
/-- A push combines with the item's aggregate. -/
theorem iv_push (k : Int) (l : List Int) (x : Int) : comb k (fold k l) (lift k x) = fold k (l ++ [x]) := (fold_snoc k l x).symm
/-- The first item is removed. -/
theorem iv_pop {k x : Int} {l : List Int} (hr : removes k = true) (h : itemsOk (x :: l) = true) : aRest k (lift k x) (fold k (x :: l)) = (fold k l, true) ∧ rest k (lift k x) (fold k (x :: l)) = fold k l := by
  have hk := removes_kind hr
  have hx : isItem x = true := items_mem h x (by simp)
  have hl : itemsOk l = true := by have := items_drop h 1; simpa using this
  have e : fold k (x :: l) = comb k (lift k x) (fold k l) := by
    have := fold_append hk [x] l (by simpa using h)
    rw [fold_one hk hx] at this
    simpa using this
  have o1 := ok_lift hk hx
  have o2 := ok_fold_all hk hl
  have hr2 : rest k (lift k x) (fold k (x :: l)) = fold k l := by rw [e]; exact rest_comb hr o1 o2
  refine ⟨?_, hr2⟩
  have o3 := ok_fold_all hk h
  simp only [aRest, hr2, give, valid, hk, hr, o1, o2, o3, Bool.and_self, if_true]
theorem stepW_ok {l : List Int} {o : Bool × Int} (h : itemsOk l = true) (hc : can o l.length = true) : itemsOk (stepW l o) = true := by
  obtain ⟨p, x⟩ := o
  cases p
  · have := items_drop h 1
    simpa [stepW] using this
  · obtain ⟨hx, hn⟩ := can_push hc
    refine items_of ?_ ?_
    · simp [stepW]; omega
    · intro y hy
      simp only [stepW, if_true, List.mem_append, List.mem_singleton] at hy
      rcases hy with hy | rfl
      · exact items_mem h y hy
      · exact hx

/-- A deque. -/
structure Dq where
  items : List Int
  places : List Int
  first : Int
  next : Int
  drops : Int
def zeroDq : Dq := ⟨[], [], 0, 0, 0⟩
def isOrd (k : Int) : Bool := decide (k = 3 ∨ k = 4)
/-- An item that came before another one can't be asked for any more. -/
def before (k old item : Int) : Bool := (decide (k = 3) && decide (item < old)) || (decide (k = 4) && decide (old < item))
/-- The place ahead of the i-th one. -/
def prevAt (first : Int) (places : List Int) : Nat → Int
  | 0 => first - 1
  | i + 1 => places[i]?.getD 0
def ascTo (first : Int) (places : List Int) : Nat → Bool
  | 0 => true
  | i + 1 => ascTo first places i && decide (prevAt first places i < places[i]?.getD 0)
/-- No item hides the one before it, up to the i-th. -/
def ordTo (k : Int) (items : List Int) : Nat → Bool
  | 0 => true
  | i + 1 => ordTo k items i && (if i = 0 then true else !before k (items[i - 1]?.getD 0) (items[i]?.getD 0))
def dqRange (first next drops : Int) : Bool := decide (0 ≤ first ∧ first ≤ 1000000 ∧ 0 ≤ next ∧ next ≤ 1000000 ∧ 0 ≤ drops ∧ drops ≤ 1000000) && decide (0 ≤ next - first ∧ next - first ≤ 60)
def keepsLast (first next : Int) (places : List Int) : Bool := ascTo first places places.length && decide (prevAt first places places.length = next - 1)
def dqOk (k : Int) (d : Dq) : Bool :=
  isOrd k && itemsOk d.items && decide (d.places.length = d.items.length) && dqRange d.first d.next d.drops && keepsLast d.first d.next d.places && ordTo k d.items d.items.length
/-- How many of the first n items a push keeps. -/
def keepN (k : Int) (items : List Int) (x : Int) : Nat → Nat
  | 0 => 0
  | n + 1 => if before k (items[n]?.getD 0) x then keepN k items x n else n + 1
theorem keepN_le (k : Int) (items : List Int) (x : Int) : ∀ n, keepN k items x n ≤ n
  | 0 => Nat.le_refl _
  | n + 1 => by
    simp only [keepN]
    split
    · have := keepN_le k items x n; omega
    · exact Nat.le_refl _
def pushD (k : Int) (d : Dq) (x : Int) : Dq :=
  ⟨d.items.take (keepN k d.items x d.items.length) ++ [x], d.places.take (keepN k d.items x d.items.length) ++ [d.next], d.first, d.next + 1, d.drops + ((d.items.length : Int) - (keepN k d.items x d.items.length : Nat))⟩
def popD (d : Dq) : Dq :=
  if d.places[0]?.getD 0 = d.first then ⟨d.items.tail, d.places.tail, d.first + 1, d.next, d.drops⟩ else ⟨d.items, d.places, d.first + 1, d.next, d.drops⟩
def stepD (k : Int) (d : Dq) (o : Bool × Int) : Dq := if o.1 then pushD k d o.2 else popD d
def dqCan (k : Int) (d : Dq) (o : Bool × Int) : Bool := dqOk k d && decide (d.next ≤ 900000) && decide (d.drops ≤ 900000) && can o (d.next - d.first)
def aDq (k : Int) (d : Dq) (o : Bool × Int) : Dq := if dqCan k d o then stepD k d o else zeroDq
def aDqNum (k : Int) (d : Dq) : Int × Bool := if dqOk k d && decide (0 < d.items.length) then (d.items[0]?.getD 0, true) else (0, false)

theorem ascTo_down {f : Int} {p : List Int} : ∀ {n i : Nat}, i ≤ n → ascTo f p n = true → ascTo f p i = true
  | 0, i, hi, h => by obtain rfl : i = 0 := by omega
                      exact h
  | n + 1, i, hi, h => by
    by_cases e : i = n + 1
    · subst e; exact h
    · simp only [ascTo, Bool.and_eq_true] at h
      exact ascTo_down (by omega) h.1
theorem ordTo_down {k : Int} {l : List Int} : ∀ {n i : Nat}, i ≤ n → ordTo k l n = true → ordTo k l i = true
  | 0, i, hi, h => by obtain rfl : i = 0 := by omega
                      exact h
  | n + 1, i, hi, h => by
    by_cases e : i = n + 1
    · subst e; exact h
    · simp only [ordTo, Bool.and_eq_true] at h
      exact ordTo_down (by omega) h.1
theorem ascTo_at {f : Int} {p : List Int} {n i : Nat} (hi : i < n) (h : ascTo f p n = true) : prevAt f p i < p[i]?.getD 0 := by
  have := ascTo_down (i := i + 1) (by omega) h
  simp only [ascTo, Bool.and_eq_true, decide_eq_true_eq] at this
  exact this.2
/-- Places that ascend stay between. -/
theorem ascTo_lt {f : Int} {p : List Int} {n : Nat} (h : ascTo f p n = true) : ∀ {j i : Nat}, j ≤ n → i < j → p[i]?.getD 0 ≤ prevAt f p j
  | 0, i, hj, hi => by omega
  | j + 1, i, hj, hi => by
    by_cases e : i = j
    · subst e; exact Int.le_refl _
    · have h1 := ascTo_lt h (j := j) (i := i) (by omega) (by omega)
      have h2 := ascTo_at (i := j) (by omega) h
      simp only [prevAt]
      omega
theorem ascTo_ge {f : Int} {p : List Int} {n : Nat} (h : ascTo f p n = true) : ∀ {i : Nat}, i < n → f ≤ p[i]?.getD 0
  | 0, hi => by have := ascTo_at hi h; simp only [prevAt] at this; omega
  | i + 1, hi => by
    have h1 := ascTo_ge h (i := i) (by omega)
    have h2 := ascTo_at hi h
    simp only [prevAt] at h2
    omega
/-- What the model looks at for each place comes to the same. -/
def modTo (k : Int) (d : Dq) : Nat → Bool
  | 0 => true
  | i + 1 => modTo k d i && (decide (d.first ≤ d.places[i]?.getD 0) && decide (d.places[i]?.getD 0 < d.next) && (if i = 0 then true else decide (d.places[i - 1]?.getD 0 < d.places[i]?.getD 0) && !before k (d.items[i - 1]?.getD 0) (d.items[i]?.getD 0)))
theorem modTo_down {k : Int} {d : Dq} : ∀ {n i : Nat}, i ≤ n → modTo k d n = true → modTo k d i = true
  | 0, i, hi, h => by obtain rfl : i = 0 := by omega
                      exact h
  | n + 1, i, hi, h => by
    by_cases e : i = n + 1
    · subst e; exact h
    · simp only [modTo, Bool.and_eq_true] at h
      exact modTo_down (by omega) h.1
theorem modTo_asc {k : Int} {d : Dq} : ∀ {n : Nat}, modTo k d n = true → ascTo d.first d.places n = true ∧ ordTo k d.items n = true
  | 0, _ => ⟨rfl, rfl⟩
  | n + 1, h => by
    simp only [modTo, Bool.and_eq_true, decide_eq_true_eq] at h
    obtain ⟨h1, ⟨h2, h3⟩, h4⟩ := h
    obtain ⟨i1, i2⟩ := modTo_asc h1
    refine ⟨?_, ?_⟩
    · simp only [ascTo, i1, Bool.true_and, decide_eq_true_eq]
      cases n with
      | zero => simp only [prevAt]; omega
      | succ n => simp only [prevAt]; simp only [Nat.add_one_ne_zero, if_false, Bool.and_eq_true, decide_eq_true_eq, Nat.add_sub_cancel] at h4; exact h4.1
    · simp only [ordTo, i2, Bool.true_and]
      cases n with
      | zero => rfl
      | succ n => simp only [Nat.add_one_ne_zero, if_false, Bool.and_eq_true, Nat.add_sub_cancel] at h4 ⊢; exact h4.2
theorem asc_modTo {k : Int} {d : Dq} {m : Nat} (h : ascTo d.first d.places m = true) (hp : prevAt d.first d.places m = d.next - 1) (ho : ordTo k d.items m = true) : ∀ {n : Nat}, n ≤ m → modTo k d n = true
  | 0, _ => rfl
  | n + 1, hn => by
    have h0 := asc_modTo h hp ho (n := n) (by omega)
    have h1 := ascTo_ge h (i := n) (by omega)
    have h2 := ascTo_lt h (j := m) (i := n) (Nat.le_refl _) (by omega)
    have h3 := ascTo_at (i := n) (by omega) h
    have h4 := ordTo_down (i := n + 1) hn ho
    simp only [ordTo, Bool.and_eq_true] at h4
    simp only [modTo, h0, Bool.true_and, Bool.and_eq_true, decide_eq_true_eq]
    refine ⟨⟨h1, by omega⟩, ?_⟩
    cases n with
    | zero => rfl
    | succ n =>
      simp only [Nat.add_one_ne_zero, if_false, Bool.and_eq_true, decide_eq_true_eq, Nat.add_sub_cancel] at h4 ⊢
      exact ⟨by simpa [prevAt] using h3, h4.2⟩
/-- What the model asks of the places. -/
def modAll (k : Int) (d : Dq) (n : Nat) : Bool := if n = 0 then decide (d.first = d.next) else modTo k d n && decide (d.places[n - 1]?.getD 0 = d.next - 1)
theorem modAll_eq {k : Int} {d : Dq} {n : Nat} (hn : d.places.length = n) (hm : d.items.length = n) : modAll k d n = (keepsLast d.first d.next d.places && ordTo k d.items d.items.length) := by
  subst hn
  rw [hm]
  unfold modAll keepsLast
  by_cases h0 : d.places.length = 0
  · rw [if_pos h0, h0]
    simp only [ascTo, ordTo, prevAt, Bool.true_and, Bool.and_true]
    rw [Bool.eq_iff_iff]
    constructor
    · intro h; have h := of_decide_eq_true h; exact decide_eq_true (show d.first - 1 = d.next - 1 by omega)
    · intro h; have h : d.first - 1 = d.next - 1 := of_decide_eq_true h; exact decide_eq_true (by omega)
  · rw [if_neg h0]
    obtain ⟨n, hn⟩ : ∃ n, d.places.length = n + 1 := ⟨d.places.length - 1, by omega⟩
    rw [hn]
    simp only [Nat.add_sub_cancel]
    rw [Bool.eq_iff_iff]
    constructor
    · intro h
      rw [Bool.and_eq_true, decide_eq_true_eq] at h
      obtain ⟨a, b⟩ := modTo_asc h.1
      rw [a, b, show prevAt d.first d.places (n + 1) = d.next - 1 from h.2]
      simp
    · intro h
      simp only [Bool.and_eq_true, decide_eq_true_eq] at h
      obtain ⟨⟨a, h2⟩, b⟩ := h
      rw [asc_modTo a h2 b (Nat.le_refl _), Bool.true_and, decide_eq_true_eq]
      exact h2
theorem dqOk_not_kind {k : Int} {d : Dq} (h : isOrd k = false) : dqOk k d = false := by simp [dqOk, h]
theorem dqOk_parts {k : Int} {d : Dq} (h : dqOk k d = true) : isOrd k = true ∧ itemsOk d.items = true ∧ d.places.length = d.items.length ∧ (0 ≤ d.first ∧ d.first ≤ 1000000 ∧ 0 ≤ d.next ∧ d.next ≤ 1000000 ∧ 0 ≤ d.drops ∧ d.drops ≤ 1000000) ∧ (0 ≤ d.next - d.first ∧ d.next - d.first ≤ 60) ∧ ascTo d.first d.places d.items.length = true ∧ prevAt d.first d.places d.items.length = d.next - 1 ∧ ordTo k d.items d.items.length = true := by
  simp only [dqOk, dqRange, keepsLast, Bool.and_eq_true, decide_eq_true_eq] at h
  obtain ⟨⟨⟨⟨⟨h1, h2⟩, h3⟩, h4, h5⟩, h6, h7⟩, h8⟩ := h
  rw [h3] at h6 h7
  exact ⟨h1, h2, h3, h4, h5, h6, h7, h8⟩
/-- A deque with a window that has items has a place. -/
theorem dqOk_some {k : Int} {d : Dq} (h : dqOk k d = true) (hn : 0 < d.next - d.first) : 0 < d.items.length := by
  obtain ⟨-, -, -, -, -, -, h7, -⟩ := dqOk_parts h
  rcases Nat.eq_zero_or_pos d.items.length with h0 | h0
  · rw [h0] at h7
    simp only [prevAt] at h7
    omega
  · exact h0
end Go.Proofs.Ytofpnmjadflebaa.Agg

/-
  Plain mathematics of deques: a change of a valid deque leaves a valid one; what a deque keeps of a window.
-/
set_option linter.unusedSimpArgs false
set_option linter.unusedVariables false
namespace Go.Proofs.Ytofpnmjadflebaa.Agg

theorem keepN_drop {k : Int} {I : List Int} {x : Int} : ∀ {n i : Nat}, keepN k I x n ≤ i → i < n → before k (I[i]?.getD 0) x = true
  | 0, i, _, h => by omega
  | n + 1, i, h1, h2 => by
    simp only [keepN] at h1
    split at h1
    · rename_i hb
      by_cases e : i = n
      · subst e; exact hb
      · exact keepN_drop h1 (by omega)
    · omega
theorem keepN_last {k : Int} {I : List Int} {x : Int} : ∀ {n t : Nat}, keepN k I x n = t + 1 → before k (I[t]?.getD 0) x = false
  | 0, t, h => by simp [keepN] at h
  | n + 1, t, h => by
    simp only [keepN] at h
    split at h
    · exact keepN_last h
    · rename_i hb
      obtain rfl : n = t := by omega
      simpa using hb
theorem asc_of {f : Int} {p : List Int} : ∀ {n : Nat}, (∀ i, i < n → prevAt f p i < p[i]?.getD 0) → ascTo f p n = true
  | 0, _ => rfl
  | n + 1, h => by
    simp only [ascTo, Bool.and_eq_true, decide_eq_true_eq]
    exact ⟨asc_of (fun i hi => h i (by omega)), h n (by omega)⟩
theorem ord_of {k : Int} {l : List Int} : ∀ {n : Nat}, (∀ i, i + 1 < n → before k (l[i]?.getD 0) (l[i + 1]?.getD 0) = false) → ordTo k l n = true
  | 0, _ => rfl
  | n + 1, h => by
    simp only [ordTo, Bool.and_eq_true]
    refine ⟨ord_of (fun i hi => h i (by omega)), ?_⟩
    cases n with
    | zero => rfl
    | succ n => simp only [Nat.add_one_ne_zero, if_false, Nat.add_sub_cancel]; simpa using h n (by omega)
theorem ord_at2 {k : Int} {l : List Int} {n i : Nat} (h : ordTo k l n = true) (hi : i + 1 < n) : before k (l[i]?.getD 0) (l[i + 1]?.getD 0) = false := by
  have := ordTo_down (i := i + 2) (by omega) h
  simp only [ordTo, Bool.and_eq_true, Nat.add_one_ne_zero, if_false, Nat.add_sub_cancel] at this
  simpa using this.2
/-- The items of a deque are in order: no later one is worse than an earlier one. -/
theorem ord_le {k : Int} {l : List Int} {n : Nat} (h : ordTo k l n = true) : ∀ {i j : Nat}, i ≤ j → j < n → before k (l[i]?.getD 0) (l[j]?.getD 0) = false
  | i, 0, h1, h2 => by
    obtain rfl : i = 0 := by omega
    simp [before]
  | i, j + 1, h1, h2 => by
    by_cases e : i = j + 1
    · subst e; simp [before]
    · have a := ord_le h (i := i) (j := j) (by omega) (by omega)
      have b := ord_at2 h (i := j) h2
      simp only [before, Bool.or_eq_false_iff, Bool.and_eq_false_imp, decide_eq_true_eq, decide_eq_false_iff_not] at a b ⊢
      omega
theorem take_put (l : List Int) (y : Int) {t : Nat} (ht : t ≤ l.length) : (∀ i, i < t → (l.take t ++ [y])[i]?.getD 0 = l[i]?.getD 0) ∧ (l.take t ++ [y])[t]?.getD 0 = y := by
  have hl : (l.take t).length = t := by simp; omega
  refine ⟨fun i hi => ?_, ?_⟩
  · rw [List.getElem?_append_left (by omega), List.getElem?_take, if_pos hi]
  · rw [List.getElem?_append_right (by omega), hl]
    simp
theorem tail_at (l : List Int) (i : Nat) : l.tail[i]?.getD 0 = l[i + 1]?.getD 0 := by simp
/-- What the rows of a deque have to do with each other. -/
structure DVal (k : Int) (d : Dq) : Prop where
  len : d.places.length = d.items.length
  asc : ascTo d.first d.places d.items.length = true
  last : prevAt d.first d.places d.items.length = d.next - 1
  ord : ordTo k d.items d.items.length = true
theorem DVal.some {k : Int} {d : Dq} (h : DVal k d) (hn : 0 < d.next - d.first) : 0 < d.items.length := by
  rcases Nat.eq_zero_or_pos d.items.length with h0 | h0
  · have h7 := h.last
    rw [h0] at h7
    simp only [prevAt] at h7
    omega
  · exact h0
theorem DVal.upTo {k : Int} {d : Dq} (h : DVal k d) {i : Nat} (hi : i < d.items.length) : d.first ≤ d.places[i]?.getD 0 ∧ d.places[i]?.getD 0 ≤ d.next - 1 := by
  refine ⟨ascTo_ge h.asc hi, ?_⟩
  have := ascTo_lt h.asc (j := d.items.length) (i := i) (Nat.le_refl _) hi
  rw [h.last] at this
  exact this
theorem prevAt_ge {f : Int} {p : List Int} {n : Nat} (h : ascTo f p n = true) : ∀ {i : Nat}, i ≤ n → f - 1 + i ≤ prevAt f p i
  | 0, _ => by simp [prevAt]
  | i + 1, hi => by
    have h1 := prevAt_ge h (i := i) (by omega)
    have h2 := ascTo_at (i := i) (by omega) h
    simp only [prevAt]
    omega
theorem DVal.few {k : Int} {d : Dq} (h : DVal k d) : (d.items.length : Int) ≤ d.next - d.first := by
  have := prevAt_ge h.asc (i := d.items.length) (Nat.le_refl _)
  rw [h.last] at this
  omega
theorem push_len (k : Int) (d : Dq) (x : Int) (h : d.places.length = d.items.length) : (pushD k d x).items.length = keepN k d.items x d.items.length + 1 ∧ (pushD k d x).places.length = keepN k d.items x d.items.length + 1 := by
  have := keepN_le k d.items x d.items.length
  simp only [pushD]
  constructor <;> simp <;> omega
theorem DVal.push {k : Int} {d : Dq} (h : DVal k d) (hs : 0 ≤ d.next - d.first) (x : Int) : DVal k (pushD k d x) := by
  obtain ⟨l1, l2⟩ := push_len k d x h.len
  have ht := keepN_le k d.items x d.items.length
  have hlast := fun t => @keepN_last k d.items x d.items.length t
  have hi := take_put d.items x ht
  have hp := take_put d.places d.next (t := keepN k d.items x d.items.length) (by rw [h.len]; exact ht)
  have hL := h.len
  refine ⟨by rw [l1, l2], ?_, ?_, ?_⟩
  · rw [l1]
    refine asc_of (fun i hi' => ?_)
    simp only [pushD]
    by_cases e : i = keepN k d.items x d.items.length
    · rw [e, hp.2]
      cases hk : keepN k d.items x d.items.length with
      | zero => simp only [prevAt]; omega
      | succ t =>
        simp only [prevAt]
        rw [← hk, hp.1 t (by omega)]
        have := (h.upTo (i := t) (by omega)).2
        omega
    · rw [hp.1 i (by omega)]
      have := ascTo_at (i := i) (by omega) h.asc
      cases i with
      | zero => simpa [prevAt] using this
      | succ i =>
        simp only [prevAt] at this ⊢
        rw [hp.1 i (by omega)]
        exact this
  · rw [l1]
    simp only [pushD, prevAt]
    rw [hp.2]
    omega
  · rw [l1]
    refine ord_of (fun i hi' => ?_)
    simp only [pushD]
    rw [hi.1 i (by omega)]
    by_cases e : i + 1 = keepN k d.items x d.items.length
    · rw [e, hi.2]
      exact hlast i e.symm
    · rw [hi.1 (i + 1) (by omega)]
      exact ord_at2 h.ord (by omega)
theorem DVal.pop {k : Int} {d : Dq} (h : DVal k d) (hs : 0 < d.next - d.first) : DVal k (popD d) := by
  have h0 := h.some hs
  have hL := h.len
  obtain ⟨n, hn⟩ : ∃ n, d.items.length = n + 1 := ⟨d.items.length - 1, by omega⟩
  have a := h.asc
  have b := h.last
  have c := h.ord
  unfold popD
  split
  · rename_i e
    refine ⟨by simp [hL], ?_, ?_, ?_⟩
    · simp only [List.length_tail, hn, Nat.add_sub_cancel]
      refine asc_of (fun i hi => ?_)
      have := ascTo_at (i := i + 1) (by omega) a
      rw [tail_at]
      cases i with
      | zero => simp only [prevAt] at this ⊢; omega
      | succ i => simp only [prevAt, tail_at] at this ⊢; exact this
    · simp only [List.length_tail, hn, Nat.add_sub_cancel]
      rw [hn] at b
      cases n with
      | zero => simp only [prevAt] at b ⊢; omega
      | succ n => simp only [prevAt, tail_at] at b ⊢; exact b
    · simp only [List.length_tail, hn, Nat.add_sub_cancel]
      refine ord_of (fun i hi => ?_)
      rw [tail_at, tail_at]
      exact ord_at2 c (by omega)
  · rename_i e
    refine ⟨hL, ?_, ?_, c⟩
    · refine asc_of (fun i hi => ?_)
      have := ascTo_at (i := i) hi a
      cases i with
      | zero => simp only [prevAt] at this ⊢; omega
      | succ i => simpa [prevAt] using this
    · simp only at b ⊢
      rw [hn] at b ⊢
      simpa [prevAt] using b
theorem dqOk_val {k : Int} {d : Dq} (h : dqOk k d = true) : DVal k d := by
  obtain ⟨-, -, h3, -, -, h6, h7, h8⟩ := dqOk_parts h
  exact ⟨h3, h6, h7, h8⟩
theorem dqOk_of {k : Int} {d : Dq} (hk : isOrd k = true) (hi : itemsOk d.items = true) (h : DVal k d) (hr : 0 ≤ d.first ∧ d.first ≤ 1000000 ∧ 0 ≤ d.next ∧ d.next ≤ 1000000 ∧ 0 ≤ d.drops ∧ d.drops ≤ 1000000) (hs : 0 ≤ d.next - d.first ∧ d.next - d.first ≤ 60) : dqOk k d = true := by
  have h1 := h.len
  have h2 := h.asc
  have h3 := h.last
  have h4 := h.ord
  simp only [dqOk, dqRange, keepsLast, Bool.and_eq_true, decide_eq_true_eq]
  rw [h1]
  exact ⟨⟨⟨⟨⟨hk, hi⟩, rfl⟩, hr, hs⟩, h2, h3⟩, h4⟩
theorem items_push {k : Int} {d : Dq} {x : Int} (hi : itemsOk d.items = true) (hx : isItem x = true) (hn : (pushD k d x).items.length ≤ 60) : itemsOk (pushD k d x).items = true := by
  refine items_of hn (fun y hy => ?_)
  simp only [pushD, List.mem_append, List.mem_singleton] at hy
  rcases hy with hy | rfl
  · exact items_mem hi y (List.mem_of_mem_take hy)
  · exact hx
theorem items_pop {d : Dq} (hi : itemsOk d.items = true) : itemsOk (popD d).items = true := by
  unfold popD
  split
  · have := items_drop hi 1; simpa using this
  · exact hi
/-- A change of a valid deque leaves a valid one, with a place more or less in its window. -/
theorem stepD_ok {k : Int} {d : Dq} {o : Bool × Int} (h : dqCan k d o = true) : dqOk k (stepD k d o) = true ∧ (stepD k d o).next - (stepD k d o).first = (if o.1 then d.next - d.first + 1 else d.next - d.first - 1) := by
  simp only [dqCan, Bool.and_eq_true, decide_eq_true_eq] at h
  obtain ⟨⟨⟨hd, h9⟩, h8⟩, hc⟩ := h
  obtain ⟨hk, hi, hL, hr, hs, -, -, -⟩ := dqOk_parts hd
  have hv := dqOk_val hd
  obtain ⟨p, x⟩ := o
  cases p
  · obtain ⟨rfl, hpos⟩ := can_pop hc
    simp only [stepD, Bool.false_eq_true, if_false]
    have hn : (popD d).next = d.next ∧ (popD d).first = d.first + 1 ∧ (popD d).drops = d.drops := by unfold popD; split <;> simp
    obtain ⟨e1, e2, e3⟩ := hn
    refine ⟨dqOk_of hk (items_pop hi) (hv.pop hpos) (by rw [e1, e2, e3]; omega) (by rw [e1, e2]; omega), by rw [e1, e2]; omega⟩
  · obtain ⟨hx, hpos⟩ := can_push hc
    simp only [stepD, if_true]
    have hv2 := hv.push hs.1 x
    have hfew := hv2.few
    have hkn := keepN_le k d.items x d.items.length
    have hlen := items_len hi
    simp only [pushD] at hfew ⊢
    refine ⟨dqOk_of hk (items_push hi hx (by simp only [pushD]; omega)) hv2 (by simp only [pushD]; omega) (by simp only [pushD]; omega), by omega⟩
theorem aDq_bound (k : Int) (d : Dq) (o : Bool × Int) : (aDq k d o).items.length + (aDq k d o).places.length ≤ 1000 := by
  cases h : dqCan k d o
  · simp [aDq, h, zeroDq]
  · have e : aDq k d o = stepD k d o := by simp [aDq, h]
    rw [e]
    obtain ⟨-, hi, hl, -⟩ := dqOk_parts (stepD_ok h).1
    have := items_len hi
    omega
/-- A deque stands for a window. -/
structure DStands (k : Int) (w : List Int) (d : Dq) : Prop where
  val : DVal k d
  size : d.next - d.first = w.length
  first0 : 0 ≤ d.first
  here : ∀ i, i < d.items.length → w[(d.places[i]?.getD 0 - d.first).toNat]?.getD 0 = d.items[i]?.getD 0
  dom : ∀ p : Nat, p < w.length → ∃ i, i < d.items.length ∧ d.first + p ≤ d.places[i]?.getD 0 ∧ before k (d.items[i]?.getD 0) (w[p]?.getD 0) = false
  drops : 0 ≤ d.drops ∧ d.drops + d.items.length ≤ d.next
theorem DStands.start (k : Int) : DStands k [] zeroDq :=
  ⟨⟨rfl, rfl, rfl, rfl⟩, rfl, by decide, fun i hi => by simp [zeroDq] at hi, fun p hp => by simp at hp, by simp [zeroDq]⟩
theorem DStands.push {k : Int} {w : List Int} {d : Dq} (h : DStands k w d) (x : Int) : DStands k (w ++ [x]) (pushD k d x) := by
  have hs := h.size
  obtain ⟨l1, l2⟩ := push_len k d x h.val.len
  have ht := keepN_le k d.items x d.items.length
  have hi := take_put d.items x ht
  have hp := take_put d.places d.next (t := keepN k d.items x d.items.length) (by rw [h.val.len]; exact ht)
  refine ⟨h.val.push (by omega) x, by simp [pushD]; omega, h.first0, fun i hi' => ?_, fun p hp' => ?_, ?_⟩
  · rw [l1] at hi'
    simp only [pushD]
    by_cases e : i = keepN k d.items x d.items.length
    · rw [e, hi.2, hp.2, List.getElem?_append_right (by omega), show (d.next - d.first).toNat - w.length = 0 by omega]
      rfl
    · rw [hi.1 i (by omega), hp.1 i (by omega)]
      have hu := h.val.upTo (i := i) (by omega)
      rw [List.getElem?_append_left (by omega)]
      exact h.here i (by omega)
  · rw [l1]
    simp only [pushD]
    simp only [List.length_append, List.length_singleton] at hp'
    by_cases e : p = w.length
    · refine ⟨keepN k d.items x d.items.length, by omega, ?_, ?_⟩
      · rw [hp.2]; omega
      · rw [hi.2, e, List.getElem?_append_right (by omega)]
        simp [before]
    · obtain ⟨i, h1, h2, h3⟩ := h.dom p (by omega)
      rw [List.getElem?_append_left (by omega)]
      by_cases hik : i < keepN k d.items x d.items.length
      · exact ⟨i, by omega, by rw [hp.1 i hik]; exact h2, by rw [hi.1 i hik]; exact h3⟩
      · refine ⟨keepN k d.items x d.items.length, by omega, ?_, ?_⟩
        · rw [hp.2]; omega
        · rw [hi.2]
          have hb := keepN_drop (k := k) (I := d.items) (x := x) (n := d.items.length) (i := i) (by omega) h1
          simp only [before, Bool.or_eq_false_iff, Bool.or_eq_true, Bool.and_eq_true, Bool.and_eq_false_imp, decide_eq_true_eq, decide_eq_false_iff_not] at hb h3 ⊢
          omega
  · have := h.drops
    rw [l1]
    simp only [pushD]
    omega
theorem DStands.pop {k : Int} {w : List Int} {d : Dq} (h : DStands k w d) (hw : 0 < w.length) : DStands k w.tail (popD d) := by
  have hs := h.size
  have h0 := h.val.some (by omega)
  have hv := h.val.pop (by omega)
  have hf : (popD d).first = d.first + 1 ∧ (popD d).next = d.next ∧ (popD d).drops = d.drops := by unfold popD; split <;> simp
  refine ⟨hv, by rw [hf.1, hf.2.1]; simp; omega, by have := h.first0; rw [hf.1]; omega, ?_, ?_, ?_⟩
  · intro i hi
    have hu := (hv.upTo hi).1
    rw [hf.1] at hu ⊢
    rw [tail_at]
    have hj : ((popD d).places[i]?.getD 0 - (d.first + 1)).toNat + 1 = ((popD d).places[i]?.getD 0 - d.first).toNat := by omega
    rw [hj]
    clear hj hu
    unfold popD at hi ⊢
    split at hi
    · rename_i e
      rw [if_pos e]
      simp only [List.length_tail] at hi
      simp only [tail_at]
      exact h.here (i + 1) (by omega)
    · rename_i e
      rw [if_neg e]
      exact h.here i hi
  · intro p hp
    simp only [List.length_tail] at hp
    obtain ⟨i, h1, h2, h3⟩ := h.dom (p + 1) (by omega)
    rw [hf.1, tail_at]
    unfold popD
    split
    · rename_i e
      cases i with
      | zero => omega
      | succ i =>
        refine ⟨i, by simp; omega, ?_, ?_⟩
        · simp only [tail_at]; omega
        · simp only [tail_at]; exact h3
    · exact ⟨i, h1, by simp only; omega, h3⟩
  · have := h.drops
    rw [hf.2.1, hf.2.2]
    have : (popD d).items.length ≤ d.items.length := by unfold popD; split <;> simp
    omega
theorem DStands.step {k : Int} {w : List Int} {d : Dq} {o : Bool × Int} (h : DStands k w d) (hf : fits w o = true) : DStands k (stepW w o) (stepD k d o) := by
  obtain ⟨p, x⟩ := o
  cases p
  · simp only [fits, Bool.false_eq_true, if_false, decide_eq_true_eq] at hf
    simpa [stepW, stepD] using h.pop hf
  · simpa [stepW, stepD] using h.push x
/-- The deque behind the first j changes. -/
def dqAt (k : Int) (l : List (Bool × Int)) : Nat → Dq
  | 0 => zeroDq
  | j + 1 => stepD k (dqAt k l j) (opAt l j)
theorem dstands_at {k : Int} {l : List (Bool × Int)} : ∀ j, fitTo l j = true → DStands k (winAt l j) (dqAt k l j)
  | 0, _ => DStands.start k
  | j + 1, h => by
    simp only [fitTo, Bool.and_eq_true] at h
    exact (dstands_at j h.1).step h.2
theorem dqAt_next (k : Int) (l : List (Bool × Int)) : ∀ j, (dqAt k l j).next ≤ j ∧ 0 ≤ (dqAt k l j).next
  | 0 => by simp [dqAt, zeroDq]
  | j + 1 => by
    have := dqAt_next k l j
    simp only [dqAt, stepD]
    split
    · simp only [pushD]; omega
    · have : (popD (dqAt k l j)).next = (dqAt k l j).next := by unfold popD; split <;> rfl
      omega
/-- The items that a deque keeps are items of its window. -/
theorem DStands.items {k : Int} {w : List Int} {d : Dq} (h : DStands k w d) (hi : itemsOk w = true) : itemsOk d.items = true := by
  have hf := h.val.few
  have hs := h.size
  have hl := items_len hi
  refine items_of (by omega) (fun y hy => ?_)
  obtain ⟨i, hi', rfl⟩ := List.getElem_of_mem hy
  have e := h.here i hi'
  have hu := h.val.upTo hi'
  have hlt : (d.places[i]?.getD 0 - d.first).toNat < w.length := by omega
  rw [List.getElem?_eq_getElem hlt, List.getElem?_eq_getElem hi'] at e
  simp only [Option.getD_some] at e
  rw [← e]
  exact items_mem hi _ (List.getElem_mem hlt)
theorem DStands.valid {k : Int} {w : List Int} {d : Dq} (h : DStands k w d) (hk : isOrd k = true) (hi : itemsOk w = true) (hn : d.next ≤ 1000000) : dqOk k d = true := by
  have h1 := h.size
  have h2 := h.first0
  have h3 := h.drops
  have h4 := items_len hi
  exact dqOk_of hk (h.items hi) h.val (by omega) (by omega)
/-- The first item is as good as all of the window. -/
theorem DStands.best {k : Int} {w : List Int} {d : Dq} (h : DStands k w d) {p : Nat} (hp : p < w.length) : before k (d.items[0]?.getD 0) (w[p]?.getD 0) = false := by
  obtain ⟨i, h1, -, h3⟩ := h.dom p hp
  have h2 := ord_le h.val.ord (i := 0) (j := i) (by omega) h1
  simp only [before, Bool.or_eq_false_iff, Bool.and_eq_false_imp, decide_eq_true_eq, decide_eq_false_iff_not] at h2 h3 ⊢
  omega
theorem DStands.mem {k : Int} {w : List Int} {d : Dq} (h : DStands k w d) (hw : 0 < w.length) : d.items[0]?.getD 0 ∈ w := by
  have hs := h.size
  have h0 := h.val.some (by omega)
  have e := h.here 0 h0
  have hu := h.val.upTo h0
  have hlt : (d.places[0]?.getD 0 - d.first).toNat < w.length := by omega
  rw [List.getElem?_eq_getElem hlt] at e
  rw [← e]
  exact List.getElem_mem hlt
theorem dq_step {k : Int} {l : List (Bool × Int)} (hk : isOrd k = true) {n j : Nat} (hn : n ≤ 200) (ha : allOk l n = true) (hf : fitTo l n = true) (hj : j < n) : dqCan k (dqAt k l j) (opAt l j) = true ∧ dqOk k (dqAt k l (j + 1)) = true ∧ dqOk k (dqAt k l j) = true := by
  have h1 := dstands_at (k := k) j (fitTo_down (by omega) hf)
  have h2 := dstands_at (k := k) (j + 1) (fitTo_down (by omega) hf)
  have b1 := dqAt_next k l j
  have b2 := dqAt_next k l (j + 1)
  have v1 := h1.valid hk (items_at (allOk_down (by omega) ha) (fitTo_down (by omega) hf)) (by omega)
  have v2 := h2.valid hk (items_at (allOk_down (by omega) ha) (fitTo_down (by omega) hf)) (by omega)
  refine ⟨?_, v2, v1⟩
  have hd := h1.drops
  simp only [dqCan, v1, Bool.true_and, Bool.and_eq_true, decide_eq_true_eq]
  refine ⟨⟨by omega, by omega⟩, ?_⟩
  rw [h1.size]
  exact can_of (opOk_at hj ha) (fits_at hj hf) rfl
end Go.Proofs.Ytofpnmjadflebaa.Agg
