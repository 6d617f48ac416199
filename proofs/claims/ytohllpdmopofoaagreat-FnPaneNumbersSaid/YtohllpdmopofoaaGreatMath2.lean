/-
  Plain facts on aggregates: bounds, inverses modulo 97.
-/
import Derived.Test.YtohllpdmopofoaaGreatMath
namespace Go.Proofs.YtohllpdmopofoaaGreat.Agg
set_option linter.unusedSimpArgs false

theorem ok_bounds {k : Int} {v : V} (h : ok k v = true) : 0 ≤ v.x ∧ v.x ≤ 1000000 ∧ 0 ≤ v.y ∧ v.y ≤ 1000000 ∧ 0 ≤ v.z ∧ v.z ≤ 1000000 := by
  unfold ok at h
  repeat' split at h
  all_goals (simp only [decide_eq_true_eq] at h; omega)

theorem ok_8 {v : V} (h : ok 8 v = true) : 1 ≤ v.x ∧ v.x ≤ 96 ∧ 0 ≤ v.y ∧ v.y ≤ 96 ∧ v.z = 0 := by
  simpa [ok] using h

theorem mul_bounds {a b m n : Int} (h0 : 0 ≤ a) (h1 : a ≤ m) (h2 : 0 ≤ b) (h3 : b ≤ n) : 0 ≤ a * b ∧ a * b ≤ m * n :=
  ⟨Int.mul_nonneg h0 h2, Int.mul_le_mul h1 h3 h2 (by omega)⟩

theorem pow97_bounds (n : Int) : ∀ i, 0 ≤ pow97 n i ∧ pow97 n i ≤ 96
  | 0 => by simp [pow97]
  | i + 1 => by simp only [pow97]; omega

theorem inv_all : ∀ n : Fin 97, n.val ≠ 0 → (n.val : Int) * inv n.val % 97 = 1 ∧ 1 ≤ inv n.val ∧ inv n.val ≤ 96 := by decide +kernel

theorem inv_spec {n : Int} (h0 : 1 ≤ n) (h1 : n ≤ 96) : n * inv n % 97 = 1 ∧ 1 ≤ inv n ∧ inv n ≤ 96 := by
  obtain ⟨m, rfl⟩ := Int.eq_ofNat_of_zero_le (show 0 ≤ n by omega)
  exact inv_all ⟨m, by omega⟩ (by simp; omega)

/-- The same power by squares: the powers that the program's own loop keeps. -/
def sq (x : Int) (n : Nat) (y : Int) : Nat → Int
  | 0 => y
  | f + 1 => if n = 0 then y else sq (x * x % 97) (n / 2) (if n % 2 = 1 then y * x % 97 else y) f

theorem sq_all : ∀ n : Fin 97, sq n.val 95 1 8 = inv n.val := by decide +kernel
theorem sq_inv {n : Int} (h0 : 1 ≤ n) (h1 : n ≤ 96) : sq n 95 1 8 = inv n := by
  obtain ⟨m, rfl⟩ := Int.eq_ofNat_of_zero_le (show 0 ≤ n by omega)
  exact sq_all ⟨m, by omega⟩

end Go.Proofs.YtohllpdmopofoaaGreat.Agg
