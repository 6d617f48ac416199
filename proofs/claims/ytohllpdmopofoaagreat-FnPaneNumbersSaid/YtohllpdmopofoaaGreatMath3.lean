/-
  Plain facts on aggregates: numbers of aggregates.
-/
import Derived.Test.YtohllpdmopofoaaGreatMath2
set_option linter.unusedSimpArgs false
namespace Go.Proofs.YtohllpdmopofoaaGreat.Agg

/-- For the kinds 3 to 6, the second field is 0 or 1. -/
theorem ok_pick {k x y z : Int} (h : ok k ⟨x, y, z⟩ = true) (hk : 3 ≤ k ∧ k ≤ 6) : y = 0 ∨ y = 1 := by
  unfold ok at h
  repeat' split at h
  all_goals (simp only [decide_eq_true_eq] at h; omega)

/-- A valid aggregate without a number has the number 0 besides. -/
theorem aLow_of {k : Int} {v : V} (hk : isKind k = true) (h : ok k v = true) : aLow k v = low k v := by
  simp only [aLow, valid, hk, h, Bool.and_true, Bool.true_and]
  by_cases hl : (low k v).2 = true
  · rw [if_pos hl, ← hl]
  · rw [if_neg hl]
    have h2 : (low k v).2 = false := by simpa using hl
    have h1 : (low k v).1 = 0 := by
      unfold ok at h
      unfold low at h2 ⊢
      repeat' split at h2
      all_goals (first | contradiction | skip)
      all_goals (simp only [decide_eq_false_iff_not, decide_eq_true_eq, Decidable.not_not] at *)
      all_goals (first | rfl | skip)
      all_goals (repeat' split at h)
      all_goals (simp only [decide_eq_true_eq] at h)
      all_goals (repeat' split)
      all_goals (first | omega | rfl | (simp; omega))
    rw [← h1, ← h2]

end Go.Proofs.YtohllpdmopofoaaGreat.Agg
