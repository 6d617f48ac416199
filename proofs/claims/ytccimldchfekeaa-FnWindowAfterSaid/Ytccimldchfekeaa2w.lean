/-
  Plain mathematics of windows: changes that are valid, and the window after some of them.
-/
import Derived.Test.YtccimldchfekeaaMath5
set_option linter.unusedSimpArgs false
set_option linter.unusedVariables false
namespace Go.Proofs.Ytccimldchfekeaa.Agg

/-- A change that is one: an item is pushed, or nothing besides. -/
def opOk (o : Bool × Int) : Bool := if o.1 then isItem o.2 else decide (o.2 = 0)
/-- The window after a change. -/
def stepW (w : List Int) (o : Bool × Int) : List Int := if o.1 then w ++ [o.2] else w.tail
/-- Whether a change can be made of a window. -/
def fits (w : List Int) (o : Bool × Int) : Bool := if o.1 then decide (w.length < 60) else decide (0 < w.length)
def opAt (l : List (Bool × Int)) (i : Nat) : Bool × Int := l[i]?.getD (false, 0)
/-- The window after the first i changes. -/
def winAt (l : List (Bool × Int)) : Nat → List Int
  | 0 => []
  | i + 1 => stepW (winAt l i) (opAt l i)
def allOk (l : List (Bool × Int)) : Nat → Bool
  | 0 => true
  | i + 1 => allOk l i && opOk (opAt l i)
def fitTo (l : List (Bool × Int)) : Nat → Bool
  | 0 => true
  | i + 1 => fitTo l i && fits (winAt l i) (opAt l i)
/-- Changes are valid. -/
def opsOk (l : List (Bool × Int)) : Bool := decide (l.length ≤ 200) && allOk l l.length && fitTo l l.length

theorem allOk_down {l : List (Bool × Int)} : ∀ {n i : Nat}, i ≤ n → allOk l n = true → allOk l i = true
  | 0, i, hi, h => by obtain rfl : i = 0 := by omega
                      exact h
  | n + 1, i, hi, h => by
    by_cases e : i = n + 1
    · subst e; exact h
    · simp only [allOk, Bool.and_eq_true] at h
      exact allOk_down (by omega) h.1
theorem fitTo_down {l : List (Bool × Int)} : ∀ {n i : Nat}, i ≤ n → fitTo l n = true → fitTo l i = true
  | 0, i, hi, h => by obtain rfl : i = 0 := by omega
                      exact h
  | n + 1, i, hi, h => by
    by_cases e : i = n + 1
    · subst e; exact h
    · simp only [fitTo, Bool.and_eq_true] at h
      exact fitTo_down (by omega) h.1
theorem opOk_at {l : List (Bool × Int)} {n i : Nat} (hi : i < n) (h : allOk l n = true) : opOk (opAt l i) = true := by
  have := allOk_down (i := i + 1) (by omega) h
  simp only [allOk, Bool.and_eq_true] at this
  exact this.2
theorem fits_at {l : List (Bool × Int)} {n i : Nat} (hi : i < n) (h : fitTo l n = true) : fits (winAt l i) (opAt l i) = true := by
  have := fitTo_down (i := i + 1) (by omega) h
  simp only [fitTo, Bool.and_eq_true] at this
  exact this.2
theorem win_len {l : List (Bool × Int)} : ∀ i, fitTo l i = true → (winAt l i).length ≤ 60
  | 0, _ => by simp [winAt]
  | i + 1, h => by
    simp only [fitTo, Bool.and_eq_true] at h
    have := win_len i h.1
    have h2 := h.2
    simp only [fits] at h2
    simp only [winAt, stepW]
    split
    · rename_i hp; rw [if_pos hp] at h2; simp only [decide_eq_true_eq] at h2; simp; omega
    · simp; omega
theorem opsOk_false_all {l : List (Bool × Int)} {i : Nat} (hi : i ≤ l.length) (h : allOk l i = false) : opsOk l = false := by
  cases h2 : allOk l l.length
  · simp [opsOk, h2]
  · have := allOk_down hi h2; simp [h] at this
theorem opsOk_false_fit {l : List (Bool × Int)} {i : Nat} (hi : i ≤ l.length) (h : fitTo l i = false) : opsOk l = false := by
  cases h2 : fitTo l l.length
  · simp [opsOk, h2]
  · have := fitTo_down hi h2; simp [h] at this
theorem win_items {l : List (Bool × Int)} : ∀ i, allOk l i = true → ∀ x ∈ winAt l i, isItem x = true
  | 0, _, x, hx => by simp [winAt] at hx
  | i + 1, h, x, hx => by
    simp only [allOk, Bool.and_eq_true] at h
    have ih := win_items i h.1
    have h2 := h.2
    simp only [opOk] at h2
    simp only [winAt, stepW] at hx
    split at hx
    · rename_i hp
      rw [if_pos hp] at h2
      rcases List.mem_append.1 hx with hx | hx
      · exact ih x hx
      · rw [List.mem_singleton.1 hx]; exact h2
    · exact ih x (List.mem_of_mem_tail hx)
/-- A change that a window of a size can take. -/
def can (o : Bool × Int) (n : Int) : Bool := opOk o && (if o.1 then decide (n < 60) else decide (0 < n))
end Go.Proofs.Ytccimldchfekeaa.Agg
