/-
  Copies of slices of numbers, and their comparison, as the exact laws make them.
-/
import Derived.Test.YtohllpdmopofoaaGreatRow
import Derived.Deep.OwnRows
namespace Go.Proofs.YtohllpdmopofoaaGreat
set_option linter.unusedSimpArgs false
set_option linter.unusedVariables false
open Go.RowKit

/-- A slice of new memory that reads as l. -/
def MadeNums (l : List Int) (n : Nat) (w : World) (e : Ending) (w' : World) : Prop :=
  ∃ b, e = .returned (.slice (some ⟨b, 0, none⟩) n n) ∧ Nums .i64 w' (some ⟨b, 0, none⟩) n n l ∧ Below w.heap.size w w' ∧ w.heap.size ≤ b

theorem Nums.of_owns {w : World} {base e g n cap : Nat} {l : List Int} (h : w.ownsRow base e 1 (.slice (some ⟨g, 0, none⟩) n cap) n (l.map (Value.int .i64))) : Nums .i64 w (some ⟨g, 0, none⟩) n cap l := by
  have hl : l.length = n := by have := h.1; simpa using this
  have hcells : ∀ j, j < n → w.cell? ⟨g, j, none⟩ = some (.int .i64 (l[j]?.getD 0)) := by
    intro j hj
    rw [World.ownsRow.cellAt h j (by omega)]
    simp [List.getElem?_map, List.getElem?_eq_getElem (show j < l.length by omega)]
  rcases h.2 with ⟨hv, _⟩ | ⟨g', cap', cur, hv, hb, hg, h1, h2, h3, h4⟩
  · simp at hv
  · simp only [Value.slice.injEq, Option.some.injEq, Addr.mk.injEq] at hv
    obtain ⟨⟨rfl, -, -⟩, -, rfl⟩ := hv
    exact ⟨hl, h1, h2, .inr ⟨g, 0, rfl, (Array.getElem?_eq_some_iff.1 hg).1, fun i hi => by rw [Nat.zero_add]; exact hcells i hi⟩⟩

/-- The first k numbers of l, and zeros behind them. -/
def partly (l : List Int) (k : Nat) : List Int := l.take k ++ List.replicate (l.length - k) 0
theorem partly_zero (l : List Int) : partly l 0 = List.replicate l.length 0 := by simp [partly]
theorem partly_all (l : List Int) : partly l l.length = l := by simp [partly]
theorem partly_set (l : List Int) (k : Nat) (h : k < l.length) : (partly l k).set k (l[k]?.getD 0) = partly l (k + 1) := by
  apply List.ext_getElem?
  intro i
  simp only [partly, List.getElem?_set, List.getElem?_append, List.length_append, List.length_take, List.length_replicate, List.getElem?_take, List.getElem?_replicate]
  by_cases hik : k = i
  · subst hik
    simp [h, Nat.min_eq_left (Nat.le_of_lt h), Nat.min_eq_left (show k + 1 ≤ l.length by omega)] <;> omega
  · rw [if_neg hik]
    rw [Nat.min_eq_left (Nat.le_of_lt h), Nat.min_eq_left (show k + 1 ≤ l.length by omega)]
    by_cases h1 : i < k
    · rw [if_pos h1, if_pos (show i < k + 1 by omega)]; simp [h1, show i < k + 1 by omega]
    · rw [if_neg h1, if_neg (show ¬ i < k + 1 by omega)]
      by_cases h2 : i < l.length
      · rw [if_pos (by omega), if_pos (by omega)]
      · rw [if_neg (by omega), if_neg (by omega)]

theorem infoInt : (Tryz.prog.info? 3).map (fun i => (i.zero, i.size, i.bytes)) = some (some (.int .i64 0), 1, 8) := by kernel_rfl


end Go.Proofs.YtohllpdmopofoaaGreat
