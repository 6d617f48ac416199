/-
  Rows of states, one behind each change: their cells, one state behind the other; two stacks in such a row.
-/
import Derived.Test.Ytolgclajlklmaaa3e
namespace Go.Proofs.Ytolgclajlklmaaa
set_option linter.unusedSimpArgs false
set_option linter.unusedVariables false
open Go.RowKit
/-- The cells of n states, one behind the other. -/
def flat (C : Nat → List Value) (n : Nat) : List Value := (List.range n).flatMap C
theorem flat_zero (C : Nat → List Value) : flat C 0 = [] := rfl
theorem flat_succ (C : Nat → List Value) (n : Nat) : flat C (n + 1) = flat C n ++ C n := by simp [flat, List.range_succ]
theorem flat_congr {C D : Nat → List Value} : ∀ {n : Nat}, (∀ i, i < n → C i = D i) → flat C n = flat D n
  | 0, _ => rfl
  | n + 1, h => by rw [flat_succ, flat_succ, flat_congr (fun i hi => h i (by omega)), h n (by omega)]
theorem flat_len {C : Nat → List Value} {sz : Nat} : ∀ {n : Nat}, (∀ i, i < n → (C i).length = sz) → (flat C n).length = n * sz
  | 0, _ => by simp [flat]
  | n + 1, h => by rw [flat_succ, List.length_append, flat_len (fun i hi => h i (by omega)), h n (by omega), Nat.add_mul, Nat.one_mul]
theorem flat_at {C : Nat → List Value} {sz : Nat} : ∀ {n : Nat}, (∀ i, i < n → (C i).length = sz) → ∀ i c, i < n → c < sz → (flat C n)[i * sz + c]? = (C i)[c]?
  | 0, _, i, c, hi, hc => by omega
  | n + 1, h, i, c, hi, hc => by
    have hl := flat_len (C := C) (sz := sz) (n := n) (fun i hi => h i (by omega))
    rw [flat_succ]
    by_cases hin : i < n
    · have h1 : i * sz + c < n * sz := by
        have := Nat.mul_le_mul_right sz (show i + 1 ≤ n by omega)
        rw [Nat.add_mul, Nat.one_mul] at this
        omega
      rw [List.getElem?_append_left (by omega)]
      exact flat_at (fun i hi => h i (by omega)) i c hin hc
    · obtain rfl : i = n := by omega
      rw [List.getElem?_append_right (by omega), hl]
      congr 1
      omega
theorem flat_put (C : Nat → List Value) (L : List Value) (n : Nat) : flat (fun i => if i = n then L else C i) (n + 1) = flat C n ++ L := by
  rw [flat_succ]
  congr 1
  · exact flat_congr (fun i hi => by simp [show i ≠ n by omega])
  · simp
theorem own_cells {w : World} {base e size n : Nat} {v : Value} {xs : List Value} (h : w.ownsRow base e size v n xs) (hn : 0 < n) :
    ∃ g cap, v = .slice (some ⟨g, 0, none⟩) n cap ∧ base ≤ g ∧ g < w.heap.size ∧ n ≤ cap ∧ cap ≤ 9223372036854775807 ∧ ∀ j, j < n * size → w.cell? ⟨g, j, none⟩ = xs[j]? := by
  rcases h.2 with ⟨rfl, rfl⟩ | ⟨g, cap, cur, rfl, hb, hg, h1, h2, h3, h4⟩
  · omega
  · refine ⟨g, cap, rfl, hb, (Array.getElem?_eq_some_iff.1 hg).1, h1, by unfold maxLen at h2; omega, fun j hj => ?_⟩
    have : cur[j]? = xs[j]? := by
      rw [← h4, List.getElem?_take, if_pos hj, Array.getElem?_toList]
    simp [World.cell?, hg, this]
theorem set_grown (w : World) (c o : Nat) (u : Value) : w.grownBy (w.setCell ⟨c, o, none⟩ u) (some c) := ⟨rfl, rfl, rfl, by simp [World.setCell], fun k hk hne => Below.heap_setCell _ _ _ _ (fun e => hne (by rw [e]))⟩
theorem OwnR.put {w : World} {lo hi n c o : Nat} {v u : Value} {l : List Int} (h : OwnR w lo hi v n l) (hc : c < lo) : OwnR (w.setCell ⟨c, o, none⟩ u) lo hi v n l := h.set (.inl hc)
theorem own_hiR {w : World} {lo hi n : Nat} {v : Value} {l : List Int} (h : OwnR w lo hi v n l) : hi ≤ w.heap.size := h.2.2.1
theorem own_lit {w : World} {base n size : Nat} {e : TypeId} (cur : Array Value) (hb : base ≤ w.heap.size) (hm : n ≤ maxLen) (hs : cur.size = n * size) : (w.alloc (.cells cur e)).ownsRow base e size (.slice (some ⟨w.heap.size, 0, none⟩) n n) n cur.toList :=
  ⟨by simpa using hs, .inr ⟨w.heap.size, n, cur, rfl, hb, heap_alloc_new w _, Nat.le_refl _, hm, hs, List.take_of_length_le (by rw [Array.length_toList, hs]; exact Nat.le_refl _)⟩⟩
end Go.Proofs.Ytolgclajlklmaaa
