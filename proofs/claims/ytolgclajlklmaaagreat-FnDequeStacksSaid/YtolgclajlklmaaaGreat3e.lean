/-
  Two stacks as the exact laws take, copy, compare, mark and hold them.
-/
import Derived.Test.YtolgclajlklmaaaGreatRw
import Derived.Test.YtolgclajlklmaaaGreatTa
import Derived.Deep.DeepMust
namespace Go.Proofs.YtolgclajlklmaaaGreat
set_option linter.unusedSimpArgs false
set_option linter.unusedVariables false
open Go.RowKit
/-- Stacks are made anew. -/
def MadeStacks (s : Agg.S) (w : World) (e : Ending) (w' : World) : Prop := ∃ v, e = .returned v ∧ StkOwn w' w.heap.size w'.heap.size v s ∧ Below w.heap.size w w'
theorem e_ownsRow_slice {w : World} {base e size n : Nat} {v : Value} {xs : List Value} (h : w.ownsRow base e size v n xs) : ∃ a c, v = .slice a n c := by
  rcases h.2 with ⟨rfl, rfl⟩ | ⟨g, cap, cur, rfl, -⟩
  · exact ⟨none, 0, rfl⟩
  · exact ⟨_, cap, rfl⟩
theorem OwnV.set {w : World} {lo hi n d o : Nat} {v u : Value} {l : List Agg.V} (h : OwnV w lo hi v n l) (hd : d < lo ∨ hi ≤ d) : OwnV (w.setCell ⟨d, o, none⟩ u) lo hi v n l :=
  h.kept (row := some d) ⟨rfl, rfl, rfl, by simp [World.setCell], fun k hk hne => Below.heap_setCell _ _ _ _ (fun e => hne (by rw [e]))⟩ (fun j e => by cases e; exact hd)
theorem OwnR.set {w : World} {lo hi n d o : Nat} {v u : Value} {l : List Int} (h : OwnR w lo hi v n l) (hd : d < lo ∨ hi ≤ d) : OwnR (w.setCell ⟨d, o, none⟩ u) lo hi v n l :=
  h.kept (row := some d) ⟨rfl, rfl, rfl, by simp [World.setCell], fun k hk hne => Below.heap_setCell _ _ _ _ (fun e => hne (by rw [e]))⟩ (fun j e => by cases e; exact hd)
theorem OwnV.wide {w : World} {lo hi lo' hi' n : Nat} {v : Value} {l : List Agg.V} (h : OwnV w lo hi v n l) (h1 : lo' ≤ lo) (h2 : hi ≤ hi') (h3 : hi' ≤ w.heap.size) : OwnV w lo' hi' v n l :=
  ⟨owns_lower h.1 h1, by have := h.2.1; omega, h3, fun g hg => Nat.lt_of_lt_of_le (h.2.2.2 g hg) h2⟩
theorem OwnR.wide {w : World} {lo hi lo' hi' n : Nat} {v : Value} {l : List Int} (h : OwnR w lo hi v n l) (h1 : lo' ≤ lo) (h2 : hi ≤ hi') (h3 : hi' ≤ w.heap.size) : OwnR w lo' hi' v n l :=
  ⟨owns_lower h.1 h1, by have := h.2.1; omega, h3, fun g hg => Nat.lt_of_lt_of_le (h.2.2.2 g hg) h2⟩
theorem size_set (w : World) (p : Addr) (u : Value) : (w.setCell p u).heap.size = w.heap.size := by simp [World.setCell]
end Go.Proofs.YtolgclajlklmaaaGreat
