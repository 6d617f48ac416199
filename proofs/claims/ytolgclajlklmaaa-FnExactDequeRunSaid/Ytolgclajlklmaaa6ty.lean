/-
  What rows of deques need: the second of two rows of one's own, which lies apart from the first.
-/
import Derived.Test.YtolgclajlklmaaaQx
namespace Go.Proofs.Ytolgclajlklmaaa
set_option linter.unusedSimpArgs false
set_option linter.unusedVariables false
open Go.RowKit
theorem OwnS.put {w : World} {lo hi n c o : Nat} {v u : Value} {l : List Int} (h : OwnS w lo hi v n l) (hc : c < lo) : OwnS (w.setCell ⟨c, o, none⟩ u) lo hi v n l :=
  h.kept (row := some c) ⟨rfl, rfl, rfl, by simp [World.setCell], fun k hk hne => Below.heap_setCell _ _ _ _ (fun e => hne (by rw [e]))⟩ (fun j e => .inl (.inl (by have := Option.some.inj e; omega)))
theorem own_hiS {w : World} {lo hi n : Nat} {v : Value} {l : List Int} (h : OwnS w lo hi v n l) : hi ≤ w.heap.size := h.2.2.1
/-- A row of numbers of one's own that does not lie in the block of another one. -/
def OwnD (w : World) (lo hi : Nat) (u v : Value) (n : Nat) (l : List Int) : Prop := OwnS w lo hi v n l ∧ (u.ownBlock = none ∨ u.ownBlock ≠ v.ownBlock)
section
variable {w w' : World} {lo hi lo' hi' n : Nat} {u v : Value} {l : List Int}
theorem OwnD.kept {row : Option Nat} (h : OwnD w lo hi u v n l) (hg : w.grownBy w' row) (hr : ∀ j, row = some j → (j < lo ∨ hi ≤ j) ∨ v.ownBlock ≠ some j) : OwnD w' lo hi u v n l := ⟨h.1.kept hg hr, h.2⟩
theorem OwnD.below (h : OwnD w lo hi u v n l) (hb : Below w.heap.size w w') : OwnD w' lo hi u v n l := ⟨h.1.below hb, h.2⟩
theorem OwnD.wide (h : OwnD w lo hi u v n l) (h1 : lo' ≤ lo) (h2 : hi ≤ hi') (h3 : hi' ≤ w.heap.size) : OwnD w lo' hi' u v n l := ⟨h.1.wide h1 h2 h3, h.2⟩
theorem OwnD.nums (h : OwnD w lo hi u v n l) : ∃ a cap, v = .slice a n cap ∧ Nums .i64 w a n cap l := h.1.nums
theorem OwnD.put {c o : Nat} {x : Value} (h : OwnD w lo hi u v n l) (hc : c < lo) : OwnD (w.setCell ⟨c, o, none⟩ x) lo hi u v n l := ⟨h.1.put hc, h.2⟩
theorem own_hiD (h : OwnD w lo hi u v n l) : hi ≤ w.heap.size := h.1.2.2.1
end
end Go.Proofs.Ytolgclajlklmaaa
