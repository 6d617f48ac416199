/-
  Queues as the exact laws take, copy and compare them.
-/
import Derived.Test.Ythkokeeciicdnaa3e
import Derived.Test.Ythkokeeciicdnaa4m
import Derived.Deep.DeepCutAuto
namespace Go.Proofs.Ythkokeeciicdnaa
set_option linter.unusedSimpArgs false
set_option linter.unusedVariables false
open Go.RowKit
/-- A queue whose two rows are the call's own. -/
def QueOwn (w : World) (lo hi : Nat) (v : Value) (q : Agg.Q) : Prop :=
  ∃ iv fv, v = .agg #[iv, fv, .int .i64 q.l, .int .i64 q.r, .int .i64 q.a, .int .i64 q.b, .int .i64 q.cost] ∧ OwnR w lo hi iv q.items.length q.items ∧ OwnV w lo hi fv q.aggs.length q.aggs
theorem QueOwn.kept {w w' : World} {lo hi : Nat} {v : Value} {q : Agg.Q} {row : Option Nat} (h : QueOwn w lo hi v q) (hg : w.grownBy w' row) (hr : ∀ j, row = some j → j < lo ∨ hi ≤ j) : QueOwn w' lo hi v q := by
  obtain ⟨iv, fv, hv, h1, h2⟩ := h
  exact ⟨iv, fv, hv, h1.kept hg hr, h2.kept hg hr⟩
theorem QueOwn.below {w w' : World} {lo hi : Nat} {v : Value} {q : Agg.Q} (h : QueOwn w lo hi v q) (hb : Below w.heap.size w w') : QueOwn w' lo hi v q :=
  h.kept (row := none) (Below.grownNone hb _) (fun j e => by cases e)
/-- As an argument: its slices written out, and what they read as. -/
theorem QueOwn.read {w : World} {lo hi : Nat} {v : Value} {q : Agg.Q} (h : QueOwn w lo hi v q) : ∃ ia ic fa fc, v = .agg #[.slice ia q.items.length ic, .slice fa q.aggs.length fc, .int .i64 q.l, .int .i64 q.r, .int .i64 q.a, .int .i64 q.b, .int .i64 q.cost] ∧ Nums .i64 w ia q.items.length ic q.items ∧ Vals w fa q.aggs.length fc q.aggs := by
  obtain ⟨iv, fv, rfl, h1, h2⟩ := h
  obtain ⟨ia, ic, rfl, hI, -⟩ := h1.nums
  obtain ⟨fa, fc, rfl, hF⟩ := h2.vals
  exact ⟨ia, ic, fa, fc, rfl, hI, hF⟩
/-- A queue is made anew. -/
def MadeQue (q : Agg.Q) (w : World) (e : Ending) (w' : World) : Prop := ∃ v, e = .returned v ∧ QueOwn w' w.heap.size w'.heap.size v q ∧ Below w.heap.size w w'
theorem que_nil (w : World) : QueOwn w w.heap.size w.heap.size (.agg #[.slice none 0 0, .slice none 0 0, .int .i64 0, .int .i64 0, .int .i64 0, .int .i64 0, .int .i64 0]) Agg.zeroQ :=
  ⟨_, _, rfl, ⟨World.ownsRow_nil _ _ _ _, Nat.le_refl _, Nat.le_refl _, fun g hg => by simp [Value.ownBlock] at hg⟩, ⟨World.ownsRow_nil _ _ _ _, Nat.le_refl _, Nat.le_refl _, fun g hg => by simp [Value.ownBlock] at hg⟩⟩
theorem e_ownsRow_set {w : World} {base e size n d o : Nat} {v u : Value} {xs : List Value} (h : w.ownsRow base e size v n xs) (hd : d < base) : (w.setCell ⟨d, o, none⟩ u).ownsRow base e size v n xs := by
  refine h.kept (row := some d) ⟨rfl, rfl, rfl, by simp [World.setCell], fun k hk hne => Below.heap_setCell _ _ _ _ (fun e => hne (by rw [e]))⟩ ?_
  cases hv : v.ownBlock with
  | none => exact .inl rfl
  | some g => exact .inr (fun e => by have := (h.lt g hv).1; cases e; omega)
end Go.Proofs.Ythkokeeciicdnaa
