/-
  Variables of four and of five cells; windows with an inverse, and deques, whose rows are the call's own.
-/
import Derived.Test.YtehfijijapfomaaGreatRw
import Derived.Test.YtehfijijapfomaaGreatMa
import Derived.Deep.AppendSrc
import Derived.Lib.AppendZeros
import Derived.OwnWalk
namespace Go.Proofs.YtehfijijapfomaaGreat
set_option linter.unusedSimpArgs false
set_option linter.unusedVariables false
open Go.RowKit
/-- A variable of 4 cells: its block. -/
def Box4 (w : World) (c : Nat) (T : TypeId) (v0 v1 v2 v3 : Value) : Prop := w.heap[c]? = some (.cells #[v0, v1, v2, v3] T (0, 0))
section
variable {w w' : World} {c d : Nat} {T : TypeId} {v0 v1 v2 v3 : Value}
theorem Box4.new (w : World) (T : TypeId) (v0 v1 v2 v3 : Value) : Box4 (w.alloc (.cells #[v0, v1, v2, v3] T)) w.heap.size T v0 v1 v2 v3 := heap_alloc_new w _
theorem Box4.new1 {Y : World} {g : Nat} (T : TypeId) (v0 v1 v2 v3 : Value) (hg : g = Y.heap.size) : Box4 (Y.alloc (.cells #[v0, v1, v2, v3] T)) g T v0 v1 v2 v3 := by
  subst hg; exact Box4.new Y T v0 v1 v2 v3
theorem Box4.lt (h : Box4 w c T v0 v1 v2 v3) : c < w.heap.size := (Array.getElem?_eq_some_iff.1 h).1
theorem Box4.below {b : Nat} (h : Box4 w c T v0 v1 v2 v3) (hb : Below b w w') (hc : c < b) : Box4 w' c T v0 v1 v2 v3 := (hb.block c hc).trans h
theorem Box4.call (h : Box4 w c T v0 v1 v2 v3) (hb : Below w.heap.size w w') : Box4 w' c T v0 v1 v2 v3 := h.below hb h.lt
theorem Box4.callD (h : Box4 w c T v0 v1 v2 v3) (hb : Below w.drew.heap.size w.drew w') : Box4 w' c T v0 v1 v2 v3 := Box4.call (w := w.drew) h hb
theorem Box4.alloc (h : Box4 w c T v0 v1 v2 v3) (o : Obj) : Box4 (w.alloc o) c T v0 v1 v2 v3 := h.call ((Below.refl _ _).alloc (Nat.le_refl _) _)
theorem Box4.grown {row : Option Nat} (h : Box4 w c T v0 v1 v2 v3) (hg : w.grownBy w' row) (hr : row ≠ some c) : Box4 w' c T v0 v1 v2 v3 := (hg.block c h.lt (fun e => hr e.symm)).trans h
theorem Box4.cells (h : Box4 w c T v0 v1 v2 v3) : w.cell? ⟨c, 0, none⟩ = some v0 ∧ w.cell? ⟨c, 1, none⟩ = some v1 ∧ w.cell? ⟨c, 2, none⟩ = some v2 ∧ w.cell? ⟨c, 3, none⟩ = some v3 := by
  unfold Box4 at h
  refine ⟨?_, ?_, ?_, ?_⟩ <;> simp [World.cell?, h]
theorem Box4.free (h : Box4 w c T v0 v1 v2 v3) (o : Nat) : w.frozen? ⟨c, o, none⟩ = false := by
  unfold Box4 at h
  simp [World.frozen?, h]
theorem Box4.set0 (h : Box4 w c T v0 v1 v2 v3) (u : Value) : Box4 (w.setCell ⟨c, 0, none⟩ u) c T u v1 v2 v3 := by unfold Box4 at *; simp [World.setCell, Array.getElem?_modify, h]
theorem Box4.set1 (h : Box4 w c T v0 v1 v2 v3) (u : Value) : Box4 (w.setCell ⟨c, 1, none⟩ u) c T v0 u v2 v3 := by unfold Box4 at *; simp [World.setCell, Array.getElem?_modify, h]
theorem Box4.set2 (h : Box4 w c T v0 v1 v2 v3) (u : Value) : Box4 (w.setCell ⟨c, 2, none⟩ u) c T v0 v1 u v3 := by unfold Box4 at *; simp [World.setCell, Array.getElem?_modify, h]
theorem Box4.set3 (h : Box4 w c T v0 v1 v2 v3) (u : Value) : Box4 (w.setCell ⟨c, 3, none⟩ u) c T v0 v1 v2 u := by unfold Box4 at *; simp [World.setCell, Array.getElem?_modify, h]
theorem Box4.other (h : Box4 w c T v0 v1 v2 v3) (hd : c ≠ d) (o : Nat) (u : Value) : Box4 (w.setCell ⟨d, o, none⟩ u) c T v0 v1 v2 v3 := by
  unfold Box4 at *
  rw [Below.heap_setCell _ _ _ _ (by simpa using hd)]
  exact h
end
/-- A variable of 5 cells: its block. -/
def Box5 (w : World) (c : Nat) (T : TypeId) (v0 v1 v2 v3 v4 : Value) : Prop := w.heap[c]? = some (.cells #[v0, v1, v2, v3, v4] T (0, 0))
section
variable {w w' : World} {c d : Nat} {T : TypeId} {v0 v1 v2 v3 v4 : Value}
theorem Box5.new (w : World) (T : TypeId) (v0 v1 v2 v3 v4 : Value) : Box5 (w.alloc (.cells #[v0, v1, v2, v3, v4] T)) w.heap.size T v0 v1 v2 v3 v4 := heap_alloc_new w _
theorem Box5.new1 {Y : World} {g : Nat} (T : TypeId) (v0 v1 v2 v3 v4 : Value) (hg : g = Y.heap.size) : Box5 (Y.alloc (.cells #[v0, v1, v2, v3, v4] T)) g T v0 v1 v2 v3 v4 := by
  subst hg; exact Box5.new Y T v0 v1 v2 v3 v4
theorem Box5.lt (h : Box5 w c T v0 v1 v2 v3 v4) : c < w.heap.size := (Array.getElem?_eq_some_iff.1 h).1
theorem Box5.below {b : Nat} (h : Box5 w c T v0 v1 v2 v3 v4) (hb : Below b w w') (hc : c < b) : Box5 w' c T v0 v1 v2 v3 v4 := (hb.block c hc).trans h
theorem Box5.call (h : Box5 w c T v0 v1 v2 v3 v4) (hb : Below w.heap.size w w') : Box5 w' c T v0 v1 v2 v3 v4 := h.below hb h.lt
theorem Box5.callD (h : Box5 w c T v0 v1 v2 v3 v4) (hb : Below w.drew.heap.size w.drew w') : Box5 w' c T v0 v1 v2 v3 v4 := Box5.call (w := w.drew) h hb
theorem Box5.alloc (h : Box5 w c T v0 v1 v2 v3 v4) (o : Obj) : Box5 (w.alloc o) c T v0 v1 v2 v3 v4 := h.call ((Below.refl _ _).alloc (Nat.le_refl _) _)
theorem Box5.grown {row : Option Nat} (h : Box5 w c T v0 v1 v2 v3 v4) (hg : w.grownBy w' row) (hr : row ≠ some c) : Box5 w' c T v0 v1 v2 v3 v4 := (hg.block c h.lt (fun e => hr e.symm)).trans h
theorem Box5.cells (h : Box5 w c T v0 v1 v2 v3 v4) : w.cell? ⟨c, 0, none⟩ = some v0 ∧ w.cell? ⟨c, 1, none⟩ = some v1 ∧ w.cell? ⟨c, 2, none⟩ = some v2 ∧ w.cell? ⟨c, 3, none⟩ = some v3 ∧ w.cell? ⟨c, 4, none⟩ = some v4 := by
  unfold Box5 at h
  refine ⟨?_, ?_, ?_, ?_, ?_⟩ <;> simp [World.cell?, h]
theorem Box5.free (h : Box5 w c T v0 v1 v2 v3 v4) (o : Nat) : w.frozen? ⟨c, o, none⟩ = false := by
  unfold Box5 at h
  simp [World.frozen?, h]
theorem Box5.set0 (h : Box5 w c T v0 v1 v2 v3 v4) (u : Value) : Box5 (w.setCell ⟨c, 0, none⟩ u) c T u v1 v2 v3 v4 := by unfold Box5 at *; simp [World.setCell, Array.getElem?_modify, h]
theorem Box5.set1 (h : Box5 w c T v0 v1 v2 v3 v4) (u : Value) : Box5 (w.setCell ⟨c, 1, none⟩ u) c T v0 u v2 v3 v4 := by unfold Box5 at *; simp [World.setCell, Array.getElem?_modify, h]
theorem Box5.set2 (h : Box5 w c T v0 v1 v2 v3 v4) (u : Value) : Box5 (w.setCell ⟨c, 2, none⟩ u) c T v0 v1 u v3 v4 := by unfold Box5 at *; simp [World.setCell, Array.getElem?_modify, h]
theorem Box5.set3 (h : Box5 w c T v0 v1 v2 v3 v4) (u : Value) : Box5 (w.setCell ⟨c, 3, none⟩ u) c T v0 v1 v2 u v4 := by unfold Box5 at *; simp [World.setCell, Array.getElem?_modify, h]
theorem Box5.set4 (h : Box5 w c T v0 v1 v2 v3 v4) (u : Value) : Box5 (w.setCell ⟨c, 4, none⟩ u) c T v0 v1 v2 v3 u := by unfold Box5 at *; simp [World.setCell, Array.getElem?_modify, h]
theorem Box5.other (h : Box5 w c T v0 v1 v2 v3 v4) (hd : c ≠ d) (o : Nat) (u : Value) : Box5 (w.setCell ⟨d, o, none⟩ u) c T v0 v1 v2 v3 v4 := by
  unfold Box5 at *
  rw [Below.heap_setCell _ _ _ _ (by simpa using hd)]
  exact h
end
/-- A window with an inverse whose row is the call's own. -/
def IvOwn (w : World) (lo hi : Nat) (v : Value) (s : Agg.Iv) : Prop :=
  ∃ iv, v = .agg #[iv, .int .i64 s.agg.x, .int .i64 s.agg.y, .int .i64 s.agg.z] ∧ OwnR w lo hi iv s.items.length s.items
theorem IvOwn.kept {w w' : World} {lo hi : Nat} {v : Value} {s : Agg.Iv} {row : Option Nat} (h : IvOwn w lo hi v s) (hg : w.grownBy w' row) (hr : ∀ j, row = some j → j < lo ∨ hi ≤ j) : IvOwn w' lo hi v s := by
  obtain ⟨iv, hv, h2⟩ := h
  exact ⟨iv, hv, h2.kept hg hr⟩
theorem IvOwn.below {w w' : World} {lo hi : Nat} {v : Value} {s : Agg.Iv} (h : IvOwn w lo hi v s) (hb : Below w.heap.size w w') : IvOwn w' lo hi v s :=
  h.kept (row := none) (Below.grownNone hb _) (fun j e => by cases e)
theorem IvOwn.read {w : World} {lo hi : Nat} {v : Value} {s : Agg.Iv} (h : IvOwn w lo hi v s) : ∃ ia ic, v = .agg #[.slice ia s.items.length ic, .int .i64 s.agg.x, .int .i64 s.agg.y, .int .i64 s.agg.z] ∧ Nums .i64 w ia s.items.length ic s.items := by
  obtain ⟨iv, rfl, h2⟩ := h
  obtain ⟨ia, ic, rfl, hI, -⟩ := h2.nums
  exact ⟨ia, ic, rfl, hI⟩
end Go.Proofs.YtehfijijapfomaaGreat
