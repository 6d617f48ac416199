/-
  Two arguments of three numbers, two answers of three numbers each: what the exact laws of CombineValues and RemoveFirst keep in memory.
-/
import Derived.Test.YtehfijijapfomaaW
import Derived.Deep.RegionHeld3
import Derived.Deep.DeepCutAuto
namespace Go.Proofs.Ytehfijijapfomaa
set_option linter.unusedSimpArgs false
set_option linter.unusedVariables false
open Go.RowKit
/-- Below the blocks of the world W nothing has changed, and there are no fewer blocks. -/
def Since (W wx : World) : Prop := Below W.heap.size W wx ∧ W.heap.size ≤ wx.heap.size
theorem Since.refl (W : World) : Since W W := ⟨Below.refl _ _, Nat.le_refl _⟩
theorem Since.call {W X w2 : World} (h : Since W X) (hb : Below X.heap.size X w2) : Since W w2 := ⟨h.1.trans (hb.mono h.2), Nat.le_trans h.2 hb.size⟩
theorem Since.alloc {W X : World} (h : Since W X) (o : Obj) : Since W (X.alloc o) := h.call ((Below.refl _ _).alloc (Nat.le_refl _) _)
theorem Since.drew {W X : World} (h : Since W X) : Since W X.drew := h.call (Below.refl _ _).drew
theorem Since.cell {W X : World} {b o : Nat} {u : Value} (h : Since W X) (q : W.cell? ⟨b, o, none⟩ = some u) (hb : b < W.heap.size) : X.cell? ⟨b, o, none⟩ = some u := ((bcell h.1).1 _ _ hb).trans q
theorem Since.set {W X : World} (h : Since W X) {c : Nat} (hc : W.heap.size ≤ c) (o : Nat) (u : Value) : Since W (X.setCell ⟨c, o, none⟩ u) :=
  ⟨h.1.setCell hc _, by have := (h.1.setCell (p := ⟨c, o, none⟩) hc u).size; exact this⟩

/-- Where the answer's variable lies, if it is made already. -/
def NewAt (n : Nat) (wx : World) : Option Nat → Prop
  | none => True
  | some c => n ≤ c ∧ wx.cell? ⟨c, 0, none⟩ = some (.int .i64 0) ∧ wx.cell? ⟨c, 1, none⟩ = some (.int .i64 0) ∧ wx.cell? ⟨c, 2, none⟩ = some (.int .i64 0) ∧ wx.frozen? ⟨c, 0, none⟩ = false ∧ wx.frozen? ⟨c, 1, none⟩ = false ∧ wx.frozen? ⟨c, 2, none⟩ = false ∧ c < wx.heap.size
theorem NewAt.call {n : Nat} {X w2 : World} {o : Option Nat} (h : NewAt n X o) (hb : Below X.heap.size X w2) : NewAt n w2 o := by
  cases o with
  | none => trivial
  | some c =>
    obtain ⟨gl, n0, n1, n2, g0, g1, g2, gs⟩ := h
    have hz := hb.size
    exact ⟨gl, ((bcell hb).1 _ _ gs).trans n0, ((bcell hb).1 _ _ gs).trans n1, ((bcell hb).1 _ _ gs).trans n2, ((bcell hb).2 _ _ gs).trans g0, ((bcell hb).2 _ _ gs).trans g1, ((bcell hb).2 _ _ gs).trans g2, by omega⟩
theorem NewAt.drew {n : Nat} {X : World} {o : Option Nat} (h : NewAt n X o) : NewAt n X.drew o := by
  cases o with
  | none => trivial
  | some c => exact h
theorem NewAt.fresh {n : Nat} {Y : World} {T : TypeId} (h : n ≤ Y.heap.size) : NewAt n (Y.alloc (.cells #[.int .i64 0, .int .i64 0, .int .i64 0] T)) (some Y.heap.size) :=
  ⟨h, by simp, by simp, by simp, by simp only [World.frozen?, heap_alloc_new]; simp, by simp only [World.frozen?, heap_alloc_new]; simp, by simp only [World.frozen?, heap_alloc_new]; simp, by simp⟩

/-- An answer in a variable of its own, made since W. -/
def Got (W wx : World) (c : Nat) (v : Agg.V) : Prop :=
  W.heap.size ≤ c ∧ c < wx.heap.size ∧ wx.cell? ⟨c, 0, none⟩ = some (.int .i64 v.x) ∧ wx.cell? ⟨c, 1, none⟩ = some (.int .i64 v.y) ∧ wx.cell? ⟨c, 2, none⟩ = some (.int .i64 v.z) ∧ Since W wx
theorem Got.new {W Y : World} {v : Agg.V} {T : TypeId} (h : Since W Y) : Got W (Y.alloc (.cells #[.int .i64 v.x, .int .i64 v.y, .int .i64 v.z] T)) Y.heap.size v :=
  ⟨h.2, by simp, by simp [World.cell?_alloc_new], by simp [World.cell?_alloc_new], by simp [World.cell?_alloc_new], h.alloc _⟩
theorem Got.set {W X : World} {c : Nat} {v : Agg.V} {x y z : Value} (h : Since W X) (hc : W.heap.size ≤ c) (n0 : X.cell? ⟨c, 0, none⟩ = some x) (n1 : X.cell? ⟨c, 1, none⟩ = some y) (n2 : X.cell? ⟨c, 2, none⟩ = some z) (gs : c < X.heap.size) :
    Got W (((X.setCell ⟨c, 0, none⟩ (.int .i64 v.x)).setCell ⟨c, 1, none⟩ (.int .i64 v.y)).setCell ⟨c, 2, none⟩ (.int .i64 v.z)) c v :=
  ⟨hc, by simpa [go_sem] using gs, by simp [go_sem, n0, n1, n2], by simp [go_sem, n0, n1, n2], by simp [go_sem, n0, n1, n2], ((h.set hc _ _).set hc _ _).set hc _ _⟩
end Go.Proofs.Ytehfijijapfomaa
