import Derived.Test.YtolgclajlklmaaaGreatSx
import Derived.Test.YtolgclajlklmaaaGreatTb
import Derived.Test.YtolgclajlklmaaaGreatRw
import Derived.Test.YtolgclajlklmaaaGreatTa
import Derived.Deep.DeepCutAuto
import Derived.Test.YtolgclajlklmaaaGreat3t
import Derived.Test.YtolgclajlklmaaaGreat3e
import Derived.Test.YtolgclajlklmaaaGreat3y
import Derived.Deep.RegionHeld3
import Derived.Deep.DeepMust
namespace Go.Proofs.YtolgclajlklmaaaGreat
set_option linter.unusedSimpArgs false
set_option linter.unusedVariables false
open Go.RowKit
def Flipped (k : Int) (I : List Int) (fl co : Int) (base : Nat) (f0 : Option Nat) (w : World) (e : Ending) (w' : World) : Prop :=
  ∃ (fa ia : Option Addr) (fc ic : Nat), e = .returned (.agg #[.slice fa I.length fc, .slice ia 0 ic, .int .i64 (Agg.unit k).x, .int .i64 (Agg.unit k).y, .int .i64 (Agg.unit k).z, .int .i64 (fl + 1), .int .i64 (co + I.length)]) ∧
    w'.ownsRow base 40 3 (.slice fa I.length fc) I.length (valRow (Agg.sufs k I I.length)) ∧ w'.ownsRow base 3 1 (.slice ia 0 ic) 0 [] ∧ Below base w w' ∧ w.grownBy w' f0
theorem g_set {w wr : World} {f0 : Option Nat} {d o : Nat} {u : Value} (h : w.grownBy wr f0) (hd : w.heap.size ≤ d) : w.grownBy (wr.setCell ⟨d, o, none⟩ u) f0 :=
  ⟨h.os, h.tape, h.output, by simpa [World.setCell] using h.size, fun k hk hne => (Below.heap_setCell _ _ _ _ (fun e => by simp at e; omega)).trans (h.block k hk hne)⟩
theorem g_call {w wr w2 : World} {f0 : Option Nat} (h : w.grownBy wr f0) (hb : Below wr.heap.size wr w2) : w.grownBy w2 f0 := by
  have g := Below.grownNone hb none
  exact ⟨g.os.trans h.os, g.tape.trans h.tape, g.output.trans h.output, Nat.le_trans h.size g.size, fun k hk hne => (g.block k (Nat.lt_of_lt_of_le hk h.size) (by simp)).trans (h.block k hk hne)⟩
theorem g_grown {w wr w2 : World} {f0 f1 : Option Nat} {o : Obj} (h : w.grownBy wr f0) (hg : (wr.alloc o).grownBy w2 f1) (hf : ∀ g, f1 = some g → f0 = some g ∨ w.heap.size ≤ g) : w.grownBy w2 f0 := by
  have a := g_call h ((Below.refl wr.heap.size wr).alloc (Nat.le_refl _) o)
  refine ⟨hg.os.trans a.os, hg.tape.trans a.tape, hg.output.trans a.output, Nat.le_trans a.size hg.size, fun k hk hne => (hg.block k (Nat.lt_of_lt_of_le hk a.size) (fun e => ?_)).trans (a.block k hk hne)⟩
  rcases hf k (by rw [e]) with h1 | h1
  · exact hne (by rw [h1])
  · omega
theorem b_set_far {W : World} {d c o p : Nat} {u : Value} (h : c ≠ d) : (W.setCell ⟨d, o, none⟩ u).cell? ⟨c, p, none⟩ = W.cell? ⟨c, p, none⟩ :=
  World.cell?_of_block (by rw [Below.heap_setCell _ _ _ _ (by simpa using h)])
theorem own_set_ne {w : World} {base e size n d o : Nat} {v u : Value} {xs : List Value} (h : w.ownsRow base e size v n xs) (hd : ∀ g, v.ownBlock = some g → g ≠ d) : (w.setCell ⟨d, o, none⟩ u).ownsRow base e size v n xs := by
  refine h.kept (row := some d) ⟨rfl, rfl, rfl, by simp [World.setCell], fun k hk hne => Below.heap_setCell _ _ _ _ (fun e => hne (by rw [e]))⟩ ?_
  cases hv : v.ownBlock with
  | none => exact .inl rfl
  | some g => exact .inr (fun e => by cases e; exact hd _ hv rfl)
theorem b_own_some {w : World} {base e size n : Nat} {v : Value} {xs : List Value} (h : w.ownsRow base e size v n xs) (hn : 0 < n) : ∃ g c, v = .slice (some ⟨g, 0, none⟩) n c ∧ base ≤ g ∧ g < w.heap.size ∧ c ≤ 9223372036854775807 ∧ n ≤ c := by
  rcases h.2 with ⟨_, h0⟩ | ⟨g, cap, cur, rfl, hb, hg, h1, h2, -⟩
  · omega
  · exact ⟨g, cap, rfl, hb, (Array.getElem?_eq_some_iff.1 hg).1, by unfold maxLen at h2; omega, h1⟩
theorem own_int_cell {w : World} {base n g c : Nat} {o : Nat} {l : List Int} (h : w.ownsRow base 3 1 (.slice (some ⟨g, o, none⟩) n c) n (l.map (Value.int .i64))) {j : Nat} (hj : j < n) : w.cell? ⟨g, o + j, none⟩ = some (.int .i64 (l[j]?.getD 0)) := by
  have ho : o = 0 := by
    rcases h.2 with ⟨e, -⟩ | ⟨g', cap, cur, e, -⟩
    · simp at e
    · simp only [Value.slice.injEq, Option.some.injEq, Addr.mk.injEq] at e; exact e.1.2.1
  subst ho
  have hl : l.length = n := by have := h.1; simpa using this
  rw [Nat.zero_add, World.ownsRow.cellAt h j (by omega)]
  simp [List.getElem?_map, List.getElem?_eq_getElem (show j < l.length by omega)]
structure FlipSt (w : World) (f0 : Option Nat) (base cv : Nat) (V : Agg.V) (fv iv : Value) (n m : Nat) (xs ys : List Value) (bx by' bz fl co : Int) (wr : World) : Prop where
  v : Box wr cv 40 V.x V.y V.z
  s : Box7 wr w.heap.size 42 fv iv (.int .i64 bx) (.int .i64 by') (.int .i64 bz) (.int .i64 fl) (.int .i64 co)
  r : Box7 wr (w.heap.size + 1) 42 (.slice none 0 0) (.slice none 0 0) (.int .i64 0) (.int .i64 0) (.int .i64 0) (.int .i64 0) (.int .i64 0)
  f : wr.ownsRow base 40 3 fv n xs
  i : wr.ownsRow base 3 1 iv m ys
  b : Below base w wr
  g : w.grownBy wr f0
section
variable {w wr w2 : World} {f0 : Option Nat} {base cv : Nat} {V : Agg.V} {fv iv : Value} {n m : Nat} {xs ys : List Value} {bx by' bz fl co : Int}
theorem FlipSt.call (h : FlipSt w f0 base cv V fv iv n m xs ys bx by' bz fl co wr) (hb : Below wr.heap.size wr w2) (hbs : base ≤ wr.heap.size) : FlipSt w f0 base cv V fv iv n m xs ys bx by' bz fl co w2 :=
  ⟨h.v.call hb, h.s.call hb, h.r.call hb, h.f.kept (Below.grownNone hb none) (by cases hv : fv.ownBlock <;> simp), h.i.kept (Below.grownNone hb none) (by cases hv : iv.ownBlock <;> simp), h.b.trans (hb.mono hbs), g_call h.g hb⟩
theorem FlipSt.drew (h : FlipSt w f0 base cv V fv iv n m xs ys bx by' bz fl co wr) : FlipSt w f0 base cv V fv iv n m xs ys bx by' bz fl co wr.drew :=
  ⟨h.v, h.s, h.r, h.f, h.i, h.b.drew, ⟨h.g.os, h.g.tape, h.g.output, h.g.size, h.g.block⟩⟩
theorem FlipSt.callD (h : FlipSt w f0 base cv V fv iv n m xs ys bx by' bz fl co wr) (hb : Below wr.drew.heap.size wr.drew w2) (hbs : base ≤ wr.heap.size) : FlipSt w f0 base cv V fv iv n m xs ys bx by' bz fl co w2 :=
  FlipSt.call (wr := wr.drew) h.drew hb hbs
theorem FlipSt.setV (h : FlipSt w f0 base cv V fv iv n m xs ys bx by' bz fl co wr) (V' : Agg.V) (hb : base ≤ cv) (hc : w.heap.size + 1 < cv) (hf : ∀ g, fv.ownBlock = some g → g < w.heap.size ∨ cv < g) (hi : ∀ g, iv.ownBlock = some g → g < w.heap.size) :
    FlipSt w f0 base cv V' fv iv n m xs ys bx by' bz fl co (((wr.setCell ⟨cv, 0, none⟩ (.int .i64 V'.x)).setCell ⟨cv, 1, none⟩ (.int .i64 V'.y)).setCell ⟨cv, 2, none⟩ (.int .i64 V'.z)) :=
  ⟨h.v.set _ _ _, ((h.s.other (by omega) _ _).other (by omega) _ _).other (by omega) _ _, ((h.r.other (by omega) _ _).other (by omega) _ _).other (by omega) _ _,
   own_set_ne (own_set_ne (own_set_ne h.f (fun g hg => by have := hf g hg; omega)) (fun g hg => by have := hf g hg; omega)) (fun g hg => by have := hf g hg; omega),
   own_set_ne (own_set_ne (own_set_ne h.i (fun g hg => by have := hi g hg; omega)) (fun g hg => by have := hi g hg; omega)) (fun g hg => by have := hi g hg; omega),
   ((h.b.setCell hb _).setCell hb _).setCell hb _, g_set (g_set (g_set h.g (by omega)) (by omega)) (by omega)⟩
theorem FlipSt.appended {o : Obj} {v' : Value} {n' : Nat} {xs' : List Value} (h : FlipSt w f0 base cv V fv iv n m xs ys bx by' bz fl co wr) (hbs : base ≤ wr.heap.size) (hc : w.heap.size + 1 < cv) (hf : ∀ g, fv.ownBlock = some g → g < w.heap.size ∨ cv < g)
    (hown : w2.ownsRow base 40 3 v' n' xs') (hg : (wr.alloc o).grownBy w2 fv.ownBlock) (hbw : base ≤ w.heap.size) (hib : ∀ g, iv.ownBlock = some g → g < w.heap.size) (hfn : ∀ g, v'.ownBlock = some g → g < w.heap.size ∨ cv < g) (hf0 : ∀ g, fv.ownBlock = some g → f0 = some g ∨ cv < g) (d : Int) :
    FlipSt w f0 base cv V v' iv n' m xs' ys bx by' bz fl (co + d) ((w2.setCell ⟨w.heap.size, 0, none⟩ v').setCell ⟨w.heap.size, 6, none⟩ (.int .i64 (co + d))) := by
  have hs2 : (wr.alloc o).heap.size ≤ w2.heap.size := hg.size
  simp at hs2
  have hne : ∀ c, w.heap.size ≤ c → c ≤ cv → fv.ownBlock ≠ some c := fun c h1 h2 e => by have := hf c e; omega
  refine ⟨?_, (((h.s.alloc o).grown hg (hne _ (by omega) (by omega))).set0 v').set6 _, ?_, ?_, ?_, ?_, g_set (g_set (g_grown h.g hg (fun g e => (hf0 g e).imp id (fun h9 => by omega))) (Nat.le_refl _)) (Nat.le_refl _)⟩
  · exact (((h.v.alloc o).grew hg (hne _ (by omega) (by omega))).set_other (by omega) _ _).set_other (by omega) _ _
  · exact (((h.r.alloc o).grown hg (hne _ (by omega) (by omega))).other (by omega) _ _).other (by omega) _ _
  · exact own_set_ne (own_set_ne hown (fun g hg => by have := hfn g hg; omega)) (fun g hg => by have := hfn g hg; omega)
  · have hi2 := (h.i.alloc o).kept hg (rows_apart (h.i.alloc o) (h.f.alloc o) (by decide))
    exact own_set_ne (own_set_ne hi2 (fun g hg => by have := hib g hg; omega)) (fun g hg => by have := hib g hg; omega)
  · have hb2 : Below base w w2 := (h.b.alloc hbs o).grown hg (by simp; omega) (fun k hk => by have := (h.f.lt k hk).1; exact this)
    exact (hb2.setCell (by simpa using hbw) _).setCell (by simpa using hbw) _
end
end Go.Proofs.YtolgclajlklmaaaGreat

namespace Go.Proofs.YtolgclajlklmaaaGreat
set_option linter.unusedSimpArgs false
set_option linter.unusedVariables false
open Go.RowKit
def Box2 (w : World) (c : Nat) (T : TypeId) (u v : Value) : Prop := w.heap[c]? = some (.cells #[u, v] T (0, 0))
section
variable {w w' : World} {c d : Nat} {T : TypeId} {u v : Value}
theorem Box2.new1 {Y : World} {g : Nat} (T : TypeId) (u v : Value) (hg : g = Y.heap.size) : Box2 (Y.alloc (.cells #[u, v] T)) g T u v := by subst hg; exact heap_alloc_new Y _
theorem Box2.lt (h : Box2 w c T u v) : c < w.heap.size := (Array.getElem?_eq_some_iff.1 h).1
theorem Box2.call (h : Box2 w c T u v) (hb : Below w.heap.size w w') : Box2 w' c T u v := (hb.block c h.lt).trans h
theorem Box2.alloc (h : Box2 w c T u v) (o : Obj) : Box2 (w.alloc o) c T u v := h.call ((Below.refl _ _).alloc (Nat.le_refl _) _)
theorem Box2.grown {row : Option Nat} (h : Box2 w c T u v) (hg : w.grownBy w' row) (hr : row ≠ some c) : Box2 w' c T u v := (hg.block c h.lt (fun e => hr e.symm)).trans h
theorem Box2.other (h : Box2 w c T u v) (hd : c ≠ d) (o : Nat) (x : Value) : Box2 (w.setCell ⟨d, o, none⟩ x) c T u v := by
  unfold Box2 at *
  rw [Below.heap_setCell _ _ _ _ (by simpa using hd)]
  exact h
theorem Box2.cells (h : Box2 w c T u v) : w.cell? ⟨c, 0, none⟩ = some u ∧ w.cell? ⟨c, 1, none⟩ = some v := by
  unfold Box2 at h
  constructor <;> simp [World.cell?, h]
end
def SteppedStk (s : Agg.S) (w : World) (e : Ending) (w' : World) : Prop := ∃ v, e = .returned (.tuple #[v, .bool true]) ∧ StkOwn w' w.heap.size w'.heap.size v s ∧ Below w.heap.size w w'
structure StepSt (w : World) (Wn on : Nat) (va vb : Value) (bx by' bz fl co : Int) (pu : Bool) (x : Int) (fv iv : Value) (n m : Nat) (xs ys : List Value) (V : Agg.V) (fl' co' : Int) (wr : World) : Prop where
  a : Box7 wr w.heap.size 42 va vb (.int .i64 bx) (.int .i64 by') (.int .i64 bz) (.int .i64 fl) (.int .i64 co)
  p : Box2 wr (w.heap.size + 1) 76 (.bool pu) (.int .i64 x)
  r : Box7 wr (w.heap.size + 1 + 1) 42 (.slice none 0 0) (.slice none 0 0) (.int .i64 0) (.int .i64 0) (.int .i64 0) (.int .i64 0) (.int .i64 0)
  o : Box7 wr on 42 fv iv (.int .i64 V.x) (.int .i64 V.y) (.int .i64 V.z) (.int .i64 fl') (.int .i64 co')
  f : wr.ownsRow Wn 40 3 fv n xs
  i : wr.ownsRow Wn 3 1 iv m ys
  b : Below w.heap.size w wr
section
variable {w wr w2 : World} {Wn on : Nat} {va vb : Value} {bx by' bz fl co : Int} {pu : Bool} {x : Int} {fv iv : Value} {n m : Nat} {xs ys : List Value} {V : Agg.V} {fl' co' : Int}
theorem StepSt.call (h : StepSt w Wn on va vb bx by' bz fl co pu x fv iv n m xs ys V fl' co' wr) (hb : Below wr.heap.size wr w2) : StepSt w Wn on va vb bx by' bz fl co pu x fv iv n m xs ys V fl' co' w2 :=
  ⟨h.a.call hb, h.p.call hb, h.r.call hb, h.o.call hb, h.f.kept (Below.grownNone hb none) (by cases hv : fv.ownBlock <;> simp), h.i.kept (Below.grownNone hb none) (by cases hv : iv.ownBlock <;> simp), h.b.trans (hb.mono h.b.size)⟩
theorem StepSt.drew (h : StepSt w Wn on va vb bx by' bz fl co pu x fv iv n m xs ys V fl' co' wr) : StepSt w Wn on va vb bx by' bz fl co pu x fv iv n m xs ys V fl' co' wr.drew :=
  ⟨h.a, h.p, h.r, h.o, h.f, h.i, h.b.drew⟩
theorem StepSt.callD (h : StepSt w Wn on va vb bx by' bz fl co pu x fv iv n m xs ys V fl' co' wr) (hb : Below wr.drew.heap.size wr.drew w2) : StepSt w Wn on va vb bx by' bz fl co pu x fv iv n m xs ys V fl' co' w2 :=
  StepSt.call (wr := wr.drew) h.drew hb
theorem StepSt.added {o : Obj} {v' : Value} {m' : Nat} {ys' : List Value} (h : StepSt w Wn on va vb bx by' bz fl co pu x fv iv n m xs ys V fl' co' wr) (hW : w.heap.size + 1 + 1 < Wn) (hon : Wn ≤ on)
    (hf : ∀ g, fv.ownBlock = some g → g < on) (hi : ∀ g, iv.ownBlock = some g → g < on)
    (hown : w2.ownsRow Wn 3 1 v' m' ys') (hg : (wr.alloc o).grownBy w2 iv.ownBlock) (hw : v'.ownBlock = iv.ownBlock ∨ ∃ g, v'.ownBlock = some g ∧ (wr.alloc o).heap.size ≤ g) :
    StepSt w Wn on va vb bx by' bz fl co pu x fv v' n m' xs ys' V fl' co' (w2.setCell ⟨on, 1, none⟩ v') := by
  have hio : ∀ c, (c < Wn ∨ on ≤ c) → iv.ownBlock ≠ some c := fun c hc e => by
    have h1 := hi c e
    have h2 := (h.i.lt c e).1
    omega
  have hvo : ∀ g, v'.ownBlock = some g → g ≠ on := fun g e => by
    rcases hw with e' | ⟨g', e', hle⟩
    · have := hi g (e' ▸ e)
      omega
    · rw [e'] at e
      simp only [Option.some.injEq] at e
      subst e
      have := h.o.lt
      simp at hle
      omega
  refine ⟨?_, ?_, ?_, ?_, ?_, ?_, ?_⟩
  · exact ((h.a.alloc o).grown hg (hio _ (.inl (by omega)))).other (by omega) _ _
  · exact ((h.p.alloc o).grown hg (hio _ (.inl (by omega)))).other (by omega) _ _
  · exact ((h.r.alloc o).grown hg (hio _ (.inl (by omega)))).other (by omega) _ _
  · exact ((h.o.alloc o).grown hg (hio _ (.inr (Nat.le_refl _)))).set1 v'
  · exact own_set_ne ((h.f.alloc o).kept hg (rows_apart (h.f.alloc o) (h.i.alloc o) (by decide))) (fun g e => by have := hf g e; omega)
  · exact own_set_ne hown hvo
  · have hb2 : Below w.heap.size w w2 := (h.b.alloc h.b.size o).grown hg (Nat.le_trans h.b.size (by simp)) (fun k hk => by have := (h.i.lt k hk).1; omega)
    exact hb2.setCell (show w.heap.size ≤ on by omega) _
theorem StepSt.back (h : StepSt w Wn on va vb bx by' bz fl co pu x fv iv n m xs ys V fl' co' wr) (hW : w.heap.size + 1 + 1 < Wn) (hon : Wn ≤ on) (hf : ∀ g, fv.ownBlock = some g → g ≠ on) (hi : ∀ g, iv.ownBlock = some g → g ≠ on) (V' : Agg.V) :
    StepSt w Wn on va vb bx by' bz fl co pu x fv iv n m xs ys V' fl' co' (((wr.setCell ⟨on, 2, none⟩ (.int .i64 V'.x)).setCell ⟨on, 3, none⟩ (.int .i64 V'.y)).setCell ⟨on, 4, none⟩ (.int .i64 V'.z)) :=
  ⟨((h.a.other (by omega) _ _).other (by omega) _ _).other (by omega) _ _, ((h.p.other (by omega) _ _).other (by omega) _ _).other (by omega) _ _, ((h.r.other (by omega) _ _).other (by omega) _ _).other (by omega) _ _, ((h.o.set2 _).set3 _).set4 _,
   own_set_ne (own_set_ne (own_set_ne h.f hf) hf) hf, own_set_ne (own_set_ne (own_set_ne h.i hi) hi) hi, ((h.b.setCell (show w.heap.size ≤ on by omega) _).setCell (show w.heap.size ≤ on by omega) _).setCell (show w.heap.size ≤ on by omega) _⟩
theorem StepSt.counted (h : StepSt w Wn on va vb bx by' bz fl co pu x fv iv n m xs ys V fl' co' wr) (hW : w.heap.size + 1 + 1 < Wn) (hon : Wn ≤ on) (hf : ∀ g, fv.ownBlock = some g → g ≠ on) (hi : ∀ g, iv.ownBlock = some g → g ≠ on) (c : Int) :
    StepSt w Wn on va vb bx by' bz fl co pu x fv iv n m xs ys V fl' c (wr.setCell ⟨on, 6, none⟩ (.int .i64 c)) :=
  ⟨h.a.other (by omega) _ _, h.p.other (by omega) _ _, h.r.other (by omega) _ _, h.o.set6 _, own_set_ne h.f hf, own_set_ne h.i hi, h.b.setCell (show w.heap.size ≤ on by omega) _⟩
theorem StepSt.done {F' : List Agg.V} {I' : List Int} (h : StepSt w Wn on va vb bx by' bz fl co pu x fv iv n m xs ys V fl' co' wr) (hW : w.heap.size + 1 + 1 < Wn) (hn : F'.length = n) (hm : I'.length = m) (hx : valRow F' = xs) (hy : I'.map (Value.int .i64) = ys) (u0 u1 u2 u3 u4 u5 u6 : Value) :
    SteppedStk ⟨F', I', V, fl', co'⟩ w (.returned (.tuple #[.agg #[fv, iv, .int .i64 V.x, .int .i64 V.y, .int .i64 V.z, .int .i64 fl', .int .i64 co'], .bool true]))
      (((((((wr.setCell ⟨w.heap.size + 1 + 1, 0, none⟩ u0).setCell ⟨w.heap.size + 1 + 1, 1, none⟩ u1).setCell ⟨w.heap.size + 1 + 1, 2, none⟩ u2).setCell ⟨w.heap.size + 1 + 1, 3, none⟩ u3).setCell ⟨w.heap.size + 1 + 1, 4, none⟩ u4).setCell ⟨w.heap.size + 1 + 1, 5, none⟩ u5).setCell ⟨w.heap.size + 1 + 1, 6, none⟩ u6) := by
  subst hn hm hx hy
  have hf : ∀ g, fv.ownBlock = some g → g ≠ w.heap.size + 1 + 1 := fun g e => by have := (h.f.lt g e).1; omega
  have hi : ∀ g, iv.ownBlock = some g → g ≠ w.heap.size + 1 + 1 := fun g e => by have := (h.i.lt g e).1; omega
  have hle : ∀ o, w.heap.size ≤ (⟨w.heap.size + 1 + 1, o, none⟩ : Addr).block := fun o => show w.heap.size ≤ w.heap.size + 1 + 1 by omega
  have hb := ((((((h.b.setCell (hle 0) u0).setCell (hle 1) u1).setCell (hle 2) u2).setCell (hle 3) u3).setCell (hle 4) u4).setCell (hle 5) u5).setCell (hle 6) u6
  refine ⟨_, rfl, ⟨fv, iv, rfl, OwnV.of (lo := Wn) ?_ (by omega) hb.size, OwnR.of (lo := Wn) ?_ (by omega) hb.size⟩, hb⟩
  · exact own_set_ne (own_set_ne (own_set_ne (own_set_ne (own_set_ne (own_set_ne (own_set_ne h.f hf) hf) hf) hf) hf) hf) hf
  · exact own_set_ne (own_set_ne (own_set_ne (own_set_ne (own_set_ne (own_set_ne (own_set_ne h.i hi) hi) hi) hi) hi) hi) hi
end
theorem map_snoc_int (l : List Int) (x : Int) : (l ++ [x]).map (Value.int .i64) = l.map (Value.int .i64) ++ [.int .i64 x] := by simp
end Go.Proofs.YtolgclajlklmaaaGreat

namespace Go.Proofs.YtolgclajlklmaaaGreat
set_option linter.unusedSimpArgs false
set_option linter.unusedVariables false
open Go.RowKit
theorem own_less {w : World} {base e size n c k : Nat} {a : Option Addr} {xs : List Value} (h : w.ownsRow base e size (.slice a n c) n xs) (hk : k ≤ n) (hn : 0 < n) : w.ownsRow base e size (.slice a k c) k (xs.take (k * size)) := by
  have hl := h.1
  have hm : k * size ≤ n * size := Nat.mul_le_mul_right _ hk
  refine ⟨by rw [List.length_take]; omega, ?_⟩
  rcases h.2 with ⟨e, h0⟩ | ⟨g, cap, cur, e, hb, hh, k1, k2, k3, k4⟩
  · simp only [Value.slice.injEq] at e
    omega
  · simp only [Value.slice.injEq] at e
    obtain ⟨rfl, -, rfl⟩ := e
    exact .inr ⟨g, c, cur, rfl, hb, hh, by omega, k2, k3, by rw [← k4, List.take_take, Nat.min_eq_left hm]⟩
theorem valRow_take (l : List Agg.V) : ∀ k, valRow (l.take k) = (valRow l).take (k * 3) := by
  induction l with
  | nil => intro k; simp [valRow]
  | cons v l ih =>
    intro k
    cases k with
    | zero => simp [valRow]
    | succ k =>
      have h1 : valRow (v :: l.take k) = [.int .i64 v.x, .int .i64 v.y, .int .i64 v.z] ++ valRow (l.take k) := by simp [valRow, valCells]
      have h2 : valRow (v :: l) = [.int .i64 v.x, .int .i64 v.y, .int .i64 v.z] ++ valRow l := by simp [valRow, valCells]
      rw [List.take_succ_cons, h1, h2, ih k, show (k + 1) * 3 = k * 3 + 1 + 1 + 1 by omega]
      simp
theorem StepSt.shorter {w wr : World} {Wn on : Nat} {va vb : Value} {bx by' bz fl co : Int} {pu : Bool} {x : Int} {a : Option Addr} {iv : Value} {n c m k : Nat} {xs ys : List Value} {V : Agg.V} {fl' co' : Int}
    (h : StepSt w Wn on va vb bx by' bz fl co pu x (.slice a n c) iv n m xs ys V fl' co' wr) (hW : w.heap.size + 1 + 1 < Wn) (hon : Wn ≤ on) (hf : ∀ g, (Value.slice a n c).ownBlock = some g → g ≠ on) (hi : ∀ g, iv.ownBlock = some g → g ≠ on) (hk : k ≤ n) (hn : 0 < n) :
    StepSt w Wn on va vb bx by' bz fl co pu x (.slice a k c) iv k m (xs.take (k * 3)) ys V fl' co' (wr.setCell ⟨on, 0, none⟩ (.slice a k c)) :=
  ⟨h.a.other (by omega) _ _, h.p.other (by omega) _ _, h.r.other (by omega) _ _, h.o.set0 _, own_set_ne (own_less h.f hk hn) (fun g hg => hf g (by cases a with | none => exact hg | some q => exact hg)), own_set_ne h.i hi, h.b.setCell (show w.heap.size ≤ on by omega) _⟩
end Go.Proofs.YtolgclajlklmaaaGreat

namespace Go.Proofs.YtolgclajlklmaaaGreat
set_option linter.unusedSimpArgs false
set_option linter.unusedVariables false
open Go.RowKit
theorem own_box_ne {w : World} {base e size n on : Nat} {v : Value} {xs : List Value} {T : TypeId} {v0 v1 v2 v3 v4 v5 v6 : Value} (h : w.ownsRow base e size v n xs) (hb : Box7 w on T v0 v1 v2 v3 v4 v5 v6) (he : e ≠ T) : ∀ g, v.ownBlock = some g → g ≠ on := by
  intro g hg hgo
  subst hgo
  obtain ⟨cur, hc⟩ := row_block h hg
  unfold Box7 at hb
  rw [hb] at hc
  simp only [Option.some.injEq, Obj.cells.injEq] at hc
  exact he hc.2.1.symm
theorem own_cap {w : World} {base e size n c : Nat} {a : Option Addr} {xs : List Value} (h : w.ownsRow base e size (.slice a n c) n xs) (hn : 0 < n) : n ≤ c ∧ c ≤ 9223372036854775807 := by
  obtain ⟨g, c', e, -, -, h1, h2⟩ := b_own_some h hn
  simp only [Value.slice.injEq] at e
  omega
theorem Agg.sOk_bounds {k : Int} {s : Agg.S} (h : Agg.sOk k s = true) : 0 ≤ s.flips ∧ s.flips ≤ 1000000 ∧ 0 ≤ s.cost ∧ s.cost ≤ 1000000 := by
  simp only [Agg.sOk, Bool.and_eq_true, decide_eq_true_eq] at h
  omega
theorem Agg.sOk_items' {k : Int} {s : Agg.S} (h : Agg.sOk k s = true) : Agg.itemsOk s.items = true := by
  simp only [Agg.sOk, Bool.and_eq_true, decide_eq_true_eq] at h
  exact h.1.2
end Go.Proofs.YtolgclajlklmaaaGreat

namespace Go.Proofs.YtolgclajlklmaaaGreat
set_option linter.unusedSimpArgs false
set_option linter.unusedVariables false
open Go.RowKit
def RefusedStk (v : Value) (w : World) (e : Ending) (w' : World) : Prop := e = .returned (.tuple #[v, .bool false]) ∧ Below w.heap.size w w'
end Go.Proofs.YtolgclajlklmaaaGreat

namespace Go.Proofs.YtolgclajlklmaaaGreat
set_option linter.unusedSimpArgs false
set_option linter.unusedVariables false
open Go.RowKit
def StepOut (b : Bool) (s : Agg.S) (w : World) (e : Ending) (w' : World) : Prop :=
  ∃ v, e = .returned (.tuple #[v, .bool b]) ∧ StkOwn w' w.heap.size w'.heap.size v s ∧ Below w.heap.size w w'
theorem StepOut.zero {w w' : World} (hb : Below w.heap.size w w') : StepOut false Agg.zeroS w (.returned (.tuple #[.agg #[.slice none 0 0, .slice none 0 0, .int .i64 0, .int .i64 0, .int .i64 0, .int .i64 0, .int .i64 0], .bool false])) w' :=
  ⟨_, rfl, ⟨_, _, rfl, ⟨World.ownsRow_nil _ _ _ _, hb.size, Nat.le_refl _, fun g hg => by simp [Value.ownBlock] at hg⟩, ⟨World.ownsRow_nil _ _ _ _, hb.size, Nat.le_refl _, fun g hg => by simp [Value.ownBlock] at hg⟩⟩, hb⟩
theorem sets7 {w wr : World} {c d : Nat} (h : Below d w wr) (hd : d ≤ c) (u0 u1 u2 u3 u4 u5 u6 : Value) :
    Below d w (((((((wr.setCell ⟨c, 0, none⟩ u0).setCell ⟨c, 1, none⟩ u1).setCell ⟨c, 2, none⟩ u2).setCell ⟨c, 3, none⟩ u3).setCell ⟨c, 4, none⟩ u4).setCell ⟨c, 5, none⟩ u5).setCell ⟨c, 6, none⟩ u6) :=
  ((((((h.setCell hd u0).setCell hd u1).setCell hd u2).setCell hd u3).setCell hd u4).setCell hd u5).setCell hd u6
theorem StkOwn.set7 {wr : World} {lo hi c : Nat} {v : Value} {s : Agg.S} (h : StkOwn wr lo hi v s) (hd : c < lo ∨ hi ≤ c) (u0 u1 u2 u3 u4 u5 u6 : Value) :
    StkOwn (((((((wr.setCell ⟨c, 0, none⟩ u0).setCell ⟨c, 1, none⟩ u1).setCell ⟨c, 2, none⟩ u2).setCell ⟨c, 3, none⟩ u3).setCell ⟨c, 4, none⟩ u4).setCell ⟨c, 5, none⟩ u5).setCell ⟨c, 6, none⟩ u6) lo hi v s := by
  obtain ⟨fv, iv, hv, h1, h2⟩ := h
  exact ⟨fv, iv, hv, ((((((h1.set hd).set hd).set hd).set hd).set hd).set hd).set hd, ((((((h2.set hd).set hd).set hd).set hd).set hd).set hd).set hd⟩
theorem StkOwn.wide {w : World} {lo hi lo' hi' : Nat} {v : Value} {s : Agg.S} (h : StkOwn w lo hi v s) (h1 : lo' ≤ lo) (h2 : hi ≤ hi') (h3 : hi' ≤ w.heap.size) : StkOwn w lo' hi' v s := by
  obtain ⟨fv, iv, hv, g1, g2⟩ := h
  exact ⟨fv, iv, hv, g1.wide h1 h2 h3, g2.wide h1 h2 h3⟩
theorem size_sets7 {wr : World} {c : Nat} (u0 u1 u2 u3 u4 u5 u6 : Value) : (((((((wr.setCell ⟨c, 0, none⟩ u0).setCell ⟨c, 1, none⟩ u1).setCell ⟨c, 2, none⟩ u2).setCell ⟨c, 3, none⟩ u3).setCell ⟨c, 4, none⟩ u4).setCell ⟨c, 5, none⟩ u5).setCell ⟨c, 6, none⟩ u6).heap.size = wr.heap.size := by simp [World.setCell]
end Go.Proofs.YtolgclajlklmaaaGreat

namespace Go.Proofs.YtolgclajlklmaaaGreat
set_option linter.unusedSimpArgs false
set_option linter.unusedVariables false
open Go.RowKit
def Agg.stNums (k : Int) (l : List (Bool × Int)) (j : Nat) : List Int := (List.range j).map fun i => Agg.num k (Agg.valS k (Agg.stAt k l (i + 1)))
theorem Agg.stNums_len (k : Int) (l : List (Bool × Int)) (j : Nat) : (Agg.stNums k l j).length = j := by simp [Agg.stNums]
theorem Agg.stNums_step (k : Int) (l : List (Bool × Int)) (j : Nat) : Agg.stNums k l (j + 1) = Agg.stNums k l j ++ [Agg.num k (Agg.valS k (Agg.stAt k l (j + 1)))] := by simp [Agg.stNums, List.range_succ]
def Agg.runOk (k : Int) (l : List (Bool × Int)) : Bool := Agg.isKind k && Agg.opsOk l
def Agg.runS (k : Int) (l : List (Bool × Int)) : Agg.S := if Agg.runOk k l then Agg.stAt k l l.length else Agg.zeroS
def Agg.runN (k : Int) (l : List (Bool × Int)) : List Int := if Agg.runOk k l then Agg.stNums k l l.length else []
def RunOut (b : Bool) (s : Agg.S) (q : List Int) (w : World) (e : Ending) (w' : World) : Prop :=
  ∃ v u n, e = .returned (.tuple #[v, u, .bool b]) ∧ StkOwn w' w.heap.size w'.heap.size v s ∧ OwnR w' w.heap.size w'.heap.size u n q ∧ Below w.heap.size w w'
theorem can_step {k : Int} {s : Agg.S} {o : Bool × Int} (h : Agg.stepOk k s o = true) : Agg.sOk k s = true ∧ Agg.can o s.size = true := by
  simp only [Agg.stepOk, Bool.and_eq_true] at h
  exact ⟨h.1.1.1, h.2⟩
theorem set7_far {W : World} {c d o : Nat} {u0 u1 u2 u3 u4 u5 u6 : Value} (h : c ≠ d) : (((((((W.setCell ⟨d, 0, none⟩ u0).setCell ⟨d, 1, none⟩ u1).setCell ⟨d, 2, none⟩ u2).setCell ⟨d, 3, none⟩ u3).setCell ⟨d, 4, none⟩ u4).setCell ⟨d, 5, none⟩ u5).setCell ⟨d, 6, none⟩ u6).cell? ⟨c, o, none⟩ = W.cell? ⟨c, o, none⟩ :=
  World.cell?_of_block (by rw [Below.heap_setCell _ _ _ _ (by simpa using h), Below.heap_setCell _ _ _ _ (by simpa using h), Below.heap_setCell _ _ _ _ (by simpa using h), Below.heap_setCell _ _ _ _ (by simpa using h), Below.heap_setCell _ _ _ _ (by simpa using h), Below.heap_setCell _ _ _ _ (by simpa using h), Below.heap_setCell _ _ _ _ (by simpa using h)])
theorem keep_alloc {W : World} {c o : Nat} {x : Obj} (h : c < W.heap.size) : (W.alloc x).cell? ⟨c, o, none⟩ = W.cell? ⟨c, o, none⟩ :=
  World.cell?_of_block (Below.heap_alloc W x c h)
structure RunSt (w : World) (sv : Nat) (fv iv : Value) (bx by' bz fl co : Int) (ov : Value) (j : Nat) (ys : List Value) (wr : World) : Prop where
  s : Box7 wr sv 42 fv iv (.int .i64 bx) (.int .i64 by') (.int .i64 bz) (.int .i64 fl) (.int .i64 co)
  r : Box7 wr w.heap.size 42 (.slice none 0 0) (.slice none 0 0) (.int .i64 0) (.int .i64 0) (.int .i64 0) (.int .i64 0) (.int .i64 0)
  o : wr.ownsRow (w.heap.size + 1) 3 1 ov j ys
  b : Below w.heap.size w wr
theorem RunSt.call {w wr w2 : World} {sv : Nat} {fv iv : Value} {bx by' bz fl co : Int} {ov : Value} {j : Nat} {ys : List Value} (h : RunSt w sv fv iv bx by' bz fl co ov j ys wr) (hb : Below wr.heap.size wr w2) : RunSt w sv fv iv bx by' bz fl co ov j ys w2 :=
  ⟨h.s.call hb, h.r.call hb, h.o.kept (Below.grownNone hb none) (by cases hv : ov.ownBlock <;> simp), h.b.trans (hb.mono h.b.size)⟩
theorem RunSt.callD {w wr w2 : World} {sv : Nat} {fv iv : Value} {bx by' bz fl co : Int} {ov : Value} {j : Nat} {ys : List Value} (h : RunSt w sv fv iv bx by' bz fl co ov j ys wr) (hb : Below wr.drew.heap.size wr.drew w2) : RunSt w sv fv iv bx by' bz fl co ov j ys w2 :=
  RunSt.call (wr := wr.drew) ⟨h.s, h.r, h.o, h.b.drew⟩ hb
theorem StkOwn.valsF {w : World} {lo hi : Nat} {iv u2 u3 u4 u5 u6 : Value} {s : Agg.S} {ga : Option Addr} {gc : Nat} (h : StkOwn w lo hi (.agg #[.slice ga s.front.length gc, iv, u2, u3, u4, u5, u6]) s) : Vals w ga s.front.length gc s.front := by
  obtain ⟨fv, iv', hv, h1, -⟩ := h
  simp only [Value.agg.injEq, Array.mk.injEq, List.cons.injEq] at hv
  obtain ⟨rfl, -⟩ := hv
  obtain ⟨fa, fc, e, hF⟩ := h1.vals
  simp only [Value.slice.injEq] at e
  obtain ⟨rfl, -, rfl⟩ := e
  exact hF
theorem StkOwn.rows {w : World} {lo hi : Nat} {fv iv u2 u3 u4 u5 u6 : Value} {s : Agg.S} (h : StkOwn w lo hi (.agg #[fv, iv, u2, u3, u4, u5, u6]) s) : OwnV w lo hi fv s.front.length s.front ∧ OwnR w lo hi iv s.items.length s.items := by
  obtain ⟨fv', iv', hv, h1, h2⟩ := h
  simp only [Value.agg.injEq, Array.mk.injEq, List.cons.injEq] at hv
  obtain ⟨rfl, rfl, -⟩ := hv
  exact ⟨h1, h2⟩
theorem Box7.sets {wr : World} {c : Nat} {T : TypeId} {v0 v1 v2 v3 v4 v5 v6 : Value} (h : Box7 wr c T v0 v1 v2 v3 v4 v5 v6) (u0 u1 u2 u3 u4 u5 u6 : Value) :
    Box7 (((((((wr.setCell ⟨c, 0, none⟩ u0).setCell ⟨c, 1, none⟩ u1).setCell ⟨c, 2, none⟩ u2).setCell ⟨c, 3, none⟩ u3).setCell ⟨c, 4, none⟩ u4).setCell ⟨c, 5, none⟩ u5).setCell ⟨c, 6, none⟩ u6) c T u0 u1 u2 u3 u4 u5 u6 :=
  ((((((h.set0 u0).set1 u1).set2 u2).set3 u3).set4 u4).set5 u5).set6 u6
theorem Box7.others {wr : World} {c d : Nat} {T : TypeId} {v0 v1 v2 v3 v4 v5 v6 : Value} (h : Box7 wr c T v0 v1 v2 v3 v4 v5 v6) (hd : c ≠ d) (u0 u1 u2 u3 u4 u5 u6 : Value) :
    Box7 (((((((wr.setCell ⟨d, 0, none⟩ u0).setCell ⟨d, 1, none⟩ u1).setCell ⟨d, 2, none⟩ u2).setCell ⟨d, 3, none⟩ u3).setCell ⟨d, 4, none⟩ u4).setCell ⟨d, 5, none⟩ u5).setCell ⟨d, 6, none⟩ u6) c T v0 v1 v2 v3 v4 v5 v6 :=
  ((((((h.other hd 0 u0).other hd 1 u1).other hd 2 u2).other hd 3 u3).other hd 4 u4).other hd 5 u5).other hd 6 u6
theorem own_sets7 {w : World} {base e size n d : Nat} {v : Value} {xs : List Value} (h : w.ownsRow base e size v n xs) (hd : ∀ g, v.ownBlock = some g → g ≠ d) (u0 u1 u2 u3 u4 u5 u6 : Value) :
    (((((((w.setCell ⟨d, 0, none⟩ u0).setCell ⟨d, 1, none⟩ u1).setCell ⟨d, 2, none⟩ u2).setCell ⟨d, 3, none⟩ u3).setCell ⟨d, 4, none⟩ u4).setCell ⟨d, 5, none⟩ u5).setCell ⟨d, 6, none⟩ u6).ownsRow base e size v n xs :=
  own_set_ne (own_set_ne (own_set_ne (own_set_ne (own_set_ne (own_set_ne (own_set_ne h hd) hd) hd) hd) hd) hd) hd
theorem RunSt.far {w wr : World} {sv d : Nat} {fv iv : Value} {bx by' bz fl co : Int} {ov : Value} {j : Nat} {ys : List Value} (h : RunSt w sv fv iv bx by' bz fl co ov j ys wr) (h1 : sv ≠ d) (h2 : w.heap.size < d) (h3 : ∀ g, ov.ownBlock = some g → g ≠ d) (u0 u1 u2 u3 u4 u5 u6 : Value) :
    RunSt w sv fv iv bx by' bz fl co ov j ys (((((((wr.setCell ⟨d, 0, none⟩ u0).setCell ⟨d, 1, none⟩ u1).setCell ⟨d, 2, none⟩ u2).setCell ⟨d, 3, none⟩ u3).setCell ⟨d, 4, none⟩ u4).setCell ⟨d, 5, none⟩ u5).setCell ⟨d, 6, none⟩ u6) :=
  ⟨h.s.others h1 _ _ _ _ _ _ _, h.r.others (by omega) _ _ _ _ _ _ _, own_sets7 h.o h3 _ _ _ _ _ _ _, sets7 h.b (by omega) _ _ _ _ _ _ _⟩
theorem RunSt.put {w wr : World} {sv : Nat} {fv iv : Value} {bx by' bz fl co : Int} {ov : Value} {j : Nat} {ys : List Value} (h : RunSt w sv fv iv bx by' bz fl co ov j ys wr) (h2 : w.heap.size < sv) (h3 : ∀ g, ov.ownBlock = some g → g ≠ sv) (u0 u1 : Value) (u2 u3 u4 u5 u6 : Int) :
    RunSt w sv u0 u1 u2 u3 u4 u5 u6 ov j ys (((((((wr.setCell ⟨sv, 0, none⟩ u0).setCell ⟨sv, 1, none⟩ u1).setCell ⟨sv, 2, none⟩ (.int .i64 u2)).setCell ⟨sv, 3, none⟩ (.int .i64 u3)).setCell ⟨sv, 4, none⟩ (.int .i64 u4)).setCell ⟨sv, 5, none⟩ (.int .i64 u5)).setCell ⟨sv, 6, none⟩ (.int .i64 u6)) :=
  ⟨h.s.sets _ _ _ _ _ _ _, h.r.others (by omega) _ _ _ _ _ _ _, own_sets7 h.o h3 _ _ _ _ _ _ _, sets7 h.b (by omega) _ _ _ _ _ _ _⟩
theorem RunSt.appended {w wr w2 : World} {sv : Nat} {fv iv : Value} {bx by' bz fl co : Int} {ov v' : Value} {j j' : Nat} {ys ys' : List Value} {o : Obj} (h : RunSt w sv fv iv bx by' bz fl co ov j ys wr) (h3 : ∀ g, ov.ownBlock = some g → g ≠ sv)
    (hown : w2.ownsRow (w.heap.size + 1) 3 1 v' j' ys') (hg : (wr.alloc o).grownBy w2 ov.ownBlock) : RunSt w sv fv iv bx by' bz fl co v' j' ys' w2 :=
  ⟨(h.s.alloc o).grown hg (fun e => h3 _ e rfl), (h.r.alloc o).grown hg (fun e => by have := (h.o.lt _ e).1; omega), hown,
   (h.b.alloc h.b.size o).grown hg (by have := h.b.size; simp; omega) (fun g e => by have := (h.o.lt _ e).1; omega)⟩
end Go.Proofs.YtolgclajlklmaaaGreat
