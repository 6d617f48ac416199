import Derived.Test.YtolgclajlklmaaaGreat6zm
import Derived.Test.YtolgclajlklmaaaGreatDz
namespace Go.Proofs.YtolgclajlklmaaaGreat
set_option linter.unusedSimpArgs false
set_option linter.unusedVariables false
open Go.RowKit
set_option maxHeartbeats 4000000 in
theorem s_l6Number_any (ia : Option Addr) (n ic : Nat) (pa : Option Addr) (m pc : Nat) (fi nx dr : Int) (I : List Int) (w : World) (hI : Nums .i64 w ia n ic I) :
    Calls Tryz.prog 40 #[.agg #[.slice ia n ic, .slice pa m pc, .int .i64 fi, .int .i64 nx, .int .i64 dr]] w fun e w' => e = .returned (.int .i64 (if I.length = 0 then -1 else I[0]?.getD 0)) ∧ Below w.heap.size w w' := by
  have hIl : I.length = n := hI.1
  have hnc := hI.2.1
  have hcm : ic ≤ 9223372036854775807 := by have := hI.2.2.1; unfold maxLen at this; omega
  obtain ⟨W, hW⟩ : ∃ W, W = w.alloc (.cells #[.slice ia n ic, .slice pa m pc, .int .i64 fi, .int .i64 nx, .int .i64 dr] 28) := ⟨_, rfl⟩
  have HX := Lib.hid (show Box5 W w.heap.size 28 (.slice ia n ic) (.slice pa m pc) (.int .i64 fi) (.int .i64 nx) (.int .i64 dr) from by rw [hW]; exact Box5.new _ _ _ _ _ _ _)
  have HB := Lib.hid (show Below w.heap.size w W from by rw [hW]; exact (Below.refl _ _).alloc (Nat.le_refl _) _)
  have HI := Lib.hid (hI.below HB.out)
  clear hI
  obtain ⟨q0, q1, q2, q3, q4⟩ := HX.out.cells
  by_cases h0 : n = 0
  · rw [if_pos (show I.length = 0 by omega)]
    subst h0
    clear hIl
    go_enter Tryz.func40, Tryz.ntmps40
    go_upto_region 1 with (fail)
    rw [← hW]
    clear hW
    go_wp2_with fail
    go_returns
    exact ⟨rfl, HB.out⟩
  · rw [if_neg (show ¬ I.length = 0 by omega)]
    obtain ⟨rn, hrn⟩ : ∃ rn, rn = I[0]?.getD 0 := ⟨_, rfl⟩
    rw [← hrn]
    have h0I : ¬ ((n : Int) = 0) := by omega
    have hpI : (0 : Int) < (n : Int) := by omega
    have hpN : 0 < n := by omega
    go_enter Tryz.func40, Tryz.ntmps40
    go_upto_region 1 with (fail)
    rw [← hW]
    clear hW
    rcases HI.out.2.2.2 with h | ⟨ib0, ioff, rfl, hib, hics⟩
    · omega
    · have hc := hics 0 hpN
      rw [← hrn, Nat.add_zero] at hc
      clear hrn
      go_wp2_with fail
      go_returns
      exact ⟨rfl, HB.out⟩
def DqRunOut (b : Bool) (s : Agg.Dq) (q : List Int) (w : World) (e : Ending) (w' : World) : Prop :=
  ∃ v u n, e = .returned (.tuple #[v, u, .bool b]) ∧ DqOwn w' w.heap.size w'.heap.size v s ∧ OwnR w' w.heap.size w'.heap.size u n q ∧ Below w.heap.size w w'
def DqRunApart (b : Bool) (s : Agg.Dq) (q : List Int) (w : World) (e : Ending) (w' : World) : Prop :=
  ∃ v u n mid, e = .returned (.tuple #[v, u, .bool b]) ∧ DqOwn w' w.heap.size mid v s ∧ OwnR w' mid w'.heap.size u n q ∧ w.heap.size ≤ mid ∧ mid ≤ w'.heap.size ∧ Below w.heap.size w w'
theorem DqRunApart.out {b : Bool} {s : Agg.Dq} {q : List Int} {w : World} {e : Ending} {w' : World} (h : DqRunApart b s q w e w') : DqRunOut b s q w e w' := by
  obtain ⟨v, u, n, mid, he, h1, h2, h3, h4, h5⟩ := h
  exact ⟨v, u, n, he, h1.wide (Nat.le_refl _) h4 (Nat.le_refl _), ⟨owns_lower h2.1 h3, Nat.le_trans h3 h2.2.1, h2.2.2.1, h2.2.2.2⟩, h5⟩
theorem OwnR.of6d {w : World} {lo lo' n : Nat} {v : Value} {l : List Int} (h : w.ownsRow lo 3 1 v n (l.map (Value.int .i64))) (hb : lo' ≤ lo) (hs : lo' ≤ w.heap.size) : OwnR w lo' w.heap.size v n l :=
  ⟨owns_lower h hb, hs, Nat.le_refl _, fun g hg => (h.lt g hg).2⟩
def NumsInD (w : World) (lo hi : Nat) (a : Option Addr) (n c : Nat) (l : List Int) : Prop := Nums .i64 w a n c l ∧ ∀ b off, a = some ⟨b, off, none⟩ → n = 0 ∨ (lo ≤ b ∧ b < hi)
theorem NumsInD.grown {w w' : World} {lo hi : Nat} {a : Option Addr} {n c : Nat} {l : List Int} {row : Option Nat} (h : NumsInD w lo hi a n c l) (hg : w.grownBy w' row) (hr : ∀ g, row = some g → g < lo ∨ hi ≤ g) : NumsInD w' lo hi a n c l := by
  obtain ⟨⟨h1, h2, h3, h4⟩, h5⟩ := h
  refine ⟨⟨h1, h2, h3, ?_⟩, h5⟩
  rcases h4 with h4 | ⟨b, off, rfl, hb, hc⟩
  · exact .inl h4
  · rcases h5 b off rfl with h0 | ⟨hlo, hhi⟩
    · exact .inl h0
    · exact .inr ⟨b, off, rfl, Nat.lt_of_lt_of_le hb hg.size, fun i hi => (World.cell?_of_block (hg.block b hb (fun e => by have := hr b e.symm; omega))).trans (hc i hi)⟩
theorem NumsInD.below {w w' : World} {lo hi : Nat} {a : Option Addr} {n c : Nat} {l : List Int} (h : NumsInD w lo hi a n c l) (hb : Below w.heap.size w w') : NumsInD w' lo hi a n c l :=
  h.grown (row := none) (Below.grownNone hb _) (fun g e => by cases e)
theorem setd_grown (w : World) (c o : Nat) (u : Value) : w.grownBy (w.setCell ⟨c, o, none⟩ u) (some c) := ⟨rfl, rfl, rfl, by simp [World.setCell], fun k hk hne => Below.heap_setCell _ _ _ _ (fun e => hne (by rw [e]))⟩
theorem NumsInD.sets {w : World} {lo hi d : Nat} {a : Option Addr} {n c : Nat} {l : List Int} (h : NumsInD w lo hi a n c l) (hd : d < lo ∨ hi ≤ d) (u0 u1 u2 u3 u4 : Value) : NumsInD (((((w.setCell ⟨d, 0, none⟩ u0).setCell ⟨d, 1, none⟩ u1).setCell ⟨d, 2, none⟩ u2).setCell ⟨d, 3, none⟩ u3).setCell ⟨d, 4, none⟩ u4) lo hi a n c l := by
  have hr : ∀ g, some d = some g → g < lo ∨ hi ≤ g := fun g e => by have := Option.some.inj e; omega
  exact ((((h.grown (setd_grown _ _ _ _) hr).grown (setd_grown _ _ _ _) hr).grown (setd_grown _ _ _ _) hr).grown (setd_grown _ _ _ _) hr).grown (setd_grown _ _ _ _) hr
theorem setd_far {W : World} {c d o : Nat} {u0 u1 u2 u3 u4 : Value} (h : c ≠ d) : (((((W.setCell ⟨d, 0, none⟩ u0).setCell ⟨d, 1, none⟩ u1).setCell ⟨d, 2, none⟩ u2).setCell ⟨d, 3, none⟩ u3).setCell ⟨d, 4, none⟩ u4).cell? ⟨c, o, none⟩ = W.cell? ⟨c, o, none⟩ := by
  have e : ∀ (Y : World) (j : Nat) (u : Value), (Y.setCell ⟨d, j, none⟩ u).cell? ⟨c, o, none⟩ = Y.cell? ⟨c, o, none⟩ := fun Y j u => World.cell?_of_block (by rw [Below.heap_setCell _ _ _ _ (by simpa using h)])
  rw [e, e, e, e, e]
structure DqSt (w : World) (sv : Nat) (iv pv : Value) (fi nx dr : Int) (ov : Value) (j : Nat) (ys : List Value) (wr : World) : Prop where
  s : Box5 wr sv 28 iv pv (.int .i64 fi) (.int .i64 nx) (.int .i64 dr)
  r : Box5 wr w.heap.size 28 (.slice none 0 0) (.slice none 0 0) (.int .i64 0) (.int .i64 0) (.int .i64 0)
  o : wr.ownsRow (w.heap.size + 1) 3 1 ov j ys
  b : Below w.heap.size w wr
section
variable {w wr w2 : World} {sv d : Nat} {iv pv : Value} {fi nx dr : Int} {ov : Value} {j : Nat} {ys : List Value}
theorem DqSt.call (h : DqSt w sv iv pv fi nx dr ov j ys wr) (hb : Below wr.heap.size wr w2) : DqSt w sv iv pv fi nx dr ov j ys w2 :=
  ⟨h.s.call hb, h.r.call hb, h.o.kept (Below.grownNone hb none) (by cases hv : ov.ownBlock <;> simp), h.b.trans (hb.mono h.b.size)⟩
theorem DqSt.callD (h : DqSt w sv iv pv fi nx dr ov j ys wr) (hb : Below wr.drew.heap.size wr.drew w2) : DqSt w sv iv pv fi nx dr ov j ys w2 :=
  DqSt.call (wr := wr.drew) ⟨h.s, h.r, h.o, h.b.drew⟩ hb
theorem own_sets5 {W : World} {base e size n : Nat} {v : Value} {xs : List Value} (h : W.ownsRow base e size v n xs) (hd : ∀ g, v.ownBlock = some g → g ≠ d) (u0 u1 u2 u3 u4 : Value) :
    (((((W.setCell ⟨d, 0, none⟩ u0).setCell ⟨d, 1, none⟩ u1).setCell ⟨d, 2, none⟩ u2).setCell ⟨d, 3, none⟩ u3).setCell ⟨d, 4, none⟩ u4).ownsRow base e size v n xs := own_far (own_far (own_far (own_far (own_far h hd) hd) hd) hd) hd
theorem DqSt.far (h : DqSt w sv iv pv fi nx dr ov j ys wr) (h1 : sv ≠ d) (h2 : w.heap.size < d) (h3 : ∀ g, ov.ownBlock = some g → g ≠ d) (u0 u1 u2 u3 u4 : Value) :
    DqSt w sv iv pv fi nx dr ov j ys (((((wr.setCell ⟨d, 0, none⟩ u0).setCell ⟨d, 1, none⟩ u1).setCell ⟨d, 2, none⟩ u2).setCell ⟨d, 3, none⟩ u3).setCell ⟨d, 4, none⟩ u4) :=
  ⟨((((h.s.other h1 _ _).other h1 _ _).other h1 _ _).other h1 _ _).other h1 _ _, ((((h.r.other (by omega) _ _).other (by omega) _ _).other (by omega) _ _).other (by omega) _ _).other (by omega) _ _, own_sets5 h.o h3 _ _ _ _ _, f6_below5 h.b (by omega) _ _ _ _ _⟩
theorem DqSt.put (h : DqSt w sv iv pv fi nx dr ov j ys wr) (h2 : w.heap.size < sv) (h3 : ∀ g, ov.ownBlock = some g → g ≠ sv) (u0 u1 : Value) (u2 u3 u4 : Int) :
    DqSt w sv u0 u1 u2 u3 u4 ov j ys (((((wr.setCell ⟨sv, 0, none⟩ u0).setCell ⟨sv, 1, none⟩ u1).setCell ⟨sv, 2, none⟩ (.int .i64 u2)).setCell ⟨sv, 3, none⟩ (.int .i64 u3)).setCell ⟨sv, 4, none⟩ (.int .i64 u4)) :=
  ⟨((((h.s.set0 _).set1 _).set2 _).set3 _).set4 _, ((((h.r.other (by omega) _ _).other (by omega) _ _).other (by omega) _ _).other (by omega) _ _).other (by omega) _ _, own_sets5 h.o h3 _ _ _ _ _, f6_below5 h.b (by omega) _ _ _ _ _⟩
theorem DqSt.appended {v' : Value} {j' : Nat} {ys' : List Value} {o : Obj} (h : DqSt w sv iv pv fi nx dr ov j ys wr) (h3 : ∀ g, ov.ownBlock = some g → g ≠ sv)
    (hown : w2.ownsRow (w.heap.size + 1) 3 1 v' j' ys') (hg : (wr.alloc o).grownBy w2 ov.ownBlock) : DqSt w sv iv pv fi nx dr v' j' ys' w2 :=
  ⟨(h.s.alloc o).grown hg (fun e => h3 _ e rfl), (h.r.alloc o).grown hg (fun e => by have := (h.o.lt _ e).1; omega), hown,
   (h.b.alloc h.b.size o).grown hg (by have := h.b.size; simp; omega) (fun g e => by have := (h.o.lt _ e).1; omega)⟩
theorem keepd_alloc {W : World} {c o : Nat} {x : Obj} (h : c < W.heap.size) : (W.alloc x).cell? ⟨c, o, none⟩ = W.cell? ⟨c, o, none⟩ :=
  World.cell?_of_block (Below.heap_alloc W x c h)
end
end Go.Proofs.YtolgclajlklmaaaGreat
