/-
  The model's change of stacks.
-/
import Derived.Test.YticoalgnkddapaaGreat3b
namespace Go.Proofs.YticoalgnkddapaaGreat
set_option linter.unusedSimpArgs false
set_option linter.unusedVariables false
open Go.RowKit
/-- A variable of two cells: its block. -/
def Box2 (w : World) (c : Nat) (T : TypeId) (u v : Value) : Prop := w.heap[c]? = some (.cells #[u, v] T (0, 0))
section
variable {w w' : World} {c d : Nat} {T : TypeId} {u v : Value}
theorem Box2.new1 {Y : World} {g : Nat} (T : TypeId) (u v : Value) (hg : g = Y.heap.size) : Box2 (Y.alloc (.cells #[u, v] T)) g T u v := by subst hg; exact heap_alloc_new Y _
theorem Box2.lt (h : Box2 w c T u v) : c < w.heap.size := (Array.getElem?_eq_some_iff.1 h).1
theorem Box2.call (h : Box2 w c T u v) (hb : Below w.heap.size w w') : Box2 w' c T u v := (hb.block c h.lt).trans h
theorem Box2.alloc (h : Box2 w c T u v) (o : Obj) : Box2 (w.alloc o) c T u v := h.call ((Below.refl _ _).alloc (Nat.le_refl _) _)
theorem Box2.grown {row : Option Nat} (h : Box2 w c T u v) (hg : w.grownBy w' row) (hr : row ≠ some c) : Box2 w' c T u v := (hg.block c h.lt (fun e => hr e.symm)).trans h
theorem Box2.other (h : Box2 w c T u v) (hd : c ≠ d) (o : Nat) (x : Value) : Box2 (w.setCell ⟨d, o, none⟩ x) c T u v := by
  unfold Box2 at *
  rw [Below.heap_setCell _ _ _ _ (by simpa using hd)]
  exact h
theorem Box2.cells (h : Box2 w c T u v) : w.cell? ⟨c, 0, none⟩ = some u ∧ w.cell? ⟨c, 1, none⟩ = some v := by
  unfold Box2 at h
  constructor <;> simp [World.cell?, h]
end
/-- Stacks are made anew, and it is said whether. -/
def SteppedStk (s : Agg.S) (w : World) (e : Ending) (w' : World) : Prop := ∃ v, e = .returned (.tuple #[v, .bool true]) ∧ StkOwn w' w.heap.size w'.heap.size v s ∧ Below w.heap.size w w'
/-- The variables and rows of a change under way: the stacks before, the change, the result, and the stacks that are made. -/
structure StepSt (w : World) (Wn on : Nat) (va vb : Value) (bx by' bz fl co : Int) (pu : Bool) (x : Int) (fv iv : Value) (n m : Nat) (xs ys : List Value) (V : Agg.V) (fl' co' : Int) (wr : World) : Prop where
  a : Box7 wr w.heap.size 31 va vb (.int .i64 bx) (.int .i64 by') (.int .i64 bz) (.int .i64 fl) (.int .i64 co)
  p : Box2 wr (w.heap.size + 1) 43 (.bool pu) (.int .i64 x)
  r : Box7 wr (w.heap.size + 1 + 1) 31 (.slice none 0 0) (.slice none 0 0) (.int .i64 0) (.int .i64 0) (.int .i64 0) (.int .i64 0) (.int .i64 0)
  o : Box7 wr on 31 fv iv (.int .i64 V.x) (.int .i64 V.y) (.int .i64 V.z) (.int .i64 fl') (.int .i64 co')
  f : wr.ownsRow Wn 29 3 fv n xs
  i : wr.ownsRow Wn 3 1 iv m ys
  b : Below w.heap.size w wr
section
variable {w wr w2 : World} {Wn on : Nat} {va vb : Value} {bx by' bz fl co : Int} {pu : Bool} {x : Int} {fv iv : Value} {n m : Nat} {xs ys : List Value} {V : Agg.V} {fl' co' : Int}
theorem StepSt.call (h : StepSt w Wn on va vb bx by' bz fl co pu x fv iv n m xs ys V fl' co' wr) (hb : Below wr.heap.size wr w2) : StepSt w Wn on va vb bx by' bz fl co pu x fv iv n m xs ys V fl' co' w2 :=
  ⟨h.a.call hb, h.p.call hb, h.r.call hb, h.o.call hb, h.f.kept (Below.grownNone hb none) (by cases hv : fv.ownBlock <;> simp), h.i.kept (Below.grownNone hb none) (by cases hv : iv.ownBlock <;> simp), h.b.trans (hb.mono h.b.size)⟩
theorem StepSt.drew (h : StepSt w Wn on va vb bx by' bz fl co pu x fv iv n m xs ys V fl' co' wr) : StepSt w Wn on va vb bx by' bz fl co pu x fv iv n m xs ys V fl' co' wr.drew :=
  ⟨h.a, h.p, h.r, h.o, h.f, h.i, h.b.drew⟩
theorem StepSt.callD (h : StepSt w Wn on va vb bx by' bz fl co pu x fv iv n m xs ys V fl' co' wr) (hb : Below wr.drew.heap.size wr.drew w2) : StepSt w Wn on va vb bx by' bz fl co pu x fv iv n m xs ys V fl' co' w2 :=
  StepSt.call (wr := wr.drew) h.drew hb
theorem StepSt.added {o : Obj} {v' : Value} {m' : Nat} {ys' : List Value} (h : StepSt w Wn on va vb bx by' bz fl co pu x fv iv n m xs ys V fl' co' wr) (hW : w.heap.size + 1 + 1 < Wn) (hon : Wn ≤ on)
    (hf : ∀ g, fv.ownBlock = some g → g < on) (hi : ∀ g, iv.ownBlock = some g → g < on)
    (hown : w2.ownsRow Wn 3 1 v' m' ys') (hg : (wr.alloc o).grownBy w2 iv.ownBlock) (hw : v'.ownBlock = iv.ownBlock ∨ ∃ g, v'.ownBlock = some g ∧ (wr.alloc o).heap.size ≤ g) :
    StepSt w Wn on va vb bx by' bz fl co pu x fv v' n m' xs ys' V fl' co' (w2.setCell ⟨on, 1, none⟩ v') := by
  have hio : ∀ c, (c < Wn ∨ on ≤ c) → iv.ownBlock ≠ some c := fun c hc e => by
    have h1 := hi c e
    have h2 := (h.i.lt c e).1
    omega
  have hvo : ∀ g, v'.ownBlock = some g → g ≠ on := fun g e => by
    rcases hw with e' | ⟨g', e', hle⟩
    · have := hi g (e' ▸ e)
      omega
    · rw [e'] at e
      simp only [Option.some.injEq] at e
      subst e
      have := h.o.lt
      simp at hle
      omega
  refine ⟨?_, ?_, ?_, ?_, ?_, ?_, ?_⟩
  · exact ((h.a.alloc o).grown hg (hio _ (.inl (by omega)))).other (by omega) _ _
  · exact ((h.p.alloc o).grown hg (hio _ (.inl (by omega)))).other (by omega) _ _
  · exact ((h.r.alloc o).grown hg (hio _ (.inl (by omega)))).other (by omega) _ _
  · exact ((h.o.alloc o).grown hg (hio _ (.inr (Nat.le_refl _)))).set1 v'
  · exact own_set_ne ((h.f.alloc o).kept hg (rows_apart (h.f.alloc o) (h.i.alloc o) (by decide))) (fun g e => by have := hf g e; omega)
  · exact own_set_ne hown hvo
  · have hb2 : Below w.heap.size w w2 := (h.b.alloc h.b.size o).grown hg (Nat.le_trans h.b.size (by simp)) (fun k hk => by have := (h.i.lt k hk).1; omega)
    exact hb2.setCell (show w.heap.size ≤ on by omega) _
theorem StepSt.back (h : StepSt w Wn on va vb bx by' bz fl co pu x fv iv n m xs ys V fl' co' wr) (hW : w.heap.size + 1 + 1 < Wn) (hon : Wn ≤ on) (hf : ∀ g, fv.ownBlock = some g → g ≠ on) (hi : ∀ g, iv.ownBlock = some g → g ≠ on) (V' : Agg.V) :
    StepSt w Wn on va vb bx by' bz fl co pu x fv iv n m xs ys V' fl' co' (((wr.setCell ⟨on, 2, none⟩ (.int .i64 V'.x)).setCell ⟨on, 3, none⟩ (.int .i64 V'.y)).setCell ⟨on, 4, none⟩ (.int .i64 V'.z)) :=
  ⟨((h.a.other (by omega) _ _).other (by omega) _ _).other (by omega) _ _, ((h.p.other (by omega) _ _).other (by omega) _ _).other (by omega) _ _, ((h.r.other (by omega) _ _).other (by omega) _ _).other (by omega) _ _, ((h.o.set2 _).set3 _).set4 _,
   own_set_ne (own_set_ne (own_set_ne h.f hf) hf) hf, own_set_ne (own_set_ne (own_set_ne h.i hi) hi) hi, ((h.b.setCell (show w.heap.size ≤ on by omega) _).setCell (show w.heap.size ≤ on by omega) _).setCell (show w.heap.size ≤ on by omega) _⟩
theorem StepSt.counted (h : StepSt w Wn on va vb bx by' bz fl co pu x fv iv n m xs ys V fl' co' wr) (hW : w.heap.size + 1 + 1 < Wn) (hon : Wn ≤ on) (hf : ∀ g, fv.ownBlock = some g → g ≠ on) (hi : ∀ g, iv.ownBlock = some g → g ≠ on) (c : Int) :
    StepSt w Wn on va vb bx by' bz fl co pu x fv iv n m xs ys V fl' c (wr.setCell ⟨on, 6, none⟩ (.int .i64 c)) :=
  ⟨h.a.other (by omega) _ _, h.p.other (by omega) _ _, h.r.other (by omega) _ _, h.o.set6 _, own_set_ne h.f hf, own_set_ne h.i hi, h.b.setCell (show w.heap.size ≤ on by omega) _⟩
theorem StepSt.done {F' : List Agg.V} {I' : List Int} (h : StepSt w Wn on va vb bx by' bz fl co pu x fv iv n m xs ys V fl' co' wr) (hW : w.heap.size + 1 + 1 < Wn) (hn : F'.length = n) (hm : I'.length = m) (hx : valRow F' = xs) (hy : I'.map (Value.int .i64) = ys) (u0 u1 u2 u3 u4 u5 u6 : Value) :
    SteppedStk ⟨F', I', V, fl', co'⟩ w (.returned (.tuple #[.agg #[fv, iv, .int .i64 V.x, .int .i64 V.y, .int .i64 V.z, .int .i64 fl', .int .i64 co'], .bool true]))
      (((((((wr.setCell ⟨w.heap.size + 1 + 1, 0, none⟩ u0).setCell ⟨w.heap.size + 1 + 1, 1, none⟩ u1).setCell ⟨w.heap.size + 1 + 1, 2, none⟩ u2).setCell ⟨w.heap.size + 1 + 1, 3, none⟩ u3).setCell ⟨w.heap.size + 1 + 1, 4, none⟩ u4).setCell ⟨w.heap.size + 1 + 1, 5, none⟩ u5).setCell ⟨w.heap.size + 1 + 1, 6, none⟩ u6) := by
  subst hn hm hx hy
  have hf : ∀ g, fv.ownBlock = some g → g ≠ w.heap.size + 1 + 1 := fun g e => by have := (h.f.lt g e).1; omega
  have hi : ∀ g, iv.ownBlock = some g → g ≠ w.heap.size + 1 + 1 := fun g e => by have := (h.i.lt g e).1; omega
  have hle : ∀ o, w.heap.size ≤ (⟨w.heap.size + 1 + 1, o, none⟩ : Addr).block := fun o => show w.heap.size ≤ w.heap.size + 1 + 1 by omega
  have hb := ((((((h.b.setCell (hle 0) u0).setCell (hle 1) u1).setCell (hle 2) u2).setCell (hle 3) u3).setCell (hle 4) u4).setCell (hle 5) u5).setCell (hle 6) u6
  refine ⟨_, rfl, ⟨fv, iv, rfl, OwnV.of (lo := Wn) ?_ (by omega) hb.size, OwnR.of (lo := Wn) ?_ (by omega) hb.size⟩, hb⟩
  · exact own_set_ne (own_set_ne (own_set_ne (own_set_ne (own_set_ne (own_set_ne (own_set_ne h.f hf) hf) hf) hf) hf) hf) hf
  · exact own_set_ne (own_set_ne (own_set_ne (own_set_ne (own_set_ne (own_set_ne (own_set_ne h.i hi) hi) hi) hi) hi) hi) hi
end
theorem map_snoc_int (l : List Int) (x : Int) : (l ++ [x]).map (Value.int .i64) = l.map (Value.int .i64) ++ [.int .i64 x] := by simp
set_option maxRecDepth 8000 in
set_option maxHeartbeats 4000000 in
theorem s_l3Step_push (k : Int) (fa : Option Addr) (fn fc : Nat) (ia : Option Addr) (m ic : Nat) (bx by' bz fl co : Int) (F : List Agg.V) (I : List Int) (x : Int) (w : World) (hF : Vals w fa fn fc F) (hI : Nums .i64 w ia m ic I) (hok : Agg.sOk k ⟨F, I, ⟨bx, by', bz⟩, fl, co⟩ = true) (hx : Agg.isItem x = true) (hsz : fn + m < 60) :
    Calls Tryz.prog 44 #[.int .i64 k, .agg #[.slice fa fn fc, .slice ia m ic, .int .i64 bx, .int .i64 by', .int .i64 bz, .int .i64 fl, .int .i64 co], .agg #[.bool true, .int .i64 x]] w (SteppedStk (Agg.pushS k ⟨F, I, ⟨bx, by', bz⟩, fl, co⟩ x) w) := by
  obtain ⟨i0, hi, hz0, hz1, hz2⟩ := info_parts infoInt
  have hFl : F.length = fn := hF.1
  have hIl : I.length = m := hI.1
  have HF := Lib.hid hF
  have HI := Lib.hid hI
  have HOK := Lib.hid hok
  have HFL := Lib.hid hFl
  have HIL := Lib.hid hIl
  have HXI := Lib.hid hx
  simp only [Agg.isItem, decide_eq_true_eq] at hx
  obtain ⟨hx0, hx1⟩ := hx
  have hok0 := hok
  clear hF hI hok hFl hIl
  have hco : 0 ≤ co ∧ co ≤ 1000000 := by simp only [Agg.sOk, Bool.and_eq_true, decide_eq_true_eq] at hok0; omega
  obtain ⟨hco0, hco1⟩ := hco
  have hk := (Agg.sOk_parts hok0).1
  have hcc : 0 ≤ co := (Agg.sOk_parts hok0).2.2.2.2.2.2.2
  have hback : Agg.ok k ⟨bx, by', bz⟩ = true := (Agg.sOk_parts hok0).2.2.2.2.2.1
  have hlo := Agg.ok_lift (k := k) hk HXI.out
  clear hok0
  obtain ⟨W, hW⟩ : ∃ W, W = ((w.alloc (.cells #[.slice fa fn fc, .slice ia m ic, .int .i64 bx, .int .i64 by', .int .i64 bz, .int .i64 fl, .int .i64 co] 31)).alloc (.cells #[.bool true, .int .i64 x] 43)).alloc (.cells #[.slice none 0 0, .slice none 0 0, .int .i64 0, .int .i64 0, .int .i64 0, .int .i64 0, .int .i64 0] 31) := ⟨_, rfl⟩
  have HA := Lib.hid (show Box7 W w.heap.size 31 (.slice fa fn fc) (.slice ia m ic) (.int .i64 bx) (.int .i64 by') (.int .i64 bz) (.int .i64 fl) (.int .i64 co) from by rw [hW]; exact ((Box7.new w _ _ _ _ _ _ _ _).alloc _).alloc _)
  have HP := Lib.hid (show Box2 W (w.heap.size + 1) 43 (.bool true) (.int .i64 x) from by rw [hW]; exact (Box2.new1 _ _ _ (by simp)).alloc _)
  have HR := Lib.hid (show Box7 W (w.heap.size + 1 + 1) 31 (.slice none 0 0) (.slice none 0 0) (.int .i64 0) (.int .i64 0) (.int .i64 0) (.int .i64 0) (.int .i64 0) from by rw [hW]; exact Box7.new1 _ _ _ _ _ _ _ _ (by simp))
  have HB := Lib.hid (show Below w.heap.size w W from by rw [hW]; exact (((Below.refl _ _).alloc (Nat.le_refl _) _).alloc (by simp) _).alloc (by simp; omega) _)
  have hsz1 := HR.out.lt
  go_enter Tryz.func44, Tryz.ntmps44
  go_wp2_with fail
  rw [← hW]
  clear hW
  refine (s_l3Copy_any fa fn fc ia m ic bx by' bz fl co F I _ (HF.out.below HB.out) (HI.out.below HB.out) (by omega) (by omega)).mono ?_
  rintro e w1 ⟨v, rfl, ⟨fv, iv, rfl, hOF, hOI⟩, hb1⟩
  have hs1 := hb1.size
  have HA1 := Lib.hid (HA.out.call hb1)
  have HP1 := Lib.hid (HP.out.call hb1)
  have HR1 := Lib.hid (HR.out.call hb1)
  have HB1 := Lib.hid (HB.out.trans (hb1.mono HB.out.size))
  obtain ⟨ga, gc, rfl, -⟩ := hOF.vals
  obtain ⟨ja, jc, rfl, -, -⟩ := hOI.nums
  simp only at *
  have HOF := Lib.hid hOF.1
  have HOI := Lib.hid hOI.1
  have HGF := Lib.hid hOF.2.2.2
  have HGI := Lib.hid hOI.2.2.2
  clear hb1 hOF hOI HA HP HR HB
  obtain ⟨p0, p1⟩ := HP1.out.cells
  have hl1 := HR1.out.lt
  have hl0 : w.heap.size < w1.heap.size := by omega
  have hl2 : w.heap.size + 1 < w1.heap.size := by omega
  obtain ⟨W2, hW2⟩ : ∃ W2, W2 = w1.alloc (.cells #[.slice ga F.length gc, .slice ja I.length jc, .int .i64 bx, .int .i64 by', .int .i64 bz, .int .i64 fl, .int .i64 co] 31) := ⟨_, rfl⟩
  have HA2 := Lib.hid (show Box7 W2 w.heap.size 31 (.slice fa fn fc) (.slice ia m ic) (.int .i64 bx) (.int .i64 by') (.int .i64 bz) (.int .i64 fl) (.int .i64 co) from by rw [hW2]; exact HA1.out.alloc _)
  have HP2 := Lib.hid (show Box2 W2 (w.heap.size + 1) 43 (.bool true) (.int .i64 x) from by rw [hW2]; exact HP1.out.alloc _)
  have HR2 := Lib.hid (show Box7 W2 (w.heap.size + 1 + 1) 31 (.slice none 0 0) (.slice none 0 0) (.int .i64 0) (.int .i64 0) (.int .i64 0) (.int .i64 0) (.int .i64 0) from by rw [hW2]; exact HR1.out.alloc _)
  have HO2 := Lib.hid (show Box7 W2 w1.heap.size 31 (.slice ga F.length gc) (.slice ja I.length jc) (.int .i64 bx) (.int .i64 by') (.int .i64 bz) (.int .i64 fl) (.int .i64 co) from by rw [hW2]; exact Box7.new w1 _ _ _ _ _ _ _ _)
  have HB2 := Lib.hid (show Below w.heap.size w W2 from by rw [hW2]; exact HB1.out.alloc HB1.out.size _)
  have HF2 := Lib.hid (show W2.ownsRow W.heap.size 29 3 (.slice ga F.length gc) F.length (valRow F) from by rw [hW2]; exact HOF.out.alloc _)
  have HI2 := Lib.hid (show W2.ownsRow W.heap.size 3 1 (.slice ja I.length jc) I.length (I.map (Value.int .i64)) from by rw [hW2]; exact HOI.out.alloc _)
  have hs2 : W2.heap.size = w1.heap.size + 1 := by rw [hW2]; simp
  go_wp2_with fail
  rw [← hW2]
  clear hW2 HA1 HP1 HR1 HB1 HOF HOI p0 p1
  refine (s_in_item _ _).mono ?_
  rintro e wk ⟨rfl, rfl⟩
  rw [HXI.out]
  obtain ⟨p0, p1⟩ := HP2.out.cells
  obtain ⟨q0, q1, q2, q3, q4, q5, q6⟩ := HA2.out.cells
  obtain ⟨o0, o1, o2, o3, o4, o5, o6⟩ := HO2.out.cells
  have hsl : (fn : Int) + (m : Int) < 60 := by omega
  have hsl' : ¬ (60 ≤ (fn : Int) + (m : Int)) := by omega
  have HS2 := Lib.hid hs2
  clear hs2
  have hnI : ∀ g, (Value.slice ja I.length jc).ownBlock = some g → W.heap.size ≤ g ∧ g < w1.heap.size := fun g hg => ⟨(HI2.out.lt g hg).1, HGI.out g hg⟩
  have HNI := Lib.hid hnI
  have HC2 := Lib.hid (show W.heap.size ≤ w1.heap.size from hs1)
  clear hnI
  have HST2 := Lib.hid (show StepSt w W.heap.size w1.heap.size (.slice fa fn fc) (.slice ia m ic) bx by' bz fl co true x (.slice ga F.length gc) (.slice ja I.length jc) F.length I.length (valRow F) (I.map (Value.int .i64)) ⟨bx, by', bz⟩ fl co W2 from ⟨HA2.out, HP2.out, HR2.out, HO2.out, HF2.out, HI2.out, HB2.out⟩)
  have HW := Lib.hid hsz1
  clear HA2 HP2 HR2 HO2 HF2 HI2 HB2 hsz1 hl0 hl1 hl2
  go_wp2_with (
    at_builtin
    go_must (refine wpList_append_where rfl (.tmp 29) (.tmp 32) 27 rfl W.heap.size 3 i0 (.int .i64 0) 1 8 Tryz.underlying27 hi hz0 hz1 hz2 rfl (by decide) _ _ _ rfl (HST2.out.i.alloc _) ⟨W2.heap.size, 0, none⟩ 1 1 [.int .i64 x] rfl rfl (cell_one_new _ _ _) (ints_oneCell .i64 [x]) (by have := HIL.out; unfold maxLen; omega) (by have := HIL.out; omega) (by have := HS2.out; simp; omega) ?_)
    go_loud (
      intro v3 w3 hown3 hgrow3 hwhere3
      have HST3 := Lib.hid (HST2.out.added HW.out HC2.out HGF.out HGI.out hown3 hgrow3 hwhere3)
      obtain ⟨g3, c3, e3, -, -, -, -⟩ := b_own_some hown3 (by omega)
      have HO3 := Lib.hid ((HST2.out.o.alloc _).grown hgrow3 (fun e => by have := HGI.out _ e; omega))
      have f1 := HO3.out.free 1
      have o1 := HO3.out.cells.2.1
      have HNE3 := Lib.hid hwhere3
      subst e3
      clear hown3 hgrow3 hwhere3 HO3))
  obtain ⟨W4, hW4⟩ : ∃ W4, W4 = w3.setCell ⟨w1.heap.size, 1, none⟩ (.slice (some ⟨g3, 0, none⟩) (I.length + 1) c3) := ⟨_, rfl⟩
  rw [← hW4] at HST3 ⊢
  clear hW4 f1 o1 HST2
  have hg3 : g3 ≠ w1.heap.size := by
    rcases HNE3.out with e | ⟨g', e, hle⟩
    · have := HGI.out g3 (e.symm.trans rfl); omega
    · simp [Value.ownBlock] at e; have := HS2.out; simp at hle; omega
  have HNI3 := Lib.hid (show ∀ g, (Value.slice (some ⟨g3, 0, none⟩) (I.length + 1) c3).ownBlock = some g → g ≠ w1.heap.size from fun g hg => by simp [Value.ownBlock] at hg; omega)
  have HNF3 := Lib.hid (show ∀ g, (Value.slice ga F.length gc).ownBlock = some g → g ≠ w1.heap.size from fun g hg => by have := HGF.out g hg; omega)
  clear hg3 HNE3
  obtain ⟨Lx, hLx⟩ : ∃ L, L = Agg.lift k x := ⟨_, rfl⟩
  rw [← hLx] at hlo
  have hLI := fun w => s_lift_any k hk x w hx0 hx1
  rw [← hLx] at hLI
  have hCO := fun w => s_combine_any k hk bx by' bz Lx.x Lx.y Lx.z w hback hlo
  obtain ⟨V', hV'⟩ : ∃ V', V' = Agg.comb k ⟨bx, by', bz⟩ ⟨Lx.x, Lx.y, Lx.z⟩ := ⟨_, rfl⟩
  rw [← hV'] at hCO
  have HLI := Lib.hid hLI
  have HCO := Lib.hid hCO
  have HV' := Lib.hid (show V' = Agg.comb k ⟨bx, by', bz⟩ (Agg.lift k x) from by rw [hV', ← hLx])
  clear hLI hCO hLx hV' hlo hback hk
  obtain ⟨Lx1, Ly1, Lz1⟩ := Lx
  obtain ⟨Wx, Wy, Wz⟩ := V'
  simp only at HCO HLI
  obtain ⟨q0, q1, q2, q3, q4, q5, q6⟩ := HST3.out.a.cells
  obtain ⟨p0, p1⟩ := HST3.out.p.cells
  obtain ⟨o0, o1, o2, o3, o4, o5, o6⟩ := HST3.out.o.cells
  go_region_with (first | (go_at_call 98; refine (HLI.out _).mono ?_; rintro e w5 ⟨rfl, hb5⟩; have HST5 := Lib.hid (HST3.out.callD hb5); obtain ⟨r0, r1, r2, r3, r4, r5, r6⟩ := HST5.out.a.cells; obtain ⟨t0, t1⟩ := HST5.out.p.cells; clear hb5) | (go_at_call 97; refine (HCO.out _).mono ?_; rintro e w6 ⟨rfl, hb6⟩; have HST6 := Lib.hid (HST5.out.call hb6); obtain ⟨u0, u1, u2, u3, u4, u5, u6⟩ := HST6.out.o.cells; have g2 := HST6.out.o.free 2; have g3 := HST6.out.o.free 3; have g4 := HST6.out.o.free 4; clear hb6))
  all_goals
    obtain ⟨W7, hW7⟩ : ∃ W7, W7 = (((w6.setCell ⟨w1.heap.size, 2, none⟩ (.int .i64 Wx)).setCell ⟨w1.heap.size, 3, none⟩ (.int .i64 Wy)).setCell ⟨w1.heap.size, 4, none⟩ (.int .i64 Wz)) := ⟨_, rfl⟩
    have HST7 := Lib.hid (HST6.out.back HW.out HC2.out HNF3.out HNI3.out ⟨Wx, Wy, Wz⟩)
    rw [← hW7] at HST7 ⊢
    clear hW7 HST6 HST5 q0 q1 q2 q3 q4 q5 q6 p0 p1 o0 o1 o2 o3 o4 o5 o6 r0 r1 r2 r3 r4 r5 r6 t0 t1 u0 u1 u2 u3 u4 u5 u6 g2 g3 g4
    obtain ⟨q0, q1, q2, q3, q4, q5, q6⟩ := HST7.out.a.cells
    obtain ⟨o0, o1, o2, o3, o4, o5, o6⟩ := HST7.out.o.cells
    obtain ⟨s0, s1, s2, s3, s4, s5, s6⟩ := HST7.out.r.cells
    have f6 := HST7.out.o.free 6
    have e0 := HST7.out.r.free 0
    have e1 := HST7.out.r.free 1
    have e2 := HST7.out.r.free 2
    have e3 := HST7.out.r.free 3
    have e4 := HST7.out.r.free 4
    have e5 := HST7.out.r.free 5
    have e6 := HST7.out.r.free 6
    have hx9 := HW.out
    have hx8 := HC2.out
    have HST8 := Lib.hid (HST7.out.counted HW.out HC2.out HNF3.out HNI3.out (co + 1))
    have hd1 : w.heap.size ≠ w1.heap.size := by omega
    have hd2 : w.heap.size + 1 + 1 ≠ w1.heap.size := by omega
    have hd3 : w1.heap.size ≠ w.heap.size + 1 + 1 := by omega
    go_wp2_with fail
    refine bodyPost_ret (by simp [results, Tryz.results44, go_sem, *]; try rfl) rfl ?_
    have hps : Agg.pushS k ⟨F, I, ⟨bx, by', bz⟩, fl, co⟩ x = ⟨F, I ++ [x], ⟨Wx, Wy, Wz⟩, fl, co + 1⟩ := by rw [HV'.out]; rfl
    rw [hps]
    exact HST8.out.done hx9 rfl (by simp) rfl (map_snoc_int I x) _ _ _ _ _ _ _
end Go.Proofs.YticoalgnkddapaaGreat
