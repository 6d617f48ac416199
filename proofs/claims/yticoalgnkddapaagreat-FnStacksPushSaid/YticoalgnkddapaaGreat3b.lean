/-
  The model's flip of two stacks.
-/
import Derived.Test.YticoalgnkddapaaGreat3x
import Derived.Test.YticoalgnkddapaaGreat2a
import Derived.Test.YticoalgnkddapaaGreatRw
import Derived.Test.YticoalgnkddapaaGreat2x
import Derived.Deep.DeepCutAuto
namespace Go.Proofs.YticoalgnkddapaaGreat
set_option linter.unusedSimpArgs false
set_option linter.unusedVariables false
open Go.RowKit
/-- Stacks that a flip leaves: its rows are not below base. -/
def Flipped (k : Int) (I : List Int) (fl co : Int) (base : Nat) (f0 : Option Nat) (w : World) (e : Ending) (w' : World) : Prop :=
  ∃ (fa ia : Option Addr) (fc ic : Nat), e = .returned (.agg #[.slice fa I.length fc, .slice ia 0 ic, .int .i64 (Agg.unit k).x, .int .i64 (Agg.unit k).y, .int .i64 (Agg.unit k).z, .int .i64 (fl + 1), .int .i64 (co + I.length)]) ∧
    w'.ownsRow base 29 3 (.slice fa I.length fc) I.length (valRow (Agg.sufs k I I.length)) ∧ w'.ownsRow base 3 1 (.slice ia 0 ic) 0 [] ∧ Below base w w' ∧ w.grownBy w' f0
theorem g_set {w wr : World} {f0 : Option Nat} {d o : Nat} {u : Value} (h : w.grownBy wr f0) (hd : w.heap.size ≤ d) : w.grownBy (wr.setCell ⟨d, o, none⟩ u) f0 :=
  ⟨h.os, h.tape, h.output, by simpa [World.setCell] using h.size, fun k hk hne => (Below.heap_setCell _ _ _ _ (fun e => by simp at e; omega)).trans (h.block k hk hne)⟩
theorem g_call {w wr w2 : World} {f0 : Option Nat} (h : w.grownBy wr f0) (hb : Below wr.heap.size wr w2) : w.grownBy w2 f0 := by
  have g := Below.grownNone hb none
  exact ⟨g.os.trans h.os, g.tape.trans h.tape, g.output.trans h.output, Nat.le_trans h.size g.size, fun k hk hne => (g.block k (Nat.lt_of_lt_of_le hk h.size) (by simp)).trans (h.block k hk hne)⟩
theorem g_grown {w wr w2 : World} {f0 f1 : Option Nat} {o : Obj} (h : w.grownBy wr f0) (hg : (wr.alloc o).grownBy w2 f1) (hf : ∀ g, f1 = some g → f0 = some g ∨ w.heap.size ≤ g) : w.grownBy w2 f0 := by
  have a := g_call h ((Below.refl wr.heap.size wr).alloc (Nat.le_refl _) o)
  refine ⟨hg.os.trans a.os, hg.tape.trans a.tape, hg.output.trans a.output, Nat.le_trans a.size hg.size, fun k hk hne => (hg.block k (Nat.lt_of_lt_of_le hk a.size) (fun e => ?_)).trans (a.block k hk hne)⟩
  rcases hf k (by rw [e]) with h1 | h1
  · exact hne (by rw [h1])
  · omega
theorem b_set_far {W : World} {d c o p : Nat} {u : Value} (h : c ≠ d) : (W.setCell ⟨d, o, none⟩ u).cell? ⟨c, p, none⟩ = W.cell? ⟨c, p, none⟩ :=
  World.cell?_of_block (by rw [Below.heap_setCell _ _ _ _ (by simpa using h)])
theorem own_set_ne {w : World} {base e size n d o : Nat} {v u : Value} {xs : List Value} (h : w.ownsRow base e size v n xs) (hd : ∀ g, v.ownBlock = some g → g ≠ d) : (w.setCell ⟨d, o, none⟩ u).ownsRow base e size v n xs := by
  refine h.kept (row := some d) ⟨rfl, rfl, rfl, by simp [World.setCell], fun k hk hne => Below.heap_setCell _ _ _ _ (fun e => hne (by rw [e]))⟩ ?_
  cases hv : v.ownBlock with
  | none => exact .inl rfl
  | some g => exact .inr (fun e => by cases e; exact hd _ hv rfl)
theorem b_own_some {w : World} {base e size n : Nat} {v : Value} {xs : List Value} (h : w.ownsRow base e size v n xs) (hn : 0 < n) : ∃ g c, v = .slice (some ⟨g, 0, none⟩) n c ∧ base ≤ g ∧ g < w.heap.size ∧ c ≤ 9223372036854775807 ∧ n ≤ c := by
  rcases h.2 with ⟨_, h0⟩ | ⟨g, cap, cur, rfl, hb, hg, h1, h2, -⟩
  · omega
  · exact ⟨g, cap, rfl, hb, (Array.getElem?_eq_some_iff.1 hg).1, by unfold maxLen at h2; omega, h1⟩
theorem own_int_cell {w : World} {base n g c : Nat} {o : Nat} {l : List Int} (h : w.ownsRow base 3 1 (.slice (some ⟨g, o, none⟩) n c) n (l.map (Value.int .i64))) {j : Nat} (hj : j < n) : w.cell? ⟨g, o + j, none⟩ = some (.int .i64 (l[j]?.getD 0)) := by
  have ho : o = 0 := by
    rcases h.2 with ⟨e, -⟩ | ⟨g', cap, cur, e, -⟩
    · simp at e
    · simp only [Value.slice.injEq, Option.some.injEq, Addr.mk.injEq] at e; exact e.1.2.1
  subst ho
  have hl : l.length = n := by have := h.1; simpa using this
  rw [Nat.zero_add, World.ownsRow.cellAt h j (by omega)]
  simp [List.getElem?_map, List.getElem?_eq_getElem (show j < l.length by omega)]
/-- The variables and rows of a flip under way. -/
structure FlipSt (w : World) (f0 : Option Nat) (base cv : Nat) (V : Agg.V) (fv iv : Value) (n m : Nat) (xs ys : List Value) (bx by' bz fl co : Int) (wr : World) : Prop where
  v : Box wr cv 29 V.x V.y V.z
  s : Box7 wr w.heap.size 31 fv iv (.int .i64 bx) (.int .i64 by') (.int .i64 bz) (.int .i64 fl) (.int .i64 co)
  r : Box7 wr (w.heap.size + 1) 31 (.slice none 0 0) (.slice none 0 0) (.int .i64 0) (.int .i64 0) (.int .i64 0) (.int .i64 0) (.int .i64 0)
  f : wr.ownsRow base 29 3 fv n xs
  i : wr.ownsRow base 3 1 iv m ys
  b : Below base w wr
  g : w.grownBy wr f0
section
variable {w wr w2 : World} {f0 : Option Nat} {base cv : Nat} {V : Agg.V} {fv iv : Value} {n m : Nat} {xs ys : List Value} {bx by' bz fl co : Int}
theorem FlipSt.call (h : FlipSt w f0 base cv V fv iv n m xs ys bx by' bz fl co wr) (hb : Below wr.heap.size wr w2) (hbs : base ≤ wr.heap.size) : FlipSt w f0 base cv V fv iv n m xs ys bx by' bz fl co w2 :=
  ⟨h.v.call hb, h.s.call hb, h.r.call hb, h.f.kept (Below.grownNone hb none) (by cases hv : fv.ownBlock <;> simp), h.i.kept (Below.grownNone hb none) (by cases hv : iv.ownBlock <;> simp), h.b.trans (hb.mono hbs), g_call h.g hb⟩
theorem FlipSt.drew (h : FlipSt w f0 base cv V fv iv n m xs ys bx by' bz fl co wr) : FlipSt w f0 base cv V fv iv n m xs ys bx by' bz fl co wr.drew :=
  ⟨h.v, h.s, h.r, h.f, h.i, h.b.drew, ⟨h.g.os, h.g.tape, h.g.output, h.g.size, h.g.block⟩⟩
theorem FlipSt.callD (h : FlipSt w f0 base cv V fv iv n m xs ys bx by' bz fl co wr) (hb : Below wr.drew.heap.size wr.drew w2) (hbs : base ≤ wr.heap.size) : FlipSt w f0 base cv V fv iv n m xs ys bx by' bz fl co w2 :=
  FlipSt.call (wr := wr.drew) h.drew hb hbs
theorem FlipSt.setV (h : FlipSt w f0 base cv V fv iv n m xs ys bx by' bz fl co wr) (V' : Agg.V) (hb : base ≤ cv) (hc : w.heap.size + 1 < cv) (hf : ∀ g, fv.ownBlock = some g → g < w.heap.size ∨ cv < g) (hi : ∀ g, iv.ownBlock = some g → g < w.heap.size) :
    FlipSt w f0 base cv V' fv iv n m xs ys bx by' bz fl co (((wr.setCell ⟨cv, 0, none⟩ (.int .i64 V'.x)).setCell ⟨cv, 1, none⟩ (.int .i64 V'.y)).setCell ⟨cv, 2, none⟩ (.int .i64 V'.z)) :=
  ⟨h.v.set _ _ _, ((h.s.other (by omega) _ _).other (by omega) _ _).other (by omega) _ _, ((h.r.other (by omega) _ _).other (by omega) _ _).other (by omega) _ _,
   own_set_ne (own_set_ne (own_set_ne h.f (fun g hg => by have := hf g hg; omega)) (fun g hg => by have := hf g hg; omega)) (fun g hg => by have := hf g hg; omega),
   own_set_ne (own_set_ne (own_set_ne h.i (fun g hg => by have := hi g hg; omega)) (fun g hg => by have := hi g hg; omega)) (fun g hg => by have := hi g hg; omega),
   ((h.b.setCell hb _).setCell hb _).setCell hb _, g_set (g_set (g_set h.g (by omega)) (by omega)) (by omega)⟩
theorem FlipSt.appended {o : Obj} {v' : Value} {n' : Nat} {xs' : List Value} (h : FlipSt w f0 base cv V fv iv n m xs ys bx by' bz fl co wr) (hbs : base ≤ wr.heap.size) (hc : w.heap.size + 1 < cv) (hf : ∀ g, fv.ownBlock = some g → g < w.heap.size ∨ cv < g)
    (hown : w2.ownsRow base 29 3 v' n' xs') (hg : (wr.alloc o).grownBy w2 fv.ownBlock) (hbw : base ≤ w.heap.size) (hib : ∀ g, iv.ownBlock = some g → g < w.heap.size) (hfn : ∀ g, v'.ownBlock = some g → g < w.heap.size ∨ cv < g) (hf0 : ∀ g, fv.ownBlock = some g → f0 = some g ∨ cv < g) (d : Int) :
    FlipSt w f0 base cv V v' iv n' m xs' ys bx by' bz fl (co + d) ((w2.setCell ⟨w.heap.size, 0, none⟩ v').setCell ⟨w.heap.size, 6, none⟩ (.int .i64 (co + d))) := by
  have hs2 : (wr.alloc o).heap.size ≤ w2.heap.size := hg.size
  simp at hs2
  have hne : ∀ c, w.heap.size ≤ c → c ≤ cv → fv.ownBlock ≠ some c := fun c h1 h2 e => by have := hf c e; omega
  refine ⟨?_, (((h.s.alloc o).grown hg (hne _ (by omega) (by omega))).set0 v').set6 _, ?_, ?_, ?_, ?_, g_set (g_set (g_grown h.g hg (fun g e => (hf0 g e).imp id (fun h9 => by omega))) (Nat.le_refl _)) (Nat.le_refl _)⟩
  · exact (((h.v.alloc o).grew hg (hne _ (by omega) (by omega))).set_other (by omega) _ _).set_other (by omega) _ _
  · exact (((h.r.alloc o).grown hg (hne _ (by omega) (by omega))).other (by omega) _ _).other (by omega) _ _
  · exact own_set_ne (own_set_ne hown (fun g hg => by have := hfn g hg; omega)) (fun g hg => by have := hfn g hg; omega)
  · have hi2 := (h.i.alloc o).kept hg (rows_apart (h.i.alloc o) (h.f.alloc o) (by decide))
    exact own_set_ne (own_set_ne hi2 (fun g hg => by have := hib g hg; omega)) (fun g hg => by have := hib g hg; omega)
  · have hb2 : Below base w w2 := (h.b.alloc hbs o).grown hg (by simp; omega) (fun k hk => by have := (h.f.lt k hk).1; exact this)
    exact (hb2.setCell (by simpa using hbw) _).setCell (by simpa using hbw) _
end
set_option maxRecDepth 8000 in
set_option maxHeartbeats 16000000 in
theorem s_l3Flip_any (k : Int) (hk : Agg.isKind k = true) (base : Nat) (fa : Option Addr) (fc : Nat) (ia : Option Addr) (m ic : Nat) (bx by' bz fl co : Int) (I : List Int) (w : World)
    (hrow : w.ownsRow base 29 3 (.slice fa 0 fc) 0 (valRow [])) (hI : w.ownsRow base 3 1 (.slice ia m ic) m (I.map (Value.int .i64))) (hit : Agg.itemsOk I = true) (hb : base ≤ w.heap.size)
    (hf0 : 0 ≤ fl) (hf1 : fl ≤ 1000000) (hc0 : 0 ≤ co) (hc1 : co ≤ 1000000) :
    Calls Tryz.prog 99 #[.int .i64 k, .agg #[.slice fa 0 fc, .slice ia m ic, .int .i64 bx, .int .i64 by', .int .i64 bz, .int .i64 fl, .int .i64 co]] w (Flipped k I fl co base (Value.slice fa 0 fc).ownBlock w) := by
  obtain ⟨i0, hi, hz0, hz1, hz2⟩ := info_parts infoVal
  have hIl : I.length = m := by have := hI.1; simpa using this
  have hm60 : m ≤ 60 := by have := Agg.items_len hit; omega
  have hicm : m ≤ ic ∧ ic ≤ 9223372036854775807 := by
    rcases hI.2 with ⟨e, h0⟩ | ⟨g, cap, cur, e, -, -, h1, h2, -⟩
    · simp only [Value.slice.injEq] at e; omega
    · simp only [Value.slice.injEq] at e; unfold maxLen at h2; omega
  obtain ⟨hic1, hic2⟩ := hicm
  have HIL := Lib.hid hIl
  have HIT := Lib.hid hit
  have HK := Lib.hid hk
  have HU := Lib.hid (fun w => s_unit_any k hk w)
  obtain ⟨⟨ux, uy, uz⟩, hU⟩ : ∃ U, U = Agg.unit k := ⟨_, rfl⟩
  have HUV := Lib.hid hU
  have HU2 := Lib.hid (fun w => by have := s_unit_any k hk w; rw [← hU] at this; exact this)
  obtain ⟨W, hW⟩ : ∃ W, W = ((w.alloc (.cells #[.slice fa 0 fc, .slice ia m ic, .int .i64 bx, .int .i64 by', .int .i64 bz, .int .i64 fl, .int .i64 co] 31)).alloc (.cells #[.slice none 0 0, .slice none 0 0, .int .i64 0, .int .i64 0, .int .i64 0, .int .i64 0, .int .i64 0] 31)) := ⟨_, rfl⟩
  have HA := Lib.hid (show Box7 W w.heap.size 31 (.slice fa 0 fc) (.slice ia m ic) (.int .i64 bx) (.int .i64 by') (.int .i64 bz) (.int .i64 fl) (.int .i64 co) from by rw [hW]; exact (Box7.new w _ _ _ _ _ _ _ _).alloc _)
  have HR := Lib.hid (show Box7 W (w.heap.size + 1) 31 (.slice none 0 0) (.slice none 0 0) (.int .i64 0) (.int .i64 0) (.int .i64 0) (.int .i64 0) (.int .i64 0) from by rw [hW]; exact Box7.new1 (Y := w.alloc _) _ _ _ _ _ _ _ _ (by simp))
  have hwW : Below w.heap.size w W := by rw [hW]; exact ((Below.refl _ _).alloc (Nat.le_refl _) _).alloc (by simp) _
  have HB := Lib.hid hwW
  have HF := Lib.hid (hrow.kept (Below.grownNone hwW none) (by cases hv : (Value.slice fa 0 fc).ownBlock <;> simp))
  have HI := Lib.hid (hI.kept (Below.grownNone hwW none) (by cases hv : (Value.slice ia m ic).ownBlock <;> simp))
  have HFB := Lib.hid (fun g hg => (hrow.lt g hg).2)
  have HIB := Lib.hid (fun g hg => (hI.lt g hg).2)
  clear hrow hI hit hk hwW hU hIl
  go_enter Tryz.func99, Tryz.ntmps99
  go_wp2_with fail
  rw [← hW]
  clear hW
  refine (HU2.out _).mono ?_
  rintro e w1 ⟨rfl, hb1⟩
  have HA1 := Lib.hid (HA.out.call hb1)
  have HR1 := Lib.hid (HR.out.call hb1)
  have HB1 := Lib.hid (HB.out.trans (hb1.mono HB.out.size))
  have HF1 := Lib.hid (HF.out.kept (Below.grownNone hb1 none) (by cases hv : (Value.slice fa 0 fc).ownBlock <;> simp))
  have HI1 := Lib.hid (HI.out.kept (Below.grownNone hb1 none) (by cases hv : (Value.slice ia m ic).ownBlock <;> simp))
  have hl1 := HR1.out.lt
  have hl1' : w.heap.size < w1.heap.size := by omega
  obtain ⟨q0, q1, q2, q3, q4, q5, q6⟩ := HA1.out.cells
  clear hb1 HA HR HB HF HI
  obtain ⟨W2, hW2⟩ : ∃ W2, W2 = w1.alloc (.cells #[.int .i64 ux, .int .i64 uy, .int .i64 uz] 29) := ⟨_, rfl⟩
  have hx2 := (Below.refl w1.heap.size w1).alloc (Nat.le_refl _) (.cells #[.int .i64 ux, .int .i64 uy, .int .i64 uz] 29)
  have HA2 := Lib.hid (show Box7 W2 w.heap.size 31 (.slice fa 0 fc) (.slice ia m ic) (.int .i64 bx) (.int .i64 by') (.int .i64 bz) (.int .i64 fl) (.int .i64 co) from by rw [hW2]; exact HA1.out.call hx2)
  have HR2 := Lib.hid (show Box7 W2 (w.heap.size + 1) 31 (.slice none 0 0) (.slice none 0 0) (.int .i64 0) (.int .i64 0) (.int .i64 0) (.int .i64 0) (.int .i64 0) from by rw [hW2]; exact HR1.out.call hx2)
  have HV2 := Lib.hid (show Box W2 w1.heap.size 29 ux uy uz from by rw [hW2]; exact Box.new w1 _ _ _ _)
  have HB2 := Lib.hid (show Below w.heap.size w W2 from by rw [hW2]; exact HB1.out.trans (hx2.mono HB1.out.size))
  have HF2 := Lib.hid (show W2.ownsRow base 29 3 (.slice fa 0 fc) 0 (valRow (Agg.sufs k I 0)) from by rw [hW2]; exact HF1.out.alloc _)
  have HI2 := Lib.hid (show W2.ownsRow base 3 1 (.slice ia m ic) m (I.map (Value.int .i64)) from by rw [hW2]; exact HI1.out.alloc _)
  clear hx2 HA1 HR1 HB1 HF1 HI1
  have h64 : IntKind.i64.wrap ((m : Int) - 1) = (m : Int) - 1 := IntWalk.i64_in _ (by omega)
  have HC1 := Lib.hid (show w.heap.size + 1 < w1.heap.size from hl1)
  clear q2 q3 q4 q5 q6
  go_wp2_with fail
  rw [← hW2]
  obtain ⟨cv, hcv⟩ : ∃ cv, cv = w1.heap.size := ⟨_, rfl⟩
  rw [← hcv] at HV2 HC1 ⊢
  rw [← hcv] at hl1 hl1'
  clear hW2 hcv q0 q1
  have HFB2 := Lib.hid (show ∀ g, (Value.slice fa 0 fc).ownBlock = some g → g < w.heap.size ∨ cv < g from fun g hg => .inl (HFB.out g hg))
  go_loopw [6] (fun i wr => ∃ (j : Nat) (ga : Option Addr) (gc : Nat), j ≤ m ∧ i = .int .i64 ((m : Int) - 1 - (j : Int)) ∧ Hid (Box wr cv 29 (Agg.sufAt k I j).x (Agg.sufAt k I j).y (Agg.sufAt k I j).z) ∧ Hid (Box7 wr w.heap.size 31 (.slice ga j gc) (.slice ia m ic) (.int .i64 bx) (.int .i64 by') (.int .i64 bz) (.int .i64 fl) (.int .i64 (co + (j : Int)))) ∧ Hid (Box7 wr (w.heap.size + 1) 31 (.slice none 0 0) (.slice none 0 0) (.int .i64 0) (.int .i64 0) (.int .i64 0) (.int .i64 0) (.int .i64 0)) ∧ Hid (wr.ownsRow base 29 3 (.slice ga j gc) j (valRow (Agg.sufs k I j))) ∧ Hid (∀ g, (Value.slice ga j gc).ownBlock = some g → g < w.heap.size ∨ cv < g) ∧ Hid (wr.ownsRow base 3 1 (.slice ia m ic) m (I.map (Value.int .i64))) ∧ Hid (Below base w wr) ∧ Hid (cv < wr.heap.size) ∧ Hid (w.grownBy wr (Value.slice fa 0 fc).ownBlock) ∧ Hid (∀ g, (Value.slice ga j gc).ownBlock = some g → (Value.slice fa 0 fc).ownBlock = some g ∨ cv < g)) (fun i _ => (intOf i + 1).toNat)
  case atStart => exact ⟨0, fa, fc, Nat.zero_le _, by simp, by show Box _ _ _ _ _ _; rw [Agg.suf_zero, ← HUV.out]; exact HV2.out, Lib.hid (by simpa using HA2.out), HR2, HF2, HFB2, HI2, Lib.hid (HB2.out.mono hb), Lib.hid HV2.out.lt, Lib.hid (Below.grownNone HB2.out _), Lib.hid (fun g hg => .inl hg)⟩
  case round =>
    obtain ⟨j, ga, gc, hj, rfl, hv, hs, hr, hrw, hap, hin, hw, hcw, hgw, hap2⟩ := hrel
    clear HV2 HA2 HR2 HF2 HFB2 HI2 HB2
    have HST := Lib.hid (show FlipSt w (Value.slice fa 0 fc).ownBlock base cv (Agg.sufAt k I j) (.slice ga j gc) (.slice ia m ic) j m (valRow (Agg.sufs k I j)) (I.map (Value.int .i64)) bx by' bz fl (co + (j : Int)) wr from ⟨hv.out, hs.out, hr.out, hrw.out, hin.out, hw.out, hgw.out⟩)
    have hbw : base ≤ wr.heap.size := by have := hw.out.size; omega
    have hcl := hcw.out
    have hsl := hs.out.lt
    have hc1' := HC1.out
    clear hv hs hr hrw hin hw hcw hgw
    by_cases hlt : j < m
    · obtain ⟨q, hq⟩ : ∃ q : Nat, (m : Int) - 1 - (j : Int) = (q : Int) := ⟨m - 1 - j, by omega⟩
      have hqm : q < m := by omega
      have hqe : I.length - 1 - j = q := by have := HIL.out; omega
      have hst := Agg.suf_step HK.out HIT.out (j := j) (by have := HIL.out; omega)
      have hoks := Agg.ok_suf HK.out HIT.out (k := k) (l := I) j
      have hxi := Agg.item_at HIT.out (i := q) (by have := HIL.out; omega)
      rw [hqe] at hst
      obtain ⟨ib, ie⟩ : ∃ ib, ia = some ⟨ib, 0, none⟩ := by
        obtain ⟨g, c, e, -⟩ := b_own_some HST.out.i (by omega)
        simp only [Value.slice.injEq] at e
        exact ⟨g, e.1⟩
      subst ie
      have hcell := own_int_cell HST.out.i hqm
      rw [Nat.zero_add] at hcell
      have hibw : ib < w.heap.size := HIB.out ib rfl
      obtain ⟨x, hx⟩ : ∃ x, x = I[q]?.getD 0 := ⟨_, rfl⟩
      rw [← hx] at hst hxi hcell
      have hlo := Agg.ok_lift (k := k) HK.out hxi
      simp only [Agg.isItem, decide_eq_true_eq] at hxi
      obtain ⟨hx0, hx1⟩ := hxi
      obtain ⟨V, hV⟩ : ∃ V, V = Agg.sufAt k I j := ⟨_, rfl⟩
      rw [← hV] at hst hoks HST
      obtain ⟨Lx, hLx⟩ : ∃ L, L = Agg.lift k x := ⟨_, rfl⟩
      rw [← hLx] at hst hlo
      have hLI := fun w => s_lift_any k HK.out x w hx0 hx1
      rw [← hLx] at hLI
      have hCO := fun w => s_combine_any k HK.out Lx.x Lx.y Lx.z V.x V.y V.z w hlo hoks
      obtain ⟨V', hV'⟩ : ∃ V', V' = Agg.sufAt k I (j + 1) := ⟨_, rfl⟩
      rw [← hV'] at hst
      have hcomb : Agg.comb k ⟨Lx.x, Lx.y, Lx.z⟩ ⟨V.x, V.y, V.z⟩ = V' := hst
      rw [hcomb] at hCO
      have HLI := Lib.hid hLI
      have HCO := Lib.hid hCO
      have HV' := Lib.hid hV'
      have HQ := Lib.hid hq
      rw [hq]
      clear hst hoks hlo hLI hCO hcomb hV hLx hx hV' hq hqe
      obtain ⟨Vx, Vy, Vz⟩ := V
      obtain ⟨Lx1, Ly1, Lz1⟩ := Lx
      obtain ⟨Wx, Wy, Wz⟩ := V'
      simp only at HCO HLI
      have hq0 : (0 : Int) ≤ (q : Int) := Int.natCast_nonneg _
      have hq1 : (q : Int) < (m : Int) := by omega
      obtain ⟨q0, q1, q2, q3, q4, q5, q6⟩ := HST.out.s.cells
      obtain ⟨v0, v1, v2⟩ := HST.out.v.cells
      go_wp2_with fail
      go_region_with (first | (go_at_call 98; refine (HLI.out _).mono ?_; rintro e w3 ⟨rfl, hb3⟩; have HS3 := Lib.hid (HST.out.callD hb3 hbw); have hs3 : base ≤ w3.heap.size := (by have := hb3.size; simp at this; omega); have e1 := (hb3.cell (p := ⟨ib, q, none⟩) (World.block_lt_of_cell? _ _ hcell)).trans hcell; obtain ⟨r0, r1, r2, r3, r4, r5, r6⟩ := HS3.out.s.cells; obtain ⟨t0, t1, t2⟩ := HS3.out.v.cells; have f0 := HS3.out.v.free 0; have f1 := HS3.out.v.free 1; have f2 := HS3.out.v.free 2; clear hb3) | (go_at_call 97; refine (HCO.out _).mono ?_; rintro e w4 ⟨rfl, hb4⟩; have HS4 := Lib.hid (HS3.out.call hb4 hs3); have hs4 : base ≤ w4.heap.size := (by have := hb4.size; omega); have hc4 : cv < w4.heap.size := HS4.out.v.lt; obtain ⟨o0, o1, o2, o3, o4, o5, o6⟩ := HS4.out.s.cells; obtain ⟨p0, p1, p2⟩ := HS4.out.v.cells; have g0 := HS4.out.v.free 0; have g1 := HS4.out.v.free 1; have g2 := HS4.out.v.free 2; clear hb4))
      all_goals
        obtain ⟨W5, hW5⟩ : ∃ W5, W5 = (((w4.setCell ⟨cv, 0, none⟩ (.int .i64 Wx)).setCell ⟨cv, 1, none⟩ (.int .i64 Wy)).setCell ⟨cv, 2, none⟩ (.int .i64 Wz)) := ⟨_, rfl⟩
        have HS5 := Lib.hid (HS4.out.setV ⟨Wx, Wy, Wz⟩ (by omega) HC1.out hap.out HIB.out)
        have hs5 : base ≤ W5.heap.size := by rw [hW5]; simpa using hs4
        rw [← hW5] at HS5 ⊢
        clear hW5 HS3 HS4 r0 r1 r2 r3 r4 r5 r6 t0 t1 t2 f0 f1 f2 o0 o1 o2 o3 o4 o5 o6 p0 p1 p2 g0 g1 g2 q0 q1 q2 q3 q4 q5 q6 v0 v1 v2 e1
        obtain ⟨o0, o1, o2, o3, o4, o5, o6⟩ := HS5.out.s.cells
        obtain ⟨p0, p1, p2⟩ := HS5.out.v.cells
        have hc5 := HS5.out.v.lt
        go_wp2_with (
          at_builtin
          go_must (refine wpList_append_where rfl (.tmp 28) (.tmp 30) 26 rfl base 29 i0 (.agg #[.int .i64 0, .int .i64 0, .int .i64 0]) 3 24 Tryz.underlying26 hi hz0 hz1 hz2 rfl (by decide) _ _ _ rfl (HS5.out.f.alloc _) ⟨W5.heap.size, 0, none⟩ 1 1 [.int .i64 Wx, .int .i64 Wy, .int .i64 Wz] rfl rfl (cell_three_new _ _ _ _ _) (three_oneCell Wx Wy Wz) (by unfold maxLen; omega) (by omega) (by simp; omega) ?_)
          intro v6 w6 hown6 hgrow6 hwhere6
          have hfn6 : ∀ g, v6.ownBlock = some g → g < w.heap.size ∨ cv < g := (fun g hg => hwhere6.elim (fun e => hap.out g (e ▸ hg)) (fun ⟨g', e, hle⟩ => .inr (by rw [e] at hg; simp only [Option.some.injEq] at hg; subst hg; simp at hle; omega)))
          have hne6 : ∀ c, w.heap.size ≤ c → c ≤ cv → (Value.slice ga j gc).ownBlock ≠ some c := (fun c h1 h2 e => by have := hap.out c e; omega)
          have HX6 := Lib.hid ((HS5.out.s.alloc _).grown hgrow6 (hne6 _ (Nat.le_refl _) (by omega)))
          obtain ⟨r0, r1, r2, r3, r4, r5, r6⟩ := HX6.out.cells
          have f0 := HX6.out.free 0
          have f6 := HX6.out.free 6
          obtain ⟨g6, c6, e6, hgb, hgl, hgc1, hgc2⟩ := b_own_some hown6 (by omega)
          have HS6 := Lib.hid (HS5.out.appended hs5 HC1.out hap.out hown6 hgrow6 (by omega) HIB.out hfn6 hap2.out 1)
          subst e6
          have HF6 := Lib.hid hfn6
          have HG6 := Lib.hid (show ∀ g, (Value.slice (some ⟨g6, 0, none⟩) (j + 1) c6).ownBlock = some g → (Value.slice fa 0 fc).ownBlock = some g ∨ cv < g from fun g hg => hwhere6.elim (fun e => hap2.out g (e ▸ hg)) (fun ⟨g', e, hle⟩ => .inr (by rw [e] at hg; simp only [Option.some.injEq] at hg; subst hg; simp at hle; omega)))
          clear hown6 hgrow6 hwhere6 hne6 hfn6)
        have e7 : (co + (j : Int) + 1) = co + ((j + 1 : Nat) : Int) := by omega
        have e8 : valRow (Agg.sufs k I j) ++ [.int .i64 Wx, .int .i64 Wy, .int .i64 Wz] = valRow (Agg.sufs k I (j + 1)) := by rw [Agg.sufs_snoc, valRow_snoc, ← HV'.out]
        rw [e7, e8] at HS6
        rw [e7]
        have HH := HS6.out
        have h10 := HQ.out
        refine ⟨⟨j + 1, some ⟨g6, 0, none⟩, c6, by omega, by rw [show ((q : Int) - 1) = (m : Int) - 1 - ((j + 1 : Nat) : Int) from by omega], ?_, Lib.hid HH.s, Lib.hid HH.r, Lib.hid HH.f, HF6, Lib.hid HH.i, Lib.hid HH.b, Lib.hid HH.v.lt, Lib.hid HH.g, HG6⟩, by simp [intOf] <;> omega⟩
        rw [← HV'.out]
        exact Lib.hid HH.v
    · obtain rfl : j = m := by omega
      have HNW := Lib.hid (show ∀ g, (Value.slice ga j gc).ownBlock = some g → g ≠ w.heap.size from fun g hg => by have := hap.out g hg; omega)
      have h9 : (j : Int) - 1 - (j : Int) = -1 := by omega
      rw [h9]
      obtain ⟨q0, q1, q2, q3, q4, q5, q6⟩ := HST.out.s.cells
      obtain ⟨s0, s1, s2, s3, s4, s5, s6⟩ := HST.out.r.cells
      have f1 := HST.out.s.free 1
      go_wp2_with fail
      refine (HU2.out _).mono ?_
      rintro e w7 ⟨rfl, hb7⟩
      have HX7 := Lib.hid (((HST.out.s.set1 _).alloc _).call hb7)
      have HR7 := Lib.hid (((HST.out.r.other (by omega) _ _).alloc _).call hb7)
      have HB7 := Lib.hid (((HST.out.b.setCell (by simpa using hb) _).alloc (by simpa [World.setCell] using hbw) _).trans (hb7.mono (by simp [World.setCell]; omega)))
      have HG7 := Lib.hid (g_call (g_call (g_set (o := 1) (u := .slice (some ⟨wr.heap.size, 0, none⟩) 0 0) HST.out.g (Nat.le_refl _)) ((Below.refl _ _).alloc (Nat.le_refl _) _)) hb7)
      have HF7 := Lib.hid (((own_set_ne HST.out.f (fun g hg => by have := hap.out g hg; have := HNW.out g hg; omega)).alloc _).kept (Below.grownNone hb7 none) (by cases hv : (Value.slice ga j gc).ownBlock <;> simp))
      have HI7 := Lib.hid ((own_empty_new (Y := wr.setCell ⟨w.heap.size, 1, none⟩ (.slice (some ⟨wr.heap.size, 0, none⟩) 0 0)) (base := base) (e := 3) (g := wr.heap.size) (by simpa [World.setCell] using hbw) (by simp [World.setCell])).kept (Below.grownNone hb7 none) (by simp [Value.ownBlock]))
      clear hb7 q0 q1 q2 q3 q4 q5 q6 s0 s1 s2 s3 s4 s5 s6 f1
      obtain ⟨q0, q1, q2, q3, q4, q5, q6⟩ := HX7.out.cells
      obtain ⟨s0, s1, s2, s3, s4, s5, s6⟩ := HR7.out.cells
      have g2 := HX7.out.free 2
      have g3 := HX7.out.free 3
      have g4 := HX7.out.free 4
      have g5 := HX7.out.free 5
      have e0 := HR7.out.free 0
      have e1 := HR7.out.free 1
      have e2 := HR7.out.free 2
      have e3 := HR7.out.free 3
      have e4 := HR7.out.free 4
      have e5 := HR7.out.free 5
      have e6 := HR7.out.free 6
      go_wp2_with fail
      refine bodyPost_ret (by simp [results, Tryz.results99, go_sem, *]; try rfl) rfl ?_
      have hne1 : ∀ g, (Value.slice ga j gc).ownBlock = some g → g ≠ w.heap.size + 1 := fun g hg => by have := hap.out g hg; omega
      have hi0 : ∀ g, (Value.slice (some ⟨wr.heap.size, 0, none⟩) 0 0).ownBlock = some g → g ≠ w.heap.size := fun g hg => by simp [Value.ownBlock] at hg; omega
      have hi1 : ∀ g, (Value.slice (some ⟨wr.heap.size, 0, none⟩) 0 0).ownBlock = some g → g ≠ w.heap.size + 1 := fun g hg => by simp [Value.ownBlock] at hg; omega
      refine ⟨ga, some ⟨wr.heap.size, 0, none⟩, gc, 0, by rw [HIL.out, ← HUV.out], ?_, ?_, ?_, ?_⟩
      · rw [HIL.out]
        exact own_set_ne (own_set_ne (own_set_ne (own_set_ne (own_set_ne (own_set_ne (own_set_ne (own_set_ne (own_set_ne (own_set_ne (own_set_ne (HF7.out) HNW.out) HNW.out) HNW.out) HNW.out) hne1) hne1) hne1) hne1) hne1) hne1) hne1
      · exact own_set_ne (own_set_ne (own_set_ne (own_set_ne (own_set_ne (own_set_ne (own_set_ne (own_set_ne (own_set_ne (own_set_ne (own_set_ne (HI7.out) hi0) hi0) hi0) hi0) hi1) hi1) hi1) hi1) hi1) hi1) hi1
      · exact Below.setCell (Below.setCell (Below.setCell (Below.setCell (Below.setCell (Below.setCell (Below.setCell (Below.setCell (Below.setCell (Below.setCell (Below.setCell (HB7.out) hb _) hb _) hb _) hb _) (Nat.le_succ_of_le hb) _) (Nat.le_succ_of_le hb) _) (Nat.le_succ_of_le hb) _) (Nat.le_succ_of_le hb) _) (Nat.le_succ_of_le hb) _) (Nat.le_succ_of_le hb) _) (Nat.le_succ_of_le hb) _
      · exact g_set (g_set (g_set (g_set (g_set (g_set (g_set (g_set (g_set (g_set (g_set (HG7.out) (Nat.le_refl _)) (Nat.le_refl _)) (Nat.le_refl _)) (Nat.le_refl _)) (Nat.le_succ _)) (Nat.le_succ _)) (Nat.le_succ _)) (Nat.le_succ _)) (Nat.le_succ _)) (Nat.le_succ _)) (Nat.le_succ _)
end Go.Proofs.YticoalgnkddapaaGreat
