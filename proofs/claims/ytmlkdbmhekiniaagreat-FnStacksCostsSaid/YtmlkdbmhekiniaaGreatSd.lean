import Derived.Test.YtmlkdbmhekiniaaGreat3x
import Derived.Test.YtmlkdbmhekiniaaGreatTb
import Derived.Test.YtmlkdbmhekiniaaGreatRw
import Derived.Test.YtmlkdbmhekiniaaGreatTa
import Derived.Deep.DeepCutAuto
import Derived.Test.YtmlkdbmhekiniaaGreat3t
import Derived.Test.YtmlkdbmhekiniaaGreat3e
import Derived.Test.YtmlkdbmhekiniaaGreat3y
import Derived.Test.YtmlkdbmhekiniaaGreat3w
import Derived.Deep.RegionHeld3
import Derived.Deep.DeepMust
/-
  The model's flip of two stacks.
-/
namespace Go.Proofs.YtmlkdbmhekiniaaGreat
set_option linter.unusedSimpArgs false
set_option linter.unusedVariables false
open Go.RowKit
/-- Stacks that a flip leaves: its rows are not below base. -/
def Flipped (k : Int) (I : List Int) (fl co : Int) (base : Nat) (f0 : Option Nat) (w : World) (e : Ending) (w' : World) : Prop :=
  ∃ (fa ia : Option Addr) (fc ic : Nat), e = .returned (.agg #[.slice fa I.length fc, .slice ia 0 ic, .int .i64 (Agg.unit k).x, .int .i64 (Agg.unit k).y, .int .i64 (Agg.unit k).z, .int .i64 (fl + 1), .int .i64 (co + I.length)]) ∧
    w'.ownsRow base 25 3 (.slice fa I.length fc) I.length (valRow (Agg.sufs k I I.length)) ∧ w'.ownsRow base 3 1 (.slice ia 0 ic) 0 [] ∧ Below base w w' ∧ w.grownBy w' f0
theorem g_set {w wr : World} {f0 : Option Nat} {d o : Nat} {u : Value} (h : w.grownBy wr f0) (hd : w.heap.size ≤ d) : w.grownBy (wr.setCell ⟨d, o, none⟩ u) f0 :=
  ⟨h.os, h.tape, h.output, by simpa [World.setCell] using h.size, fun k hk hne => (Below.heap_setCell _ _ _ _ (fun e => by simp at e; omega)).trans (h.block k hk hne)⟩
theorem g_call {w wr w2 : World} {f0 : Option Nat} (h : w.grownBy wr f0) (hb : Below wr.heap.size wr w2) : w.grownBy w2 f0 := by
  have g := Below.grownNone hb none
  exact ⟨g.os.trans h.os, g.tape.trans h.tape, g.output.trans h.output, Nat.le_trans h.size g.size, fun k hk hne => (g.block k (Nat.lt_of_lt_of_le hk h.size) (by simp)).trans (h.block k hk hne)⟩
theorem g_grown {w wr w2 : World} {f0 f1 : Option Nat} {o : Obj} (h : w.grownBy wr f0) (hg : (wr.alloc o).grownBy w2 f1) (hf : ∀ g, f1 = some g → f0 = some g ∨ w.heap.size ≤ g) : w.grownBy w2 f0 := by
  have a := g_call h ((Below.refl wr.heap.size wr).alloc (Nat.le_refl _) o)
  refine ⟨hg.os.trans a.os, hg.tape.trans a.tape, hg.output.trans a.output, Nat.le_trans a.size hg.size, fun k hk hne => (hg.block k (Nat.lt_of_lt_of_le hk a.size) (fun e => ?_)).trans (a.block k hk hne)⟩
  rcases hf k (by rw [e]) with h1 | h1
  · exact hne (by rw [h1])
  · omega
theorem b_set_far {W : World} {d c o p : Nat} {u : Value} (h : c ≠ d) : (W.setCell ⟨d, o, none⟩ u).cell? ⟨c, p, none⟩ = W.cell? ⟨c, p, none⟩ :=
  World.cell?_of_block (by rw [Below.heap_setCell _ _ _ _ (by simpa using h)])
theorem own_set_ne {w : World} {base e size n d o : Nat} {v u : Value} {xs : List Value} (h : w.ownsRow base e size v n xs) (hd : ∀ g, v.ownBlock = some g → g ≠ d) : (w.setCell ⟨d, o, none⟩ u).ownsRow base e size v n xs := by
  refine h.kept (row := some d) ⟨rfl, rfl, rfl, by simp [World.setCell], fun k hk hne => Below.heap_setCell _ _ _ _ (fun e => hne (by rw [e]))⟩ ?_
  cases hv : v.ownBlock with
  | none => exact .inl rfl
  | some g => exact .inr (fun e => by cases e; exact hd _ hv rfl)
theorem b_own_some {w : World} {base e size n : Nat} {v : Value} {xs : List Value} (h : w.ownsRow base e size v n xs) (hn : 0 < n) : ∃ g c, v = .slice (some ⟨g, 0, none⟩) n c ∧ base ≤ g ∧ g < w.heap.size ∧ c ≤ 9223372036854775807 ∧ n ≤ c := by
  rcases h.2 with ⟨_, h0⟩ | ⟨g, cap, cur, rfl, hb, hg, h1, h2, -⟩
  · omega
  · exact ⟨g, cap, rfl, hb, (Array.getElem?_eq_some_iff.1 hg).1, by unfold maxLen at h2; omega, h1⟩
theorem own_int_cell {w : World} {base n g c : Nat} {o : Nat} {l : List Int} (h : w.ownsRow base 3 1 (.slice (some ⟨g, o, none⟩) n c) n (l.map (Value.int .i64))) {j : Nat} (hj : j < n) : w.cell? ⟨g, o + j, none⟩ = some (.int .i64 (l[j]?.getD 0)) := by
  have ho : o = 0 := by
    rcases h.2 with ⟨e, -⟩ | ⟨g', cap, cur, e, -⟩
    · simp at e
    · simp only [Value.slice.injEq, Option.some.injEq, Addr.mk.injEq] at e; exact e.1.2.1
  subst ho
  have hl : l.length = n := by have := h.1; simpa using this
  rw [Nat.zero_add, World.ownsRow.cellAt h j (by omega)]
  simp [List.getElem?_map, List.getElem?_eq_getElem (show j < l.length by omega)]
/-- The variables and rows of a flip under way. -/
structure FlipSt (w : World) (f0 : Option Nat) (base cv : Nat) (V : Agg.V) (fv iv : Value) (n m : Nat) (xs ys : List Value) (bx by' bz fl co : Int) (wr : World) : Prop where
  v : Box wr cv 25 V.x V.y V.z
  s : Box7 wr w.heap.size 59 fv iv (.int .i64 bx) (.int .i64 by') (.int .i64 bz) (.int .i64 fl) (.int .i64 co)
  r : Box7 wr (w.heap.size + 1) 59 (.slice none 0 0) (.slice none 0 0) (.int .i64 0) (.int .i64 0) (.int .i64 0) (.int .i64 0) (.int .i64 0)
  f : wr.ownsRow base 25 3 fv n xs
  i : wr.ownsRow base 3 1 iv m ys
  b : Below base w wr
  g : w.grownBy wr f0
section
variable {w wr w2 : World} {f0 : Option Nat} {base cv : Nat} {V : Agg.V} {fv iv : Value} {n m : Nat} {xs ys : List Value} {bx by' bz fl co : Int}
theorem FlipSt.call (h : FlipSt w f0 base cv V fv iv n m xs ys bx by' bz fl co wr) (hb : Below wr.heap.size wr w2) (hbs : base ≤ wr.heap.size) : FlipSt w f0 base cv V fv iv n m xs ys bx by' bz fl co w2 :=
  ⟨h.v.call hb, h.s.call hb, h.r.call hb, h.f.kept (Below.grownNone hb none) (by cases hv : fv.ownBlock <;> simp), h.i.kept (Below.grownNone hb none) (by cases hv : iv.ownBlock <;> simp), h.b.trans (hb.mono hbs), g_call h.g hb⟩
theorem FlipSt.drew (h : FlipSt w f0 base cv V fv iv n m xs ys bx by' bz fl co wr) : FlipSt w f0 base cv V fv iv n m xs ys bx by' bz fl co wr.drew :=
  ⟨h.v, h.s, h.r, h.f, h.i, h.b.drew, ⟨h.g.os, h.g.tape, h.g.output, h.g.size, h.g.block⟩⟩
theorem FlipSt.callD (h : FlipSt w f0 base cv V fv iv n m xs ys bx by' bz fl co wr) (hb : Below wr.drew.heap.size wr.drew w2) (hbs : base ≤ wr.heap.size) : FlipSt w f0 base cv V fv iv n m xs ys bx by' bz fl co w2 :=
  FlipSt.call (wr := wr.drew) h.drew hb hbs
theorem FlipSt.setV (h : FlipSt w f0 base cv V fv iv n m xs ys bx by' bz fl co wr) (V' : Agg.V) (hb : base ≤ cv) (hc : w.heap.size + 1 < cv) (hf : ∀ g, fv.ownBlock = some g → g < w.heap.size ∨ cv < g) (hi : ∀ g, iv.ownBlock = some g → g < w.heap.size) :
    FlipSt w f0 base cv V' fv iv n m xs ys bx by' bz fl co (((wr.setCell ⟨cv, 0, none⟩ (.int .i64 V'.x)).setCell ⟨cv, 1, none⟩ (.int .i64 V'.y)).setCell ⟨cv, 2, none⟩ (.int .i64 V'.z)) :=
  ⟨h.v.set _ _ _, ((h.s.other (by omega) _ _).other (by omega) _ _).other (by omega) _ _, ((h.r.other (by omega) _ _).other (by omega) _ _).other (by omega) _ _,
   own_set_ne (own_set_ne (own_set_ne h.f (fun g hg => by have := hf g hg; omega)) (fun g hg => by have := hf g hg; omega)) (fun g hg => by have := hf g hg; omega),
   own_set_ne (own_set_ne (own_set_ne h.i (fun g hg => by have := hi g hg; omega)) (fun g hg => by have := hi g hg; omega)) (fun g hg => by have := hi g hg; omega),
   ((h.b.setCell hb _).setCell hb _).setCell hb _, g_set (g_set (g_set h.g (by omega)) (by omega)) (by omega)⟩
theorem FlipSt.appended {o : Obj} {v' : Value} {n' : Nat} {xs' : List Value} (h : FlipSt w f0 base cv V fv iv n m xs ys bx by' bz fl co wr) (hbs : base ≤ wr.heap.size) (hc : w.heap.size + 1 < cv) (hf : ∀ g, fv.ownBlock = some g → g < w.heap.size ∨ cv < g)
    (hown : w2.ownsRow base 25 3 v' n' xs') (hg : (wr.alloc o).grownBy w2 fv.ownBlock) (hbw : base ≤ w.heap.size) (hib : ∀ g, iv.ownBlock = some g → g < w.heap.size) (hfn : ∀ g, v'.ownBlock = some g → g < w.heap.size ∨ cv < g) (hf0 : ∀ g, fv.ownBlock = some g → f0 = some g ∨ cv < g) (d : Int) :
    FlipSt w f0 base cv V v' iv n' m xs' ys bx by' bz fl (co + d) ((w2.setCell ⟨w.heap.size, 0, none⟩ v').setCell ⟨w.heap.size, 6, none⟩ (.int .i64 (co + d))) := by
  have hs2 : (wr.alloc o).heap.size ≤ w2.heap.size := hg.size
  simp at hs2
  have hne : ∀ c, w.heap.size ≤ c → c ≤ cv → fv.ownBlock ≠ some c := fun c h1 h2 e => by have := hf c e; omega
  refine ⟨?_, (((h.s.alloc o).grown hg (hne _ (by omega) (by omega))).set0 v').set6 _, ?_, ?_, ?_, ?_, g_set (g_set (g_grown h.g hg (fun g e => (hf0 g e).imp id (fun h9 => by omega))) (Nat.le_refl _)) (Nat.le_refl _)⟩
  · exact (((h.v.alloc o).grew hg (hne _ (by omega) (by omega))).set_other (by omega) _ _).set_other (by omega) _ _
  · exact (((h.r.alloc o).grown hg (hne _ (by omega) (by omega))).other (by omega) _ _).other (by omega) _ _
  · exact own_set_ne (own_set_ne hown (fun g hg => by have := hfn g hg; omega)) (fun g hg => by have := hfn g hg; omega)
  · have hi2 := (h.i.alloc o).kept hg (rows_apart (h.i.alloc o) (h.f.alloc o) (by decide))
    exact own_set_ne (own_set_ne hi2 (fun g hg => by have := hib g hg; omega)) (fun g hg => by have := hib g hg; omega)
  · have hb2 : Below base w w2 := (h.b.alloc hbs o).grown hg (by simp; omega) (fun k hk => by have := (h.f.lt k hk).1; exact this)
    exact (hb2.setCell (by simpa using hbw) _).setCell (by simpa using hbw) _
end
set_option maxRecDepth 8000 in
set_option maxHeartbeats 16000000 in
theorem s_l3Flip_any (k : Int) (hk : Agg.isKind k = true) (base : Nat) (fa : Option Addr) (fc : Nat) (ia : Option Addr) (m ic : Nat) (bx by' bz fl co : Int) (I : List Int) (w : World)
    (hrow : w.ownsRow base 25 3 (.slice fa 0 fc) 0 (valRow [])) (hI : w.ownsRow base 3 1 (.slice ia m ic) m (I.map (Value.int .i64))) (hit : Agg.itemsOk I = true) (hb : base ≤ w.heap.size)
    (hf0 : 0 ≤ fl) (hf1 : fl ≤ 1000000) (hc0 : 0 ≤ co) (hc1 : co ≤ 1000000) :
    Calls Tryz.prog 115 #[.int .i64 k, .agg #[.slice fa 0 fc, .slice ia m ic, .int .i64 bx, .int .i64 by', .int .i64 bz, .int .i64 fl, .int .i64 co]] w (Flipped k I fl co base (Value.slice fa 0 fc).ownBlock w) := by
  obtain ⟨i0, hi, hz0, hz1, hz2⟩ := info_parts infoVal
  have hIl : I.length = m := by have := hI.1; simpa using this
  have hm60 : m ≤ 60 := by have := Agg.items_len hit; omega
  have hicm : m ≤ ic ∧ ic ≤ 9223372036854775807 := by
    rcases hI.2 with ⟨e, h0⟩ | ⟨g, cap, cur, e, -, -, h1, h2, -⟩
    · simp only [Value.slice.injEq] at e; omega
    · simp only [Value.slice.injEq] at e; unfold maxLen at h2; omega
  obtain ⟨hic1, hic2⟩ := hicm
  have HIL := Lib.hid hIl
  have HIT := Lib.hid hit
  have HK := Lib.hid hk
  have HU := Lib.hid (fun w => s_unit_any k hk w)
  obtain ⟨⟨ux, uy, uz⟩, hU⟩ : ∃ U, U = Agg.unit k := ⟨_, rfl⟩
  have HUV := Lib.hid hU
  have HU2 := Lib.hid (fun w => by have := s_unit_any k hk w; rw [← hU] at this; exact this)
  obtain ⟨W, hW⟩ : ∃ W, W = ((w.alloc (.cells #[.slice fa 0 fc, .slice ia m ic, .int .i64 bx, .int .i64 by', .int .i64 bz, .int .i64 fl, .int .i64 co] 59)).alloc (.cells #[.slice none 0 0, .slice none 0 0, .int .i64 0, .int .i64 0, .int .i64 0, .int .i64 0, .int .i64 0] 59)) := ⟨_, rfl⟩
  have HA := Lib.hid (show Box7 W w.heap.size 59 (.slice fa 0 fc) (.slice ia m ic) (.int .i64 bx) (.int .i64 by') (.int .i64 bz) (.int .i64 fl) (.int .i64 co) from by rw [hW]; exact (Box7.new w _ _ _ _ _ _ _ _).alloc _)
  have HR := Lib.hid (show Box7 W (w.heap.size + 1) 59 (.slice none 0 0) (.slice none 0 0) (.int .i64 0) (.int .i64 0) (.int .i64 0) (.int .i64 0) (.int .i64 0) from by rw [hW]; exact Box7.new1 (Y := w.alloc _) _ _ _ _ _ _ _ _ (by simp))
  have hwW : Below w.heap.size w W := by rw [hW]; exact ((Below.refl _ _).alloc (Nat.le_refl _) _).alloc (by simp) _
  have HB := Lib.hid hwW
  have HF := Lib.hid (hrow.kept (Below.grownNone hwW none) (by cases hv : (Value.slice fa 0 fc).ownBlock <;> simp))
  have HI := Lib.hid (hI.kept (Below.grownNone hwW none) (by cases hv : (Value.slice ia m ic).ownBlock <;> simp))
  have HFB := Lib.hid (fun g hg => (hrow.lt g hg).2)
  have HIB := Lib.hid (fun g hg => (hI.lt g hg).2)
  clear hrow hI hit hk hwW hU hIl
  go_enter Tryz.func115, Tryz.ntmps115
  go_wp2_with fail
  rw [← hW]
  clear hW
  refine (HU2.out _).mono ?_
  rintro e w1 ⟨rfl, hb1⟩
  have HA1 := Lib.hid (HA.out.call hb1)
  have HR1 := Lib.hid (HR.out.call hb1)
  have HB1 := Lib.hid (HB.out.trans (hb1.mono HB.out.size))
  have HF1 := Lib.hid (HF.out.kept (Below.grownNone hb1 none) (by cases hv : (Value.slice fa 0 fc).ownBlock <;> simp))
  have HI1 := Lib.hid (HI.out.kept (Below.grownNone hb1 none) (by cases hv : (Value.slice ia m ic).ownBlock <;> simp))
  have hl1 := HR1.out.lt
  have hl1' : w.heap.size < w1.heap.size := by omega
  obtain ⟨q0, q1, q2, q3, q4, q5, q6⟩ := HA1.out.cells
  clear hb1 HA HR HB HF HI
  obtain ⟨W2, hW2⟩ : ∃ W2, W2 = w1.alloc (.cells #[.int .i64 ux, .int .i64 uy, .int .i64 uz] 25) := ⟨_, rfl⟩
  have hx2 := (Below.refl w1.heap.size w1).alloc (Nat.le_refl _) (.cells #[.int .i64 ux, .int .i64 uy, .int .i64 uz] 25)
  have HA2 := Lib.hid (show Box7 W2 w.heap.size 59 (.slice fa 0 fc) (.slice ia m ic) (.int .i64 bx) (.int .i64 by') (.int .i64 bz) (.int .i64 fl) (.int .i64 co) from by rw [hW2]; exact HA1.out.call hx2)
  have HR2 := Lib.hid (show Box7 W2 (w.heap.size + 1) 59 (.slice none 0 0) (.slice none 0 0) (.int .i64 0) (.int .i64 0) (.int .i64 0) (.int .i64 0) (.int .i64 0) from by rw [hW2]; exact HR1.out.call hx2)
  have HV2 := Lib.hid (show Box W2 w1.heap.size 25 ux uy uz from by rw [hW2]; exact Box.new w1 _ _ _ _)
  have HB2 := Lib.hid (show Below w.heap.size w W2 from by rw [hW2]; exact HB1.out.trans (hx2.mono HB1.out.size))
  have HF2 := Lib.hid (show W2.ownsRow base 25 3 (.slice fa 0 fc) 0 (valRow (Agg.sufs k I 0)) from by rw [hW2]; exact HF1.out.alloc _)
  have HI2 := Lib.hid (show W2.ownsRow base 3 1 (.slice ia m ic) m (I.map (Value.int .i64)) from by rw [hW2]; exact HI1.out.alloc _)
  clear hx2 HA1 HR1 HB1 HF1 HI1
  have h64 : IntKind.i64.wrap ((m : Int) - 1) = (m : Int) - 1 := IntWalk.i64_in _ (by omega)
  have HC1 := Lib.hid (show w.heap.size + 1 < w1.heap.size from hl1)
  clear q2 q3 q4 q5 q6
  go_wp2_with fail
  rw [← hW2]
  obtain ⟨cv, hcv⟩ : ∃ cv, cv = w1.heap.size := ⟨_, rfl⟩
  rw [← hcv] at HV2 HC1 ⊢
  rw [← hcv] at hl1 hl1'
  clear hW2 hcv q0 q1
  have HFB2 := Lib.hid (show ∀ g, (Value.slice fa 0 fc).ownBlock = some g → g < w.heap.size ∨ cv < g from fun g hg => .inl (HFB.out g hg))
  go_loopw [6] (fun i wr => ∃ (j : Nat) (ga : Option Addr) (gc : Nat), j ≤ m ∧ i = .int .i64 ((m : Int) - 1 - (j : Int)) ∧ Hid (Box wr cv 25 (Agg.sufAt k I j).x (Agg.sufAt k I j).y (Agg.sufAt k I j).z) ∧ Hid (Box7 wr w.heap.size 59 (.slice ga j gc) (.slice ia m ic) (.int .i64 bx) (.int .i64 by') (.int .i64 bz) (.int .i64 fl) (.int .i64 (co + (j : Int)))) ∧ Hid (Box7 wr (w.heap.size + 1) 59 (.slice none 0 0) (.slice none 0 0) (.int .i64 0) (.int .i64 0) (.int .i64 0) (.int .i64 0) (.int .i64 0)) ∧ Hid (wr.ownsRow base 25 3 (.slice ga j gc) j (valRow (Agg.sufs k I j))) ∧ Hid (∀ g, (Value.slice ga j gc).ownBlock = some g → g < w.heap.size ∨ cv < g) ∧ Hid (wr.ownsRow base 3 1 (.slice ia m ic) m (I.map (Value.int .i64))) ∧ Hid (Below base w wr) ∧ Hid (cv < wr.heap.size) ∧ Hid (w.grownBy wr (Value.slice fa 0 fc).ownBlock) ∧ Hid (∀ g, (Value.slice ga j gc).ownBlock = some g → (Value.slice fa 0 fc).ownBlock = some g ∨ cv < g)) (fun i _ => (intOf i + 1).toNat)
  case atStart => exact ⟨0, fa, fc, Nat.zero_le _, by simp, by show Box _ _ _ _ _ _; rw [Agg.suf_zero, ← HUV.out]; exact HV2.out, Lib.hid (by simpa using HA2.out), HR2, HF2, HFB2, HI2, Lib.hid (HB2.out.mono hb), Lib.hid HV2.out.lt, Lib.hid (Below.grownNone HB2.out _), Lib.hid (fun g hg => .inl hg)⟩
  case round =>
    obtain ⟨j, ga, gc, hj, rfl, hv, hs, hr, hrw, hap, hin, hw, hcw, hgw, hap2⟩ := hrel
    clear HV2 HA2 HR2 HF2 HFB2 HI2 HB2
    have HST := Lib.hid (show FlipSt w (Value.slice fa 0 fc).ownBlock base cv (Agg.sufAt k I j) (.slice ga j gc) (.slice ia m ic) j m (valRow (Agg.sufs k I j)) (I.map (Value.int .i64)) bx by' bz fl (co + (j : Int)) wr from ⟨hv.out, hs.out, hr.out, hrw.out, hin.out, hw.out, hgw.out⟩)
    have hbw : base ≤ wr.heap.size := by have := hw.out.size; omega
    have hcl := hcw.out
    have hsl := hs.out.lt
    have hc1' := HC1.out
    clear hv hs hr hrw hin hw hcw hgw
    by_cases hlt : j < m
    · obtain ⟨q, hq⟩ : ∃ q : Nat, (m : Int) - 1 - (j : Int) = (q : Int) := ⟨m - 1 - j, by omega⟩
      have hqm : q < m := by omega
      have hqe : I.length - 1 - j = q := by have := HIL.out; omega
      have hst := Agg.suf_step HK.out HIT.out (j := j) (by have := HIL.out; omega)
      have hoks := Agg.ok_suf HK.out HIT.out (k := k) (l := I) j
      have hxi := Agg.item_at HIT.out (i := q) (by have := HIL.out; omega)
      rw [hqe] at hst
      obtain ⟨ib, ie⟩ : ∃ ib, ia = some ⟨ib, 0, none⟩ := by
        obtain ⟨g, c, e, -⟩ := b_own_some HST.out.i (by omega)
        simp only [Value.slice.injEq] at e
        exact ⟨g, e.1⟩
      subst ie
      have hcell := own_int_cell HST.out.i hqm
      rw [Nat.zero_add] at hcell
      have hibw : ib < w.heap.size := HIB.out ib rfl
      obtain ⟨x, hx⟩ : ∃ x, x = I[q]?.getD 0 := ⟨_, rfl⟩
      rw [← hx] at hst hxi hcell
      have hlo := Agg.ok_lift (k := k) HK.out hxi
      simp only [Agg.isItem, decide_eq_true_eq] at hxi
      obtain ⟨hx0, hx1⟩ := hxi
      obtain ⟨V, hV⟩ : ∃ V, V = Agg.sufAt k I j := ⟨_, rfl⟩
      rw [← hV] at hst hoks HST
      obtain ⟨Lx, hLx⟩ : ∃ L, L = Agg.lift k x := ⟨_, rfl⟩
      rw [← hLx] at hst hlo
      have hLI := fun w => s_lift_any k HK.out x w hx0 hx1
      rw [← hLx] at hLI
      have hCO := fun w => s_combine_any k HK.out Lx.x Lx.y Lx.z V.x V.y V.z w hlo hoks
      obtain ⟨V', hV'⟩ : ∃ V', V' = Agg.sufAt k I (j + 1) := ⟨_, rfl⟩
      rw [← hV'] at hst
      have hcomb : Agg.comb k ⟨Lx.x, Lx.y, Lx.z⟩ ⟨V.x, V.y, V.z⟩ = V' := hst
      rw [hcomb] at hCO
      have HLI := Lib.hid hLI
      have HCO := Lib.hid hCO
      have HV' := Lib.hid hV'
      have HQ := Lib.hid hq
      rw [hq]
      clear hst hoks hlo hLI hCO hcomb hV hLx hx hV' hq hqe
      obtain ⟨Vx, Vy, Vz⟩ := V
      obtain ⟨Lx1, Ly1, Lz1⟩ := Lx
      obtain ⟨Wx, Wy, Wz⟩ := V'
      simp only at HCO HLI
      have hq0 : (0 : Int) ≤ (q : Int) := Int.natCast_nonneg _
      have hq1 : (q : Int) < (m : Int) := by omega
      obtain ⟨q0, q1, q2, q3, q4, q5, q6⟩ := HST.out.s.cells
      obtain ⟨v0, v1, v2⟩ := HST.out.v.cells
      go_wp2_with fail
      go_region_with (first | (go_at_call 110; refine (HLI.out _).mono ?_; rintro e w3 ⟨rfl, hb3⟩; have HS3 := Lib.hid (HST.out.callD hb3 hbw); have hs3 : base ≤ w3.heap.size := (by have := hb3.size; simp at this; omega); have e1 := (hb3.cell (p := ⟨ib, q, none⟩) (World.block_lt_of_cell? _ _ hcell)).trans hcell; obtain ⟨r0, r1, r2, r3, r4, r5, r6⟩ := HS3.out.s.cells; obtain ⟨t0, t1, t2⟩ := HS3.out.v.cells; have f0 := HS3.out.v.free 0; have f1 := HS3.out.v.free 1; have f2 := HS3.out.v.free 2; clear hb3) | (go_at_call 109; refine (HCO.out _).mono ?_; rintro e w4 ⟨rfl, hb4⟩; have HS4 := Lib.hid (HS3.out.call hb4 hs3); have hs4 : base ≤ w4.heap.size := (by have := hb4.size; omega); have hc4 : cv < w4.heap.size := HS4.out.v.lt; obtain ⟨o0, o1, o2, o3, o4, o5, o6⟩ := HS4.out.s.cells; obtain ⟨p0, p1, p2⟩ := HS4.out.v.cells; have g0 := HS4.out.v.free 0; have g1 := HS4.out.v.free 1; have g2 := HS4.out.v.free 2; clear hb4))
      all_goals
        obtain ⟨W5, hW5⟩ : ∃ W5, W5 = (((w4.setCell ⟨cv, 0, none⟩ (.int .i64 Wx)).setCell ⟨cv, 1, none⟩ (.int .i64 Wy)).setCell ⟨cv, 2, none⟩ (.int .i64 Wz)) := ⟨_, rfl⟩
        have HS5 := Lib.hid (HS4.out.setV ⟨Wx, Wy, Wz⟩ (by omega) HC1.out hap.out HIB.out)
        have hs5 : base ≤ W5.heap.size := by rw [hW5]; simpa using hs4
        rw [← hW5] at HS5 ⊢
        clear hW5 HS3 HS4 r0 r1 r2 r3 r4 r5 r6 t0 t1 t2 f0 f1 f2 o0 o1 o2 o3 o4 o5 o6 p0 p1 p2 g0 g1 g2 q0 q1 q2 q3 q4 q5 q6 v0 v1 v2 e1
        obtain ⟨o0, o1, o2, o3, o4, o5, o6⟩ := HS5.out.s.cells
        obtain ⟨p0, p1, p2⟩ := HS5.out.v.cells
        have hc5 := HS5.out.v.lt
        go_wp2_with (
          at_builtin
          go_must (refine wpList_append_where rfl (.tmp 28) (.tmp 30) 57 rfl base 25 i0 (.agg #[.int .i64 0, .int .i64 0, .int .i64 0]) 3 24 Tryz.underlying57 hi hz0 hz1 hz2 rfl (by decide) _ _ _ rfl (HS5.out.f.alloc _) ⟨W5.heap.size, 0, none⟩ 1 1 [.int .i64 Wx, .int .i64 Wy, .int .i64 Wz] rfl rfl (cell_three_new _ _ _ _ _) (three_oneCell Wx Wy Wz) (by unfold maxLen; omega) (by omega) (by simp; omega) ?_)
          intro v6 w6 hown6 hgrow6 hwhere6
          have hfn6 : ∀ g, v6.ownBlock = some g → g < w.heap.size ∨ cv < g := (fun g hg => hwhere6.elim (fun e => hap.out g (e ▸ hg)) (fun ⟨g', e, hle⟩ => .inr (by rw [e] at hg; simp only [Option.some.injEq] at hg; subst hg; simp at hle; omega)))
          have hne6 : ∀ c, w.heap.size ≤ c → c ≤ cv → (Value.slice ga j gc).ownBlock ≠ some c := (fun c h1 h2 e => by have := hap.out c e; omega)
          have HX6 := Lib.hid ((HS5.out.s.alloc _).grown hgrow6 (hne6 _ (Nat.le_refl _) (by omega)))
          obtain ⟨r0, r1, r2, r3, r4, r5, r6⟩ := HX6.out.cells
          have f0 := HX6.out.free 0
          have f6 := HX6.out.free 6
          obtain ⟨g6, c6, e6, hgb, hgl, hgc1, hgc2⟩ := b_own_some hown6 (by omega)
          have HS6 := Lib.hid (HS5.out.appended hs5 HC1.out hap.out hown6 hgrow6 (by omega) HIB.out hfn6 hap2.out 1)
          subst e6
          have HF6 := Lib.hid hfn6
          have HG6 := Lib.hid (show ∀ g, (Value.slice (some ⟨g6, 0, none⟩) (j + 1) c6).ownBlock = some g → (Value.slice fa 0 fc).ownBlock = some g ∨ cv < g from fun g hg => hwhere6.elim (fun e => hap2.out g (e ▸ hg)) (fun ⟨g', e, hle⟩ => .inr (by rw [e] at hg; simp only [Option.some.injEq] at hg; subst hg; simp at hle; omega)))
          clear hown6 hgrow6 hwhere6 hne6 hfn6)
        have e7 : (co + (j : Int) + 1) = co + ((j + 1 : Nat) : Int) := by omega
        have e8 : valRow (Agg.sufs k I j) ++ [.int .i64 Wx, .int .i64 Wy, .int .i64 Wz] = valRow (Agg.sufs k I (j + 1)) := by rw [Agg.sufs_snoc, valRow_snoc, ← HV'.out]
        rw [e7, e8] at HS6
        rw [e7]
        have HH := HS6.out
        have h10 := HQ.out
        refine ⟨⟨j + 1, some ⟨g6, 0, none⟩, c6, by omega, by rw [show ((q : Int) - 1) = (m : Int) - 1 - ((j + 1 : Nat) : Int) from by omega], ?_, Lib.hid HH.s, Lib.hid HH.r, Lib.hid HH.f, HF6, Lib.hid HH.i, Lib.hid HH.b, Lib.hid HH.v.lt, Lib.hid HH.g, HG6⟩, by simp [intOf] <;> omega⟩
        rw [← HV'.out]
        exact Lib.hid HH.v
    · obtain rfl : j = m := by omega
      have HNW := Lib.hid (show ∀ g, (Value.slice ga j gc).ownBlock = some g → g ≠ w.heap.size from fun g hg => by have := hap.out g hg; omega)
      have h9 : (j : Int) - 1 - (j : Int) = -1 := by omega
      rw [h9]
      obtain ⟨q0, q1, q2, q3, q4, q5, q6⟩ := HST.out.s.cells
      obtain ⟨s0, s1, s2, s3, s4, s5, s6⟩ := HST.out.r.cells
      have f1 := HST.out.s.free 1
      go_wp2_with fail
      refine (HU2.out _).mono ?_
      rintro e w7 ⟨rfl, hb7⟩
      have HX7 := Lib.hid (((HST.out.s.set1 _).alloc _).call hb7)
      have HR7 := Lib.hid (((HST.out.r.other (by omega) _ _).alloc _).call hb7)
      have HB7 := Lib.hid (((HST.out.b.setCell (by simpa using hb) _).alloc (by simpa [World.setCell] using hbw) _).trans (hb7.mono (by simp [World.setCell]; omega)))
      have HG7 := Lib.hid (g_call (g_call (g_set (o := 1) (u := .slice (some ⟨wr.heap.size, 0, none⟩) 0 0) HST.out.g (Nat.le_refl _)) ((Below.refl _ _).alloc (Nat.le_refl _) _)) hb7)
      have HF7 := Lib.hid (((own_set_ne HST.out.f (fun g hg => by have := hap.out g hg; have := HNW.out g hg; omega)).alloc _).kept (Below.grownNone hb7 none) (by cases hv : (Value.slice ga j gc).ownBlock <;> simp))
      have HI7 := Lib.hid ((own_empty_new (Y := wr.setCell ⟨w.heap.size, 1, none⟩ (.slice (some ⟨wr.heap.size, 0, none⟩) 0 0)) (base := base) (e := 3) (g := wr.heap.size) (by simpa [World.setCell] using hbw) (by simp [World.setCell])).kept (Below.grownNone hb7 none) (by simp [Value.ownBlock]))
      clear hb7 q0 q1 q2 q3 q4 q5 q6 s0 s1 s2 s3 s4 s5 s6 f1
      obtain ⟨q0, q1, q2, q3, q4, q5, q6⟩ := HX7.out.cells
      obtain ⟨s0, s1, s2, s3, s4, s5, s6⟩ := HR7.out.cells
      have g2 := HX7.out.free 2
      have g3 := HX7.out.free 3
      have g4 := HX7.out.free 4
      have g5 := HX7.out.free 5
      have e0 := HR7.out.free 0
      have e1 := HR7.out.free 1
      have e2 := HR7.out.free 2
      have e3 := HR7.out.free 3
      have e4 := HR7.out.free 4
      have e5 := HR7.out.free 5
      have e6 := HR7.out.free 6
      go_wp2_with fail
      refine bodyPost_ret (by simp [results, Tryz.results115, go_sem, *]; try rfl) rfl ?_
      have hne1 : ∀ g, (Value.slice ga j gc).ownBlock = some g → g ≠ w.heap.size + 1 := fun g hg => by have := hap.out g hg; omega
      have hi0 : ∀ g, (Value.slice (some ⟨wr.heap.size, 0, none⟩) 0 0).ownBlock = some g → g ≠ w.heap.size := fun g hg => by simp [Value.ownBlock] at hg; omega
      have hi1 : ∀ g, (Value.slice (some ⟨wr.heap.size, 0, none⟩) 0 0).ownBlock = some g → g ≠ w.heap.size + 1 := fun g hg => by simp [Value.ownBlock] at hg; omega
      refine ⟨ga, some ⟨wr.heap.size, 0, none⟩, gc, 0, by rw [HIL.out, ← HUV.out], ?_, ?_, ?_, ?_⟩
      · rw [HIL.out]
        exact own_set_ne (own_set_ne (own_set_ne (own_set_ne (own_set_ne (own_set_ne (own_set_ne (own_set_ne (own_set_ne (own_set_ne (own_set_ne (HF7.out) HNW.out) HNW.out) HNW.out) HNW.out) hne1) hne1) hne1) hne1) hne1) hne1) hne1
      · exact own_set_ne (own_set_ne (own_set_ne (own_set_ne (own_set_ne (own_set_ne (own_set_ne (own_set_ne (own_set_ne (own_set_ne (own_set_ne (HI7.out) hi0) hi0) hi0) hi0) hi1) hi1) hi1) hi1) hi1) hi1) hi1
      · exact Below.setCell (Below.setCell (Below.setCell (Below.setCell (Below.setCell (Below.setCell (Below.setCell (Below.setCell (Below.setCell (Below.setCell (Below.setCell (HB7.out) hb _) hb _) hb _) hb _) (Nat.le_succ_of_le hb) _) (Nat.le_succ_of_le hb) _) (Nat.le_succ_of_le hb) _) (Nat.le_succ_of_le hb) _) (Nat.le_succ_of_le hb) _) (Nat.le_succ_of_le hb) _) (Nat.le_succ_of_le hb) _
      · exact g_set (g_set (g_set (g_set (g_set (g_set (g_set (g_set (g_set (g_set (g_set (HG7.out) (Nat.le_refl _)) (Nat.le_refl _)) (Nat.le_refl _)) (Nat.le_refl _)) (Nat.le_succ _)) (Nat.le_succ _)) (Nat.le_succ _)) (Nat.le_succ _)) (Nat.le_succ _)) (Nat.le_succ _)) (Nat.le_succ _)
end Go.Proofs.YtmlkdbmhekiniaaGreat

/-
  The model's change of stacks.
-/
namespace Go.Proofs.YtmlkdbmhekiniaaGreat
set_option linter.unusedSimpArgs false
set_option linter.unusedVariables false
open Go.RowKit
/-- A variable of two cells: its block. -/
def Box2 (w : World) (c : Nat) (T : TypeId) (u v : Value) : Prop := w.heap[c]? = some (.cells #[u, v] T (0, 0))
section
variable {w w' : World} {c d : Nat} {T : TypeId} {u v : Value}
theorem Box2.new1 {Y : World} {g : Nat} (T : TypeId) (u v : Value) (hg : g = Y.heap.size) : Box2 (Y.alloc (.cells #[u, v] T)) g T u v := by subst hg; exact heap_alloc_new Y _
theorem Box2.lt (h : Box2 w c T u v) : c < w.heap.size := (Array.getElem?_eq_some_iff.1 h).1
theorem Box2.call (h : Box2 w c T u v) (hb : Below w.heap.size w w') : Box2 w' c T u v := (hb.block c h.lt).trans h
theorem Box2.alloc (h : Box2 w c T u v) (o : Obj) : Box2 (w.alloc o) c T u v := h.call ((Below.refl _ _).alloc (Nat.le_refl _) _)
theorem Box2.grown {row : Option Nat} (h : Box2 w c T u v) (hg : w.grownBy w' row) (hr : row ≠ some c) : Box2 w' c T u v := (hg.block c h.lt (fun e => hr e.symm)).trans h
theorem Box2.other (h : Box2 w c T u v) (hd : c ≠ d) (o : Nat) (x : Value) : Box2 (w.setCell ⟨d, o, none⟩ x) c T u v := by
  unfold Box2 at *
  rw [Below.heap_setCell _ _ _ _ (by simpa using hd)]
  exact h
theorem Box2.cells (h : Box2 w c T u v) : w.cell? ⟨c, 0, none⟩ = some u ∧ w.cell? ⟨c, 1, none⟩ = some v := by
  unfold Box2 at h
  constructor <;> simp [World.cell?, h]
end
/-- Stacks are made anew, and it is said whether. -/
def SteppedStk (s : Agg.S) (w : World) (e : Ending) (w' : World) : Prop := ∃ v, e = .returned (.tuple #[v, .bool true]) ∧ StkOwn w' w.heap.size w'.heap.size v s ∧ Below w.heap.size w w'
/-- The variables and rows of a change under way: the stacks before, the change, the result, and the stacks that are made. -/
structure StepSt (w : World) (Wn on : Nat) (va vb : Value) (bx by' bz fl co : Int) (pu : Bool) (x : Int) (fv iv : Value) (n m : Nat) (xs ys : List Value) (V : Agg.V) (fl' co' : Int) (wr : World) : Prop where
  a : Box7 wr w.heap.size 59 va vb (.int .i64 bx) (.int .i64 by') (.int .i64 bz) (.int .i64 fl) (.int .i64 co)
  p : Box2 wr (w.heap.size + 1) 29 (.bool pu) (.int .i64 x)
  r : Box7 wr (w.heap.size + 1 + 1) 59 (.slice none 0 0) (.slice none 0 0) (.int .i64 0) (.int .i64 0) (.int .i64 0) (.int .i64 0) (.int .i64 0)
  o : Box7 wr on 59 fv iv (.int .i64 V.x) (.int .i64 V.y) (.int .i64 V.z) (.int .i64 fl') (.int .i64 co')
  f : wr.ownsRow Wn 25 3 fv n xs
  i : wr.ownsRow Wn 3 1 iv m ys
  b : Below w.heap.size w wr
section
variable {w wr w2 : World} {Wn on : Nat} {va vb : Value} {bx by' bz fl co : Int} {pu : Bool} {x : Int} {fv iv : Value} {n m : Nat} {xs ys : List Value} {V : Agg.V} {fl' co' : Int}
theorem StepSt.call (h : StepSt w Wn on va vb bx by' bz fl co pu x fv iv n m xs ys V fl' co' wr) (hb : Below wr.heap.size wr w2) : StepSt w Wn on va vb bx by' bz fl co pu x fv iv n m xs ys V fl' co' w2 :=
  ⟨h.a.call hb, h.p.call hb, h.r.call hb, h.o.call hb, h.f.kept (Below.grownNone hb none) (by cases hv : fv.ownBlock <;> simp), h.i.kept (Below.grownNone hb none) (by cases hv : iv.ownBlock <;> simp), h.b.trans (hb.mono h.b.size)⟩
theorem StepSt.drew (h : StepSt w Wn on va vb bx by' bz fl co pu x fv iv n m xs ys V fl' co' wr) : StepSt w Wn on va vb bx by' bz fl co pu x fv iv n m xs ys V fl' co' wr.drew :=
  ⟨h.a, h.p, h.r, h.o, h.f, h.i, h.b.drew⟩
theorem StepSt.callD (h : StepSt w Wn on va vb bx by' bz fl co pu x fv iv n m xs ys V fl' co' wr) (hb : Below wr.drew.heap.size wr.drew w2) : StepSt w Wn on va vb bx by' bz fl co pu x fv iv n m xs ys V fl' co' w2 :=
  StepSt.call (wr := wr.drew) h.drew hb
theorem StepSt.added {o : Obj} {v' : Value} {m' : Nat} {ys' : List Value} (h : StepSt w Wn on va vb bx by' bz fl co pu x fv iv n m xs ys V fl' co' wr) (hW : w.heap.size + 1 + 1 < Wn) (hon : Wn ≤ on)
    (hf : ∀ g, fv.ownBlock = some g → g < on) (hi : ∀ g, iv.ownBlock = some g → g < on)
    (hown : w2.ownsRow Wn 3 1 v' m' ys') (hg : (wr.alloc o).grownBy w2 iv.ownBlock) (hw : v'.ownBlock = iv.ownBlock ∨ ∃ g, v'.ownBlock = some g ∧ (wr.alloc o).heap.size ≤ g) :
    StepSt w Wn on va vb bx by' bz fl co pu x fv v' n m' xs ys' V fl' co' (w2.setCell ⟨on, 1, none⟩ v') := by
  have hio : ∀ c, (c < Wn ∨ on ≤ c) → iv.ownBlock ≠ some c := fun c hc e => by
    have h1 := hi c e
    have h2 := (h.i.lt c e).1
    omega
  have hvo : ∀ g, v'.ownBlock = some g → g ≠ on := fun g e => by
    rcases hw with e' | ⟨g', e', hle⟩
    · have := hi g (e' ▸ e)
      omega
    · rw [e'] at e
      simp only [Option.some.injEq] at e
      subst e
      have := h.o.lt
      simp at hle
      omega
  refine ⟨?_, ?_, ?_, ?_, ?_, ?_, ?_⟩
  · exact ((h.a.alloc o).grown hg (hio _ (.inl (by omega)))).other (by omega) _ _
  · exact ((h.p.alloc o).grown hg (hio _ (.inl (by omega)))).other (by omega) _ _
  · exact ((h.r.alloc o).grown hg (hio _ (.inl (by omega)))).other (by omega) _ _
  · exact ((h.o.alloc o).grown hg (hio _ (.inr (Nat.le_refl _)))).set1 v'
  · exact own_set_ne ((h.f.alloc o).kept hg (rows_apart (h.f.alloc o) (h.i.alloc o) (by decide))) (fun g e => by have := hf g e; omega)
  · exact own_set_ne hown hvo
  · have hb2 : Below w.heap.size w w2 := (h.b.alloc h.b.size o).grown hg (Nat.le_trans h.b.size (by simp)) (fun k hk => by have := (h.i.lt k hk).1; omega)
    exact hb2.setCell (show w.heap.size ≤ on by omega) _
theorem StepSt.back (h : StepSt w Wn on va vb bx by' bz fl co pu x fv iv n m xs ys V fl' co' wr) (hW : w.heap.size + 1 + 1 < Wn) (hon : Wn ≤ on) (hf : ∀ g, fv.ownBlock = some g → g ≠ on) (hi : ∀ g, iv.ownBlock = some g → g ≠ on) (V' : Agg.V) :
    StepSt w Wn on va vb bx by' bz fl co pu x fv iv n m xs ys V' fl' co' (((wr.setCell ⟨on, 2, none⟩ (.int .i64 V'.x)).setCell ⟨on, 3, none⟩ (.int .i64 V'.y)).setCell ⟨on, 4, none⟩ (.int .i64 V'.z)) :=
  ⟨((h.a.other (by omega) _ _).other (by omega) _ _).other (by omega) _ _, ((h.p.other (by omega) _ _).other (by omega) _ _).other (by omega) _ _, ((h.r.other (by omega) _ _).other (by omega) _ _).other (by omega) _ _, ((h.o.set2 _).set3 _).set4 _,
   own_set_ne (own_set_ne (own_set_ne h.f hf) hf) hf, own_set_ne (own_set_ne (own_set_ne h.i hi) hi) hi, ((h.b.setCell (show w.heap.size ≤ on by omega) _).setCell (show w.heap.size ≤ on by omega) _).setCell (show w.heap.size ≤ on by omega) _⟩
theorem StepSt.counted (h : StepSt w Wn on va vb bx by' bz fl co pu x fv iv n m xs ys V fl' co' wr) (hW : w.heap.size + 1 + 1 < Wn) (hon : Wn ≤ on) (hf : ∀ g, fv.ownBlock = some g → g ≠ on) (hi : ∀ g, iv.ownBlock = some g → g ≠ on) (c : Int) :
    StepSt w Wn on va vb bx by' bz fl co pu x fv iv n m xs ys V fl' c (wr.setCell ⟨on, 6, none⟩ (.int .i64 c)) :=
  ⟨h.a.other (by omega) _ _, h.p.other (by omega) _ _, h.r.other (by omega) _ _, h.o.set6 _, own_set_ne h.f hf, own_set_ne h.i hi, h.b.setCell (show w.heap.size ≤ on by omega) _⟩
theorem StepSt.done {F' : List Agg.V} {I' : List Int} (h : StepSt w Wn on va vb bx by' bz fl co pu x fv iv n m xs ys V fl' co' wr) (hW : w.heap.size + 1 + 1 < Wn) (hn : F'.length = n) (hm : I'.length = m) (hx : valRow F' = xs) (hy : I'.map (Value.int .i64) = ys) (u0 u1 u2 u3 u4 u5 u6 : Value) :
    SteppedStk ⟨F', I', V, fl', co'⟩ w (.returned (.tuple #[.agg #[fv, iv, .int .i64 V.x, .int .i64 V.y, .int .i64 V.z, .int .i64 fl', .int .i64 co'], .bool true]))
      (((((((wr.setCell ⟨w.heap.size + 1 + 1, 0, none⟩ u0).setCell ⟨w.heap.size + 1 + 1, 1, none⟩ u1).setCell ⟨w.heap.size + 1 + 1, 2, none⟩ u2).setCell ⟨w.heap.size + 1 + 1, 3, none⟩ u3).setCell ⟨w.heap.size + 1 + 1, 4, none⟩ u4).setCell ⟨w.heap.size + 1 + 1, 5, none⟩ u5).setCell ⟨w.heap.size + 1 + 1, 6, none⟩ u6) := by
  subst hn hm hx hy
  have hf : ∀ g, fv.ownBlock = some g → g ≠ w.heap.size + 1 + 1 := fun g e => by have := (h.f.lt g e).1; omega
  have hi : ∀ g, iv.ownBlock = some g → g ≠ w.heap.size + 1 + 1 := fun g e => by have := (h.i.lt g e).1; omega
  have hle : ∀ o, w.heap.size ≤ (⟨w.heap.size + 1 + 1, o, none⟩ : Addr).block := fun o => show w.heap.size ≤ w.heap.size + 1 + 1 by omega
  have hb := ((((((h.b.setCell (hle 0) u0).setCell (hle 1) u1).setCell (hle 2) u2).setCell (hle 3) u3).setCell (hle 4) u4).setCell (hle 5) u5).setCell (hle 6) u6
  refine ⟨_, rfl, ⟨fv, iv, rfl, OwnV.of (lo := Wn) ?_ (by omega) hb.size, OwnR.of (lo := Wn) ?_ (by omega) hb.size⟩, hb⟩
  · exact own_set_ne (own_set_ne (own_set_ne (own_set_ne (own_set_ne (own_set_ne (own_set_ne h.f hf) hf) hf) hf) hf) hf) hf
  · exact own_set_ne (own_set_ne (own_set_ne (own_set_ne (own_set_ne (own_set_ne (own_set_ne h.i hi) hi) hi) hi) hi) hi) hi
end
theorem map_snoc_int (l : List Int) (x : Int) : (l ++ [x]).map (Value.int .i64) = l.map (Value.int .i64) ++ [.int .i64 x] := by simp
set_option maxRecDepth 8000 in
set_option maxHeartbeats 4000000 in
theorem s_l3Step_push (k : Int) (fa : Option Addr) (fn fc : Nat) (ia : Option Addr) (m ic : Nat) (bx by' bz fl co : Int) (F : List Agg.V) (I : List Int) (x : Int) (w : World) (hF : Vals w fa fn fc F) (hI : Nums .i64 w ia m ic I) (hok : Agg.sOk k ⟨F, I, ⟨bx, by', bz⟩, fl, co⟩ = true) (hx : Agg.isItem x = true) (hsz : fn + m < 60) :
    Calls Tryz.prog 72 #[.int .i64 k, .agg #[.slice fa fn fc, .slice ia m ic, .int .i64 bx, .int .i64 by', .int .i64 bz, .int .i64 fl, .int .i64 co], .agg #[.bool true, .int .i64 x]] w (SteppedStk (Agg.pushS k ⟨F, I, ⟨bx, by', bz⟩, fl, co⟩ x) w) := by
  obtain ⟨i0, hi, hz0, hz1, hz2⟩ := info_parts infoInt
  have hFl : F.length = fn := hF.1
  have hIl : I.length = m := hI.1
  have HF := Lib.hid hF
  have HI := Lib.hid hI
  have HOK := Lib.hid hok
  have HFL := Lib.hid hFl
  have HIL := Lib.hid hIl
  have HXI := Lib.hid hx
  simp only [Agg.isItem, decide_eq_true_eq] at hx
  obtain ⟨hx0, hx1⟩ := hx
  have hok0 := hok
  clear hF hI hok hFl hIl
  have hco : 0 ≤ co ∧ co ≤ 1000000 := by simp only [Agg.sOk, Bool.and_eq_true, decide_eq_true_eq] at hok0; omega
  obtain ⟨hco0, hco1⟩ := hco
  have hk := (Agg.sOk_parts hok0).1
  have hcc : 0 ≤ co := (Agg.sOk_parts hok0).2.2.2.2.2.2.2
  have hback : Agg.ok k ⟨bx, by', bz⟩ = true := (Agg.sOk_parts hok0).2.2.2.2.2.1
  have hlo := Agg.ok_lift (k := k) hk HXI.out
  clear hok0
  obtain ⟨W, hW⟩ : ∃ W, W = ((w.alloc (.cells #[.slice fa fn fc, .slice ia m ic, .int .i64 bx, .int .i64 by', .int .i64 bz, .int .i64 fl, .int .i64 co] 59)).alloc (.cells #[.bool true, .int .i64 x] 29)).alloc (.cells #[.slice none 0 0, .slice none 0 0, .int .i64 0, .int .i64 0, .int .i64 0, .int .i64 0, .int .i64 0] 59) := ⟨_, rfl⟩
  have HA := Lib.hid (show Box7 W w.heap.size 59 (.slice fa fn fc) (.slice ia m ic) (.int .i64 bx) (.int .i64 by') (.int .i64 bz) (.int .i64 fl) (.int .i64 co) from by rw [hW]; exact ((Box7.new w _ _ _ _ _ _ _ _).alloc _).alloc _)
  have HP := Lib.hid (show Box2 W (w.heap.size + 1) 29 (.bool true) (.int .i64 x) from by rw [hW]; exact (Box2.new1 _ _ _ (by simp)).alloc _)
  have HR := Lib.hid (show Box7 W (w.heap.size + 1 + 1) 59 (.slice none 0 0) (.slice none 0 0) (.int .i64 0) (.int .i64 0) (.int .i64 0) (.int .i64 0) (.int .i64 0) from by rw [hW]; exact Box7.new1 _ _ _ _ _ _ _ _ (by simp))
  have HB := Lib.hid (show Below w.heap.size w W from by rw [hW]; exact (((Below.refl _ _).alloc (Nat.le_refl _) _).alloc (by simp) _).alloc (by simp; omega) _)
  have hsz1 := HR.out.lt
  go_enter Tryz.func72, Tryz.ntmps72
  go_wp2_with fail
  rw [← hW]
  clear hW
  refine (s_l3Copy_any fa fn fc ia m ic bx by' bz fl co F I _ (HF.out.below HB.out) (HI.out.below HB.out) (by omega) (by omega)).mono ?_
  rintro e w1 ⟨v, rfl, ⟨fv, iv, rfl, hOF, hOI⟩, hb1⟩
  have hs1 := hb1.size
  have HA1 := Lib.hid (HA.out.call hb1)
  have HP1 := Lib.hid (HP.out.call hb1)
  have HR1 := Lib.hid (HR.out.call hb1)
  have HB1 := Lib.hid (HB.out.trans (hb1.mono HB.out.size))
  obtain ⟨ga, gc, rfl, -⟩ := hOF.vals
  obtain ⟨ja, jc, rfl, -, -⟩ := hOI.nums
  simp only at *
  have HOF := Lib.hid hOF.1
  have HOI := Lib.hid hOI.1
  have HGF := Lib.hid hOF.2.2.2
  have HGI := Lib.hid hOI.2.2.2
  clear hb1 hOF hOI HA HP HR HB
  obtain ⟨p0, p1⟩ := HP1.out.cells
  have hl1 := HR1.out.lt
  have hl0 : w.heap.size < w1.heap.size := by omega
  have hl2 : w.heap.size + 1 < w1.heap.size := by omega
  obtain ⟨W2, hW2⟩ : ∃ W2, W2 = w1.alloc (.cells #[.slice ga F.length gc, .slice ja I.length jc, .int .i64 bx, .int .i64 by', .int .i64 bz, .int .i64 fl, .int .i64 co] 59) := ⟨_, rfl⟩
  have HA2 := Lib.hid (show Box7 W2 w.heap.size 59 (.slice fa fn fc) (.slice ia m ic) (.int .i64 bx) (.int .i64 by') (.int .i64 bz) (.int .i64 fl) (.int .i64 co) from by rw [hW2]; exact HA1.out.alloc _)
  have HP2 := Lib.hid (show Box2 W2 (w.heap.size + 1) 29 (.bool true) (.int .i64 x) from by rw [hW2]; exact HP1.out.alloc _)
  have HR2 := Lib.hid (show Box7 W2 (w.heap.size + 1 + 1) 59 (.slice none 0 0) (.slice none 0 0) (.int .i64 0) (.int .i64 0) (.int .i64 0) (.int .i64 0) (.int .i64 0) from by rw [hW2]; exact HR1.out.alloc _)
  have HO2 := Lib.hid (show Box7 W2 w1.heap.size 59 (.slice ga F.length gc) (.slice ja I.length jc) (.int .i64 bx) (.int .i64 by') (.int .i64 bz) (.int .i64 fl) (.int .i64 co) from by rw [hW2]; exact Box7.new w1 _ _ _ _ _ _ _ _)
  have HB2 := Lib.hid (show Below w.heap.size w W2 from by rw [hW2]; exact HB1.out.alloc HB1.out.size _)
  have HF2 := Lib.hid (show W2.ownsRow W.heap.size 25 3 (.slice ga F.length gc) F.length (valRow F) from by rw [hW2]; exact HOF.out.alloc _)
  have HI2 := Lib.hid (show W2.ownsRow W.heap.size 3 1 (.slice ja I.length jc) I.length (I.map (Value.int .i64)) from by rw [hW2]; exact HOI.out.alloc _)
  have hs2 : W2.heap.size = w1.heap.size + 1 := by rw [hW2]; simp
  go_wp2_with fail
  rw [← hW2]
  clear hW2 HA1 HP1 HR1 HB1 HOF HOI p0 p1
  refine (s_in_item _ _).mono ?_
  rintro e wk ⟨rfl, rfl⟩
  rw [HXI.out]
  obtain ⟨p0, p1⟩ := HP2.out.cells
  obtain ⟨q0, q1, q2, q3, q4, q5, q6⟩ := HA2.out.cells
  obtain ⟨o0, o1, o2, o3, o4, o5, o6⟩ := HO2.out.cells
  have hsl : (fn : Int) + (m : Int) < 60 := by omega
  have hsl' : ¬ (60 ≤ (fn : Int) + (m : Int)) := by omega
  have HS2 := Lib.hid hs2
  clear hs2
  have hnI : ∀ g, (Value.slice ja I.length jc).ownBlock = some g → W.heap.size ≤ g ∧ g < w1.heap.size := fun g hg => ⟨(HI2.out.lt g hg).1, HGI.out g hg⟩
  have HNI := Lib.hid hnI
  have HC2 := Lib.hid (show W.heap.size ≤ w1.heap.size from hs1)
  clear hnI
  have HST2 := Lib.hid (show StepSt w W.heap.size w1.heap.size (.slice fa fn fc) (.slice ia m ic) bx by' bz fl co true x (.slice ga F.length gc) (.slice ja I.length jc) F.length I.length (valRow F) (I.map (Value.int .i64)) ⟨bx, by', bz⟩ fl co W2 from ⟨HA2.out, HP2.out, HR2.out, HO2.out, HF2.out, HI2.out, HB2.out⟩)
  have HW := Lib.hid hsz1
  clear HA2 HP2 HR2 HO2 HF2 HI2 HB2 hsz1 hl0 hl1 hl2
  go_wp2_with (
    at_builtin
    go_must (refine wpList_append_where rfl (.tmp 29) (.tmp 32) 23 rfl W.heap.size 3 i0 (.int .i64 0) 1 8 Tryz.underlying23 hi hz0 hz1 hz2 rfl (by decide) _ _ _ rfl (HST2.out.i.alloc _) ⟨W2.heap.size, 0, none⟩ 1 1 [.int .i64 x] rfl rfl (cell_one_new _ _ _) (ints_oneCell .i64 [x]) (by have := HIL.out; unfold maxLen; omega) (by have := HIL.out; omega) (by have := HS2.out; simp; omega) ?_)
    go_loud (
      intro v3 w3 hown3 hgrow3 hwhere3
      have HST3 := Lib.hid (HST2.out.added HW.out HC2.out HGF.out HGI.out hown3 hgrow3 hwhere3)
      obtain ⟨g3, c3, e3, -, -, -, -⟩ := b_own_some hown3 (by omega)
      have HO3 := Lib.hid ((HST2.out.o.alloc _).grown hgrow3 (fun e => by have := HGI.out _ e; omega))
      have f1 := HO3.out.free 1
      have o1 := HO3.out.cells.2.1
      have HNE3 := Lib.hid hwhere3
      subst e3
      clear hown3 hgrow3 hwhere3 HO3))
  obtain ⟨W4, hW4⟩ : ∃ W4, W4 = w3.setCell ⟨w1.heap.size, 1, none⟩ (.slice (some ⟨g3, 0, none⟩) (I.length + 1) c3) := ⟨_, rfl⟩
  rw [← hW4] at HST3 ⊢
  clear hW4 f1 o1 HST2
  have hg3 : g3 ≠ w1.heap.size := by
    rcases HNE3.out with e | ⟨g', e, hle⟩
    · have := HGI.out g3 (e.symm.trans rfl); omega
    · simp [Value.ownBlock] at e; have := HS2.out; simp at hle; omega
  have HNI3 := Lib.hid (show ∀ g, (Value.slice (some ⟨g3, 0, none⟩) (I.length + 1) c3).ownBlock = some g → g ≠ w1.heap.size from fun g hg => by simp [Value.ownBlock] at hg; omega)
  have HNF3 := Lib.hid (show ∀ g, (Value.slice ga F.length gc).ownBlock = some g → g ≠ w1.heap.size from fun g hg => by have := HGF.out g hg; omega)
  clear hg3 HNE3
  obtain ⟨Lx, hLx⟩ : ∃ L, L = Agg.lift k x := ⟨_, rfl⟩
  rw [← hLx] at hlo
  have hLI := fun w => s_lift_any k hk x w hx0 hx1
  rw [← hLx] at hLI
  have hCO := fun w => s_combine_any k hk bx by' bz Lx.x Lx.y Lx.z w hback hlo
  obtain ⟨V', hV'⟩ : ∃ V', V' = Agg.comb k ⟨bx, by', bz⟩ ⟨Lx.x, Lx.y, Lx.z⟩ := ⟨_, rfl⟩
  rw [← hV'] at hCO
  have HLI := Lib.hid hLI
  have HCO := Lib.hid hCO
  have HV' := Lib.hid (show V' = Agg.comb k ⟨bx, by', bz⟩ (Agg.lift k x) from by rw [hV', ← hLx])
  clear hLI hCO hLx hV' hlo hback hk
  obtain ⟨Lx1, Ly1, Lz1⟩ := Lx
  obtain ⟨Wx, Wy, Wz⟩ := V'
  simp only at HCO HLI
  obtain ⟨q0, q1, q2, q3, q4, q5, q6⟩ := HST3.out.a.cells
  obtain ⟨p0, p1⟩ := HST3.out.p.cells
  obtain ⟨o0, o1, o2, o3, o4, o5, o6⟩ := HST3.out.o.cells
  go_region_with (first | (go_at_call 110; refine (HLI.out _).mono ?_; rintro e w5 ⟨rfl, hb5⟩; have HST5 := Lib.hid (HST3.out.callD hb5); obtain ⟨r0, r1, r2, r3, r4, r5, r6⟩ := HST5.out.a.cells; obtain ⟨t0, t1⟩ := HST5.out.p.cells; clear hb5) | (go_at_call 109; refine (HCO.out _).mono ?_; rintro e w6 ⟨rfl, hb6⟩; have HST6 := Lib.hid (HST5.out.call hb6); obtain ⟨u0, u1, u2, u3, u4, u5, u6⟩ := HST6.out.o.cells; have g2 := HST6.out.o.free 2; have g3 := HST6.out.o.free 3; have g4 := HST6.out.o.free 4; clear hb6))
  all_goals
    obtain ⟨W7, hW7⟩ : ∃ W7, W7 = (((w6.setCell ⟨w1.heap.size, 2, none⟩ (.int .i64 Wx)).setCell ⟨w1.heap.size, 3, none⟩ (.int .i64 Wy)).setCell ⟨w1.heap.size, 4, none⟩ (.int .i64 Wz)) := ⟨_, rfl⟩
    have HST7 := Lib.hid (HST6.out.back HW.out HC2.out HNF3.out HNI3.out ⟨Wx, Wy, Wz⟩)
    rw [← hW7] at HST7 ⊢
    clear hW7 HST6 HST5 q0 q1 q2 q3 q4 q5 q6 p0 p1 o0 o1 o2 o3 o4 o5 o6 r0 r1 r2 r3 r4 r5 r6 t0 t1 u0 u1 u2 u3 u4 u5 u6 g2 g3 g4
    obtain ⟨q0, q1, q2, q3, q4, q5, q6⟩ := HST7.out.a.cells
    obtain ⟨o0, o1, o2, o3, o4, o5, o6⟩ := HST7.out.o.cells
    obtain ⟨s0, s1, s2, s3, s4, s5, s6⟩ := HST7.out.r.cells
    have f6 := HST7.out.o.free 6
    have e0 := HST7.out.r.free 0
    have e1 := HST7.out.r.free 1
    have e2 := HST7.out.r.free 2
    have e3 := HST7.out.r.free 3
    have e4 := HST7.out.r.free 4
    have e5 := HST7.out.r.free 5
    have e6 := HST7.out.r.free 6
    have hx9 := HW.out
    have hx8 := HC2.out
    have HST8 := Lib.hid (HST7.out.counted HW.out HC2.out HNF3.out HNI3.out (co + 1))
    have hd1 : w.heap.size ≠ w1.heap.size := by omega
    have hd2 : w.heap.size + 1 + 1 ≠ w1.heap.size := by omega
    have hd3 : w1.heap.size ≠ w.heap.size + 1 + 1 := by omega
    go_wp2_with fail
    refine bodyPost_ret (by simp [results, Tryz.results72, go_sem, *]; try rfl) rfl ?_
    have hps : Agg.pushS k ⟨F, I, ⟨bx, by', bz⟩, fl, co⟩ x = ⟨F, I ++ [x], ⟨Wx, Wy, Wz⟩, fl, co + 1⟩ := by rw [HV'.out]; rfl
    rw [hps]
    exact HST8.out.done hx9 rfl (by simp) rfl (map_snoc_int I x) _ _ _ _ _ _ _
end Go.Proofs.YtmlkdbmhekiniaaGreat

/-
  The model's change of stacks: an item goes.
-/
namespace Go.Proofs.YtmlkdbmhekiniaaGreat
set_option linter.unusedSimpArgs false
set_option linter.unusedVariables false
open Go.RowKit
/-- The first k of a row of one's own. -/
theorem own_less {w : World} {base e size n c k : Nat} {a : Option Addr} {xs : List Value} (h : w.ownsRow base e size (.slice a n c) n xs) (hk : k ≤ n) (hn : 0 < n) : w.ownsRow base e size (.slice a k c) k (xs.take (k * size)) := by
  have hl := h.1
  have hm : k * size ≤ n * size := Nat.mul_le_mul_right _ hk
  refine ⟨by rw [List.length_take]; omega, ?_⟩
  rcases h.2 with ⟨e, h0⟩ | ⟨g, cap, cur, e, hb, hh, k1, k2, k3, k4⟩
  · simp only [Value.slice.injEq] at e
    omega
  · simp only [Value.slice.injEq] at e
    obtain ⟨rfl, -, rfl⟩ := e
    exact .inr ⟨g, c, cur, rfl, hb, hh, by omega, k2, k3, by rw [← k4, List.take_take, Nat.min_eq_left hm]⟩
theorem valRow_take (l : List Agg.V) : ∀ k, valRow (l.take k) = (valRow l).take (k * 3) := by
  induction l with
  | nil => intro k; simp [valRow]
  | cons v l ih =>
    intro k
    cases k with
    | zero => simp [valRow]
    | succ k =>
      have h1 : valRow (v :: l.take k) = [.int .i64 v.x, .int .i64 v.y, .int .i64 v.z] ++ valRow (l.take k) := by simp [valRow, valCells]
      have h2 : valRow (v :: l) = [.int .i64 v.x, .int .i64 v.y, .int .i64 v.z] ++ valRow l := by simp [valRow, valCells]
      rw [List.take_succ_cons, h1, h2, ih k, show (k + 1) * 3 = k * 3 + 1 + 1 + 1 by omega]
      simp
theorem StepSt.shorter {w wr : World} {Wn on : Nat} {va vb : Value} {bx by' bz fl co : Int} {pu : Bool} {x : Int} {a : Option Addr} {iv : Value} {n c m k : Nat} {xs ys : List Value} {V : Agg.V} {fl' co' : Int}
    (h : StepSt w Wn on va vb bx by' bz fl co pu x (.slice a n c) iv n m xs ys V fl' co' wr) (hW : w.heap.size + 1 + 1 < Wn) (hon : Wn ≤ on) (hf : ∀ g, (Value.slice a n c).ownBlock = some g → g ≠ on) (hi : ∀ g, iv.ownBlock = some g → g ≠ on) (hk : k ≤ n) (hn : 0 < n) :
    StepSt w Wn on va vb bx by' bz fl co pu x (.slice a k c) iv k m (xs.take (k * 3)) ys V fl' co' (wr.setCell ⟨on, 0, none⟩ (.slice a k c)) :=
  ⟨h.a.other (by omega) _ _, h.p.other (by omega) _ _, h.r.other (by omega) _ _, h.o.set0 _, own_set_ne (own_less h.f hk hn) (fun g hg => hf g (by cases a with | none => exact hg | some q => exact hg)), own_set_ne h.i hi, h.b.setCell (show w.heap.size ≤ on by omega) _⟩
set_option maxRecDepth 8000 in
set_option maxHeartbeats 4000000 in
theorem s_l3Step_pop (k : Int) (fa : Option Addr) (fn fc : Nat) (ia : Option Addr) (m ic : Nat) (bx by' bz fl co : Int) (F : List Agg.V) (I : List Int) (w : World) (hF : Vals w fa fn fc F) (hI : Nums .i64 w ia m ic I) (hok : Agg.sOk k ⟨F, I, ⟨bx, by', bz⟩, fl, co⟩ = true) (hn0 : 0 < fn) :
    Calls Tryz.prog 72 #[.int .i64 k, .agg #[.slice fa fn fc, .slice ia m ic, .int .i64 bx, .int .i64 by', .int .i64 bz, .int .i64 fl, .int .i64 co], .agg #[.bool false, .int .i64 0]] w (SteppedStk (Agg.popS ⟨F, I, ⟨bx, by', bz⟩, fl, co⟩) w) := by
  obtain ⟨i0, hi, hz0, hz1, hz2⟩ := info_parts infoInt
  have hFl : F.length = fn := hF.1
  have hIl : I.length = m := hI.1
  have HF := Lib.hid hF
  have HI := Lib.hid hI
  have HOK := Lib.hid hok
  have HFL := Lib.hid hFl
  have HIL := Lib.hid hIl
  have hok0 := hok
  clear hF hI hok hFl hIl
  have hco : 0 ≤ co ∧ co ≤ 1000000 := by simp only [Agg.sOk, Bool.and_eq_true, decide_eq_true_eq] at hok0; omega
  obtain ⟨hco0, hco1⟩ := hco
  clear hok0
  obtain ⟨W, hW⟩ : ∃ W, W = ((w.alloc (.cells #[.slice fa fn fc, .slice ia m ic, .int .i64 bx, .int .i64 by', .int .i64 bz, .int .i64 fl, .int .i64 co] 59)).alloc (.cells #[.bool false, .int .i64 0] 29)).alloc (.cells #[.slice none 0 0, .slice none 0 0, .int .i64 0, .int .i64 0, .int .i64 0, .int .i64 0, .int .i64 0] 59) := ⟨_, rfl⟩
  have HA := Lib.hid (show Box7 W w.heap.size 59 (.slice fa fn fc) (.slice ia m ic) (.int .i64 bx) (.int .i64 by') (.int .i64 bz) (.int .i64 fl) (.int .i64 co) from by rw [hW]; exact ((Box7.new w _ _ _ _ _ _ _ _).alloc _).alloc _)
  have HP := Lib.hid (show Box2 W (w.heap.size + 1) 29 (.bool false) (.int .i64 0) from by rw [hW]; exact (Box2.new1 _ _ _ (by simp)).alloc _)
  have HR := Lib.hid (show Box7 W (w.heap.size + 1 + 1) 59 (.slice none 0 0) (.slice none 0 0) (.int .i64 0) (.int .i64 0) (.int .i64 0) (.int .i64 0) (.int .i64 0) from by rw [hW]; exact Box7.new1 _ _ _ _ _ _ _ _ (by simp))
  have HB := Lib.hid (show Below w.heap.size w W from by rw [hW]; exact (((Below.refl _ _).alloc (Nat.le_refl _) _).alloc (by simp) _).alloc (by simp; omega) _)
  have hsz1 := HR.out.lt
  go_enter Tryz.func72, Tryz.ntmps72
  go_wp2_with fail
  rw [← hW]
  clear hW
  refine (s_l3Copy_any fa fn fc ia m ic bx by' bz fl co F I _ (HF.out.below HB.out) (HI.out.below HB.out) (by have := (Agg.sOk_parts HOK.out).2.1; simp [Agg.S.size] at this; have := HFL.out; have := HIL.out; omega) (by have := (Agg.sOk_parts HOK.out).2.1; simp [Agg.S.size] at this; have := HFL.out; have := HIL.out; omega)).mono ?_
  rintro e w1 ⟨v, rfl, ⟨fv, iv, rfl, hOF, hOI⟩, hb1⟩
  have hs1 := hb1.size
  have HA1 := Lib.hid (HA.out.call hb1)
  have HP1 := Lib.hid (HP.out.call hb1)
  have HR1 := Lib.hid (HR.out.call hb1)
  have HB1 := Lib.hid (HB.out.trans (hb1.mono HB.out.size))
  obtain ⟨ga, gc, rfl, hgv⟩ := hOF.vals
  have HFC := Lib.hid (show F.length ≤ gc ∧ F.length ≤ 60 ∧ gc ≤ 9223372036854775807 from ⟨hgv.2.1, by have := (Agg.sOk_parts HOK.out).2.1; simp [Agg.S.size] at this; omega, by have := hgv.2.2.1; unfold maxLen at this; omega⟩)
  obtain ⟨ja, jc, rfl, -, -⟩ := hOI.nums
  simp only at *
  have HOF := Lib.hid hOF.1
  have HOI := Lib.hid hOI.1
  have HGF := Lib.hid hOF.2.2.2
  have HGI := Lib.hid hOI.2.2.2
  clear hb1 hOF hOI HA HP HR HB hgv
  obtain ⟨p0, p1⟩ := HP1.out.cells
  obtain ⟨q0, q1, q2, q3, q4, q5, q6⟩ := HA1.out.cells
  have hl1 := HR1.out.lt
  have hl0 : w.heap.size < w1.heap.size := by omega
  have hl2 : w.heap.size + 1 < w1.heap.size := by omega
  obtain ⟨W2, hW2⟩ : ∃ W2, W2 = w1.alloc (.cells #[.slice ga F.length gc, .slice ja I.length jc, .int .i64 bx, .int .i64 by', .int .i64 bz, .int .i64 fl, .int .i64 co] 59) := ⟨_, rfl⟩
  have HA2 := Lib.hid (show Box7 W2 w.heap.size 59 (.slice fa fn fc) (.slice ia m ic) (.int .i64 bx) (.int .i64 by') (.int .i64 bz) (.int .i64 fl) (.int .i64 co) from by rw [hW2]; exact HA1.out.alloc _)
  have HP2 := Lib.hid (show Box2 W2 (w.heap.size + 1) 29 (.bool false) (.int .i64 0) from by rw [hW2]; exact HP1.out.alloc _)
  have HR2 := Lib.hid (show Box7 W2 (w.heap.size + 1 + 1) 59 (.slice none 0 0) (.slice none 0 0) (.int .i64 0) (.int .i64 0) (.int .i64 0) (.int .i64 0) (.int .i64 0) from by rw [hW2]; exact HR1.out.alloc _)
  have HO2 := Lib.hid (show Box7 W2 w1.heap.size 59 (.slice ga F.length gc) (.slice ja I.length jc) (.int .i64 bx) (.int .i64 by') (.int .i64 bz) (.int .i64 fl) (.int .i64 co) from by rw [hW2]; exact Box7.new w1 _ _ _ _ _ _ _ _)
  have HB2 := Lib.hid (show Below w.heap.size w W2 from by rw [hW2]; exact HB1.out.alloc HB1.out.size _)
  have HF2 := Lib.hid (show W2.ownsRow W.heap.size 25 3 (.slice ga F.length gc) F.length (valRow F) from by rw [hW2]; exact HOF.out.alloc _)
  have HI2 := Lib.hid (show W2.ownsRow W.heap.size 3 1 (.slice ja I.length jc) I.length (I.map (Value.int .i64)) from by rw [hW2]; exact HOI.out.alloc _)
  have hs2 : W2.heap.size = w1.heap.size + 1 := by rw [hW2]; simp
  have hFn := HFL.out
  have hne3 : ¬ (F = []) := by intro e; rw [e] at hFn; simp at hFn; omega
  have hfc1 := HFC.out.1
  have hlast : (0 : Int) ≤ (F.length : Int) - 1 := by omega
  have hlt1 : (F.length : Int) - 1 ≤ (gc : Int) := by omega
  have htn : ((F.length : Int) - 1).toNat = F.length - 1 := by omega
  have hwr : IntKind.i64.wrap ((F.length : Int) - 1) = (F.length : Int) - 1 := IntWalk.i64_in _ (by have := HFC.out; omega)
  have HFn := Lib.hid hFn
  clear hFn hfc1
  go_upto_region 2 with (fail)
  rw [← hW2]
  clear hW2 p0 p1 q0 q1 q2 q3 q4 q5 q6
  have HST2 := Lib.hid (show StepSt w W.heap.size w1.heap.size (.slice fa fn fc) (.slice ia m ic) bx by' bz fl co false 0 (.slice ga F.length gc) (.slice ja I.length jc) F.length I.length (valRow F) (I.map (Value.int .i64)) ⟨bx, by', bz⟩ fl co W2 from ⟨HA2.out, HP2.out, HR2.out, HO2.out, HF2.out, HI2.out, HB2.out⟩)
  obtain ⟨p0, p1⟩ := HP2.out.cells
  obtain ⟨q0, q1, q2, q3, q4, q5, q6⟩ := HA2.out.cells
  obtain ⟨o0, o1, o2, o3, o4, o5, o6⟩ := HO2.out.cells
  have f0 := HO2.out.free 0
  have HW := Lib.hid hsz1
  have HC2 := Lib.hid (show W.heap.size ≤ w1.heap.size from hs1)
  obtain ⟨s0, s1, s2, s3, s4, s5, s6⟩ := HR2.out.cells
  have e0 := HR2.out.free 0
  have e1 := HR2.out.free 1
  have e2 := HR2.out.free 2
  have e3 := HR2.out.free 3
  have e4 := HR2.out.free 4
  have e5 := HR2.out.free 5
  have e6 := HR2.out.free 6
  have hd3 : w1.heap.size ≠ w.heap.size + 1 + 1 := by omega
  have hd2 : w.heap.size + 1 + 1 ≠ w1.heap.size := by omega
  clear HA2 HP2 HR2 HO2 HF2 HI2 HB2 hs2
  have hfn0 : ¬ (fn = 0) := by omega
  have hwr2 : IntKind.i64.wrap ((fn : Int) + (m : Int)) = (fn : Int) + (m : Int) := IntWalk.i64_in _ (by have := (Agg.sOk_parts HOK.out).2.1; have := HFL.out; have := HIL.out; simp [Agg.S.size] at *; omega)
  have hfn1 : ¬ ((fn : Int) = 0) := by omega
  have hne0 : ¬ ((fn : Int) + (m : Int) = 0) := by omega
  have hne1 : ¬ (fn + m = 0) := by omega
  have hne2 : ¬ ((F.length : Int) = 0) := by have := HFn.out; omega
  have HNF := Lib.hid (show ∀ g, (Value.slice ga F.length gc).ownBlock = some g → g ≠ w1.heap.size from fun g hg => by have := HGF.out g hg; omega)
  have HNI := Lib.hid (show ∀ g, (Value.slice ja I.length jc).ownBlock = some g → g ≠ w1.heap.size from fun g hg => by have := HGI.out g hg; omega)
  have HST9 := Lib.hid (HST2.out.shorter (k := F.length - 1) HW.out HC2.out HNF.out HNI.out (by omega) (by have := HFn.out; omega))
  go_wp2_with fail
  refine bodyPost_ret (by simp [results, Tryz.results72, go_sem, *]; try rfl) rfl ?_
  exact HST9.out.done (F' := F.take (F.length - 1)) HW.out (by rw [List.length_take]; omega) rfl (valRow_take F _) rfl _ _ _ _ _ _ _
end Go.Proofs.YtmlkdbmhekiniaaGreat

/-
  The model's change of stacks: an item goes behind a flip.
-/
namespace Go.Proofs.YtmlkdbmhekiniaaGreat
set_option linter.unusedSimpArgs false
set_option linter.unusedVariables false
open Go.RowKit
theorem own_box_ne {w : World} {base e size n on : Nat} {v : Value} {xs : List Value} {T : TypeId} {v0 v1 v2 v3 v4 v5 v6 : Value} (h : w.ownsRow base e size v n xs) (hb : Box7 w on T v0 v1 v2 v3 v4 v5 v6) (he : e ≠ T) : ∀ g, v.ownBlock = some g → g ≠ on := by
  intro g hg hgo
  subst hgo
  obtain ⟨cur, hc⟩ := row_block h hg
  unfold Box7 at hb
  rw [hb] at hc
  simp only [Option.some.injEq, Obj.cells.injEq] at hc
  exact he hc.2.1.symm
theorem own_cap {w : World} {base e size n c : Nat} {a : Option Addr} {xs : List Value} (h : w.ownsRow base e size (.slice a n c) n xs) (hn : 0 < n) : n ≤ c ∧ c ≤ 9223372036854775807 := by
  obtain ⟨g, c', e, -, -, h1, h2⟩ := b_own_some h hn
  simp only [Value.slice.injEq] at e
  omega
theorem Agg.sOk_bounds {k : Int} {s : Agg.S} (h : Agg.sOk k s = true) : 0 ≤ s.flips ∧ s.flips ≤ 1000000 ∧ 0 ≤ s.cost ∧ s.cost ≤ 1000000 := by
  simp only [Agg.sOk, Bool.and_eq_true, decide_eq_true_eq] at h
  omega
theorem Agg.sOk_items' {k : Int} {s : Agg.S} (h : Agg.sOk k s = true) : Agg.itemsOk s.items = true := by
  simp only [Agg.sOk, Bool.and_eq_true, decide_eq_true_eq] at h
  exact h.1.2
set_option maxRecDepth 8000 in
set_option maxHeartbeats 2000000 in
theorem s_l3Step_flip (k : Int) (fa : Option Addr) (fn fc : Nat) (ia : Option Addr) (m ic : Nat) (bx by' bz fl co : Int) (F : List Agg.V) (I : List Int) (w : World) (hF : Vals w fa fn fc F) (hI : Nums .i64 w ia m ic I) (hok : Agg.sOk k ⟨F, I, ⟨bx, by', bz⟩, fl, co⟩ = true) (hn0 : fn = 0) (hm0 : 0 < m) :
    Calls Tryz.prog 72 #[.int .i64 k, .agg #[.slice fa fn fc, .slice ia m ic, .int .i64 bx, .int .i64 by', .int .i64 bz, .int .i64 fl, .int .i64 co], .agg #[.bool false, .int .i64 0]] w (SteppedStk (Agg.popS (Agg.flipS k ⟨F, I, ⟨bx, by', bz⟩, fl, co⟩)) w) := by
  obtain ⟨i0, hi, hz0, hz1, hz2⟩ := info_parts infoInt
  subst hn0
  obtain rfl : F = [] := List.eq_nil_of_length_eq_zero hF.1
  have hFl : ([] : List Agg.V).length = 0 := rfl
  have hIl : I.length = m := hI.1
  have HF := Lib.hid hF
  have HI := Lib.hid hI
  have HOK := Lib.hid hok
  have HFL := Lib.hid hFl
  have HIL := Lib.hid hIl
  have hok0 := hok
  clear hF hI hok hFl hIl
  have hco : 0 ≤ co ∧ co ≤ 1000000 := by simp only [Agg.sOk, Bool.and_eq_true, decide_eq_true_eq] at hok0; omega
  obtain ⟨hco0, hco1⟩ := hco
  clear hok0
  obtain ⟨W, hW⟩ : ∃ W, W = ((w.alloc (.cells #[.slice fa 0 fc, .slice ia m ic, .int .i64 bx, .int .i64 by', .int .i64 bz, .int .i64 fl, .int .i64 co] 59)).alloc (.cells #[.bool false, .int .i64 0] 29)).alloc (.cells #[.slice none 0 0, .slice none 0 0, .int .i64 0, .int .i64 0, .int .i64 0, .int .i64 0, .int .i64 0] 59) := ⟨_, rfl⟩
  have HA := Lib.hid (show Box7 W w.heap.size 59 (.slice fa 0 fc) (.slice ia m ic) (.int .i64 bx) (.int .i64 by') (.int .i64 bz) (.int .i64 fl) (.int .i64 co) from by rw [hW]; exact ((Box7.new w _ _ _ _ _ _ _ _).alloc _).alloc _)
  have HP := Lib.hid (show Box2 W (w.heap.size + 1) 29 (.bool false) (.int .i64 0) from by rw [hW]; exact (Box2.new1 _ _ _ (by simp)).alloc _)
  have HR := Lib.hid (show Box7 W (w.heap.size + 1 + 1) 59 (.slice none 0 0) (.slice none 0 0) (.int .i64 0) (.int .i64 0) (.int .i64 0) (.int .i64 0) (.int .i64 0) from by rw [hW]; exact Box7.new1 _ _ _ _ _ _ _ _ (by simp))
  have HB := Lib.hid (show Below w.heap.size w W from by rw [hW]; exact (((Below.refl _ _).alloc (Nat.le_refl _) _).alloc (by simp) _).alloc (by simp; omega) _)
  have hsz1 := HR.out.lt
  go_enter Tryz.func72, Tryz.ntmps72
  go_wp2_with fail
  rw [← hW]
  clear hW
  refine (s_l3Copy_any fa 0 fc ia m ic bx by' bz fl co [] I _ (HF.out.below HB.out) (HI.out.below HB.out) (by omega) (by have := (Agg.sOk_parts HOK.out).2.1; simp [Agg.S.size] at this; have := HIL.out; omega)).mono ?_
  rintro e w1 ⟨v, rfl, ⟨fv, iv, rfl, hOF, hOI⟩, hb1⟩
  have hs1 := hb1.size
  have HA1 := Lib.hid (HA.out.call hb1)
  have HP1 := Lib.hid (HP.out.call hb1)
  have HR1 := Lib.hid (HR.out.call hb1)
  have HB1 := Lib.hid (HB.out.trans (hb1.mono HB.out.size))
  obtain ⟨ga, gc, rfl, hgv⟩ := hOF.vals
  obtain ⟨ja, jc, rfl, -, -⟩ := hOI.nums
  simp only at *
  have HOF := Lib.hid hOF.1
  have HOI := Lib.hid hOI.1
  have HGF := Lib.hid hOF.2.2.2
  have HGI := Lib.hid hOI.2.2.2
  clear hb1 hOF hOI HA HP HR HB hgv
  obtain ⟨p0, p1⟩ := HP1.out.cells
  obtain ⟨q0, q1, q2, q3, q4, q5, q6⟩ := HA1.out.cells
  have hl1 := HR1.out.lt
  have hl0 : w.heap.size < w1.heap.size := by omega
  have hl2 : w.heap.size + 1 < w1.heap.size := by omega
  obtain ⟨W2, hW2⟩ : ∃ W2, W2 = w1.alloc (.cells #[.slice ga 0 gc, .slice ja I.length jc, .int .i64 bx, .int .i64 by', .int .i64 bz, .int .i64 fl, .int .i64 co] 59) := ⟨_, rfl⟩
  have HA2 := Lib.hid (show Box7 W2 w.heap.size 59 (.slice fa 0 fc) (.slice ia m ic) (.int .i64 bx) (.int .i64 by') (.int .i64 bz) (.int .i64 fl) (.int .i64 co) from by rw [hW2]; exact HA1.out.alloc _)
  have HP2 := Lib.hid (show Box2 W2 (w.heap.size + 1) 29 (.bool false) (.int .i64 0) from by rw [hW2]; exact HP1.out.alloc _)
  have HR2 := Lib.hid (show Box7 W2 (w.heap.size + 1 + 1) 59 (.slice none 0 0) (.slice none 0 0) (.int .i64 0) (.int .i64 0) (.int .i64 0) (.int .i64 0) (.int .i64 0) from by rw [hW2]; exact HR1.out.alloc _)
  have HO2 := Lib.hid (show Box7 W2 w1.heap.size 59 (.slice ga 0 gc) (.slice ja I.length jc) (.int .i64 bx) (.int .i64 by') (.int .i64 bz) (.int .i64 fl) (.int .i64 co) from by rw [hW2]; exact Box7.new w1 _ _ _ _ _ _ _ _)
  have HB2 := Lib.hid (show Below w.heap.size w W2 from by rw [hW2]; exact HB1.out.alloc HB1.out.size _)
  have HF2 := Lib.hid (show W2.ownsRow W.heap.size 25 3 (.slice ga 0 gc) 0 (valRow []) from by rw [hW2]; exact HOF.out.alloc _)
  have HI2 := Lib.hid (show W2.ownsRow W.heap.size 3 1 (.slice ja I.length jc) I.length (I.map (Value.int .i64)) from by rw [hW2]; exact HOI.out.alloc _)
  have hs2 : W2.heap.size = w1.heap.size + 1 := by rw [hW2]; simp
  have HS2 := Lib.hid hs2
  clear hs2
  have HC2 := Lib.hid (show W.heap.size ≤ w1.heap.size from hs1)
  have hbW : W.heap.size ≤ W2.heap.size := by have := HS2.out; have := HC2.out; omega
  have hbW' := Lib.hid hbW
  clear hbW
  have HSB := Lib.hid (Agg.sOk_bounds HOK.out)
  have HFLI := Lib.hid (fun w hrow hI hb => s_l3Flip_any k (Agg.sOk_parts HOK.out).1 W.heap.size ga gc ja I.length jc bx by' bz fl co I w hrow hI (Agg.sOk_items' HOK.out) hb HSB.out.1 HSB.out.2.1 HSB.out.2.2.1 HSB.out.2.2.2)
  have hm1 : ¬ (m = 0) := by omega
  have hm2 : ¬ ((m : Int) = 0) := by omega
  have HM0 := Lib.hid hm0
  have hm60 : m ≤ 60 := by have := (Agg.sOk_parts HOK.out).2.1; have := HIL.out; simp [Agg.S.size] at *; omega
  have hwr2 : IntKind.i64.wrap ((m : Int)) = (m : Int) := IntWalk.i64_in _ (by omega)
  go_upto_region 2 with (fail)
  rw [← hW2]
  clear hW2 p0 p1 q0 q1 q2 q3 q4 q5 q6
  obtain ⟨p0, p1⟩ := HP2.out.cells
  obtain ⟨q0, q1, q2, q3, q4, q5, q6⟩ := HA2.out.cells
  obtain ⟨o0, o1, o2, o3, o4, o5, o6⟩ := HO2.out.cells
  go_wp2_with fail
  refine (HFLI.out _ HF2.out HI2.out hbW'.out).mono ?_
  rintro e w3 ⟨xa, ya, xc, yc, rfl, hxo, hyo, hb3, hg3⟩
  have HW := Lib.hid hsz1
  have hw1 := HW.out
  have hc2 := HC2.out
  have HA3 := Lib.hid (HA2.out.below hb3 (by omega))
  have HP3 := Lib.hid (show Box2 w3 (w.heap.size + 1) 29 (.bool false) (.int .i64 0) from (hb3.block _ (by omega)).trans HP2.out)
  have HR3 := Lib.hid (HR2.out.below hb3 (by omega))
  have HO3 := Lib.hid (HO2.out.grown hg3 (fun e => by have := HGF.out _ e; omega))
  have HB3 := Lib.hid (HB2.out.trans (hb3.mono (by omega)))
  have HX3 := Lib.hid hxo
  have HY3 := Lib.hid hyo
  clear hb3 hg3 hxo hyo p0 p1 q0 q1 q2 q3 q4 q5 q6 o0 o1 o2 o3 o4 o5 o6 HA2 HP2 HR2 HO2 HB2 HF2 HI2
  have hxn := own_box_ne HX3.out HO3.out (by decide)
  have hyn := own_box_ne HY3.out HO3.out (by decide)
  have HXN := Lib.hid hxn
  have HYN := Lib.hid hyn
  clear hxn hyn
  have hlon := HO3.out.lt
  obtain ⟨o0, o1, o2, o3, o4, o5, o6⟩ := HO3.out.cells
  have of := HO3.out.free
  obtain ⟨⟨ux, uy, uz⟩, hU⟩ : ∃ U, U = Agg.unit k := ⟨_, rfl⟩
  rw [← hU]
  have HU := Lib.hid hU
  clear hU
  go_upto_region 13 with (fail)
  obtain ⟨W4, hW4⟩ : ∃ W4, W4 = ((((((w3.setCell ⟨w1.heap.size, 0, none⟩ (.slice xa I.length xc)).setCell ⟨w1.heap.size, 1, none⟩ (.slice ya 0 yc)).setCell ⟨w1.heap.size, 2, none⟩ (.int .i64 ux)).setCell ⟨w1.heap.size, 3, none⟩ (.int .i64 uy)).setCell ⟨w1.heap.size, 4, none⟩ (.int .i64 uz)).setCell ⟨w1.heap.size, 5, none⟩ (.int .i64 (fl + 1))).setCell ⟨w1.heap.size, 6, none⟩ (.int .i64 (co + I.length)) := ⟨_, rfl⟩
  have HST4 := Lib.hid (show StepSt w W.heap.size w1.heap.size (.slice fa 0 fc) (.slice ia m ic) bx by' bz fl co false 0 (.slice xa I.length xc) (.slice ya 0 yc) I.length 0 (valRow (Agg.sufs k I I.length)) [] ⟨ux, uy, uz⟩ (fl + 1) (co + I.length) W4 from by
    rw [hW4]
    exact ⟨((((((HA3.out.other (by omega) _ _).other (by omega) _ _).other (by omega) _ _).other (by omega) _ _).other (by omega) _ _).other (by omega) _ _).other (by omega) _ _, ((((((HP3.out.other (by omega) _ _).other (by omega) _ _).other (by omega) _ _).other (by omega) _ _).other (by omega) _ _).other (by omega) _ _).other (by omega) _ _, ((((((HR3.out.other (by omega) _ _).other (by omega) _ _).other (by omega) _ _).other (by omega) _ _).other (by omega) _ _).other (by omega) _ _).other (by omega) _ _,
      ((((((HO3.out.set0 _).set1 _).set2 _).set3 _).set4 _).set5 _).set6 _,
      own_set_ne (own_set_ne (own_set_ne (own_set_ne (own_set_ne (own_set_ne (own_set_ne HX3.out HXN.out) HXN.out) HXN.out) HXN.out) HXN.out) HXN.out) HXN.out,
      own_set_ne (own_set_ne (own_set_ne (own_set_ne (own_set_ne (own_set_ne (own_set_ne HY3.out HYN.out) HYN.out) HYN.out) HYN.out) HYN.out) HYN.out) HYN.out,
      ((((((HB3.out.setCell (show w.heap.size ≤ w1.heap.size by omega) _).setCell (show w.heap.size ≤ w1.heap.size by omega) _).setCell (show w.heap.size ≤ w1.heap.size by omega) _).setCell (show w.heap.size ≤ w1.heap.size by omega) _).setCell (show w.heap.size ≤ w1.heap.size by omega) _).setCell (show w.heap.size ≤ w1.heap.size by omega) _).setCell (show w.heap.size ≤ w1.heap.size by omega) _⟩)
  rw [← hW4]
  clear hW4 HA3 HP3 HR3 HO3 HB3 HX3 HY3 o0 o1 o2 o3 o4 o5 o6 of
  have hin : 0 < I.length := by have := HIL.out; have := HM0.out; omega
  have HIN := Lib.hid hin
  obtain ⟨xcap1, xcap2⟩ := own_cap HST4.out.f hin
  have hi60 : I.length ≤ 60 := by have := HIL.out; omega
  have hlast : (0 : Int) ≤ (I.length : Int) - 1 := by omega
  have hlt1 : (I.length : Int) - 1 ≤ (xc : Int) := by omega
  have htn : ((I.length : Int) - 1).toNat = I.length - 1 := by omega
  have hwr : IntKind.i64.wrap ((I.length : Int) - 1) = (I.length : Int) - 1 := IntWalk.i64_in _ (by omega)
  have HST9 := Lib.hid (HST4.out.shorter (k := I.length - 1) HW.out HC2.out HXN.out HYN.out (by omega) hin)
  obtain ⟨o0, o1, o2, o3, o4, o5, o6⟩ := HST4.out.o.cells
  obtain ⟨s0, s1, s2, s3, s4, s5, s6⟩ := HST4.out.r.cells
  have f0 := HST4.out.o.free 0
  have e0 := HST4.out.r.free 0
  have e1 := HST4.out.r.free 1
  have e2 := HST4.out.r.free 2
  have e3 := HST4.out.r.free 3
  have e4 := HST4.out.r.free 4
  have e5 := HST4.out.r.free 5
  have e6 := HST4.out.r.free 6
  have hd3 : w1.heap.size ≠ w.heap.size + 1 + 1 := by omega
  have hd2 : w.heap.size + 1 + 1 ≠ w1.heap.size := by omega
  have HDS := Lib.hid (show Agg.popS (Agg.flipS k ⟨[], I, ⟨bx, by', bz⟩, fl, co⟩) = ⟨(Agg.sufs k I I.length).take (I.length - 1), [], ⟨ux, uy, uz⟩, fl + 1, co + I.length⟩ from by simp [Agg.popS, Agg.flipS, Agg.sufs_length, HU.out])
  clear hin hm1 hm2 hm60 hwr2 xcap1 xcap2 hi60
  go_wp2_with fail
  refine bodyPost_ret (by simp [results, Tryz.results72, go_sem, *]; try rfl) rfl ?_
  rw [HDS.out]
  exact HST9.out.done (F' := (Agg.sufs k I I.length).take (I.length - 1)) HW.out (by rw [List.length_take, Agg.sufs_length]; omega) rfl (valRow_take _ _) rfl _ _ _ _ _ _ _
end Go.Proofs.YtmlkdbmhekiniaaGreat

/-
  The model's change of stacks, whole: where it is refused; StacksStep in the model.
-/
namespace Go.Proofs.YtmlkdbmhekiniaaGreat
set_option linter.unusedSimpArgs false
set_option linter.unusedVariables false
open Go.RowKit
/-- A change is refused: the stacks themselves. -/
def RefusedStk (v : Value) (w : World) (e : Ending) (w' : World) : Prop := e = .returned (.tuple #[v, .bool false]) ∧ Below w.heap.size w w'
set_option maxRecDepth 8000 in
set_option maxHeartbeats 2000000 in
theorem s_l3Step_item (k : Int) (fa : Option Addr) (fn fc : Nat) (ia : Option Addr) (m ic : Nat) (bx by' bz fl co : Int) (F : List Agg.V) (I : List Int) (x : Int) (w : World) (hF : Vals w fa fn fc F) (hI : Nums .i64 w ia m ic I) (hok : Agg.sOk k ⟨F, I, ⟨bx, by', bz⟩, fl, co⟩ = true) (hx : Agg.isItem x = false) :
    Calls Tryz.prog 72 #[.int .i64 k, .agg #[.slice fa fn fc, .slice ia m ic, .int .i64 bx, .int .i64 by', .int .i64 bz, .int .i64 fl, .int .i64 co], .agg #[.bool true, .int .i64 x]] w (RefusedStk (.agg #[.slice fa fn fc, .slice ia m ic, .int .i64 bx, .int .i64 by', .int .i64 bz, .int .i64 fl, .int .i64 co]) w) := by
  have hFl : F.length = fn := hF.1
  have hIl : I.length = m := hI.1
  have HF := Lib.hid hF
  have HI := Lib.hid hI
  have hsz60 : fn + m ≤ 60 := by have := (Agg.sOk_parts hok).2.1; simp [Agg.S.size] at this; omega
  have hco : co ≤ 1000000 := (Agg.sOk_bounds hok).2.2.2
  have HXH := Lib.hid hx
  clear hF hI hok hFl hIl hco hx
  obtain ⟨W, hW⟩ : ∃ W, W = ((w.alloc (.cells #[.slice fa fn fc, .slice ia m ic, .int .i64 bx, .int .i64 by', .int .i64 bz, .int .i64 fl, .int .i64 co] 59)).alloc (.cells #[.bool true, .int .i64 x] 29)).alloc (.cells #[.slice none 0 0, .slice none 0 0, .int .i64 0, .int .i64 0, .int .i64 0, .int .i64 0, .int .i64 0] 59) := ⟨_, rfl⟩
  have HA := Lib.hid (show Box7 W w.heap.size 59 (.slice fa fn fc) (.slice ia m ic) (.int .i64 bx) (.int .i64 by') (.int .i64 bz) (.int .i64 fl) (.int .i64 co) from by rw [hW]; exact ((Box7.new w _ _ _ _ _ _ _ _).alloc _).alloc _)
  have HP := Lib.hid (show Box2 W (w.heap.size + 1) 29 (.bool true) (.int .i64 x) from by rw [hW]; exact (Box2.new1 _ _ _ (by simp)).alloc _)
  have HR := Lib.hid (show Box7 W (w.heap.size + 1 + 1) 59 (.slice none 0 0) (.slice none 0 0) (.int .i64 0) (.int .i64 0) (.int .i64 0) (.int .i64 0) (.int .i64 0) from by rw [hW]; exact Box7.new1 _ _ _ _ _ _ _ _ (by simp))
  have HB := Lib.hid (show Below w.heap.size w W from by rw [hW]; exact (((Below.refl _ _).alloc (Nat.le_refl _) _).alloc (by simp) _).alloc (by simp; omega) _)
  go_enter Tryz.func72, Tryz.ntmps72
  go_wp2_with fail
  rw [← hW]
  clear hW
  refine (s_l3Copy_any fa fn fc ia m ic bx by' bz fl co F I _ (HF.out.below HB.out) (HI.out.below HB.out) (by omega) (by omega)).mono ?_
  rintro e w1 ⟨v, rfl, hown, hb1⟩
  obtain ⟨ga, gc, ja, jc, rfl, -, -⟩ := hown.read
  simp only at *
  have HA1 := Lib.hid (HA.out.call hb1)
  have HP1 := Lib.hid (HP.out.call hb1)
  have HR1 := Lib.hid (HR.out.call hb1)
  have HB1 := Lib.hid (HB.out.trans (hb1.mono HB.out.size))
  clear hb1 hown HA HP HR HB
  obtain ⟨W2, hW2⟩ : ∃ W2, W2 = w1.alloc (.cells #[.slice ga F.length gc, .slice ja I.length jc, .int .i64 bx, .int .i64 by', .int .i64 bz, .int .i64 fl, .int .i64 co] 59) := ⟨_, rfl⟩
  have HA2 := Lib.hid (show Box7 W2 w.heap.size 59 (.slice fa fn fc) (.slice ia m ic) (.int .i64 bx) (.int .i64 by') (.int .i64 bz) (.int .i64 fl) (.int .i64 co) from by rw [hW2]; exact HA1.out.alloc _)
  have HP2 := Lib.hid (show Box2 W2 (w.heap.size + 1) 29 (.bool true) (.int .i64 x) from by rw [hW2]; exact HP1.out.alloc _)
  have HR2 := Lib.hid (show Box7 W2 (w.heap.size + 1 + 1) 59 (.slice none 0 0) (.slice none 0 0) (.int .i64 0) (.int .i64 0) (.int .i64 0) (.int .i64 0) (.int .i64 0) from by rw [hW2]; exact HR1.out.alloc _)
  have HB2 := Lib.hid (show Below w.heap.size w W2 from by rw [hW2]; exact HB1.out.alloc HB1.out.size _)
  obtain ⟨p0, p1⟩ := HP1.out.cells
  have hl1 := HR1.out.lt
  have hl2 : w.heap.size + 1 < w1.heap.size := by omega
  go_upto_region 2 with (fail)
  rw [← hW2]
  clear hW2 HA1 HP1 HR1 HB1 p0 p1 hl1 hl2
  obtain ⟨p0, p1⟩ := HP2.out.cells
  obtain ⟨q0, q1, q2, q3, q4, q5, q6⟩ := HA2.out.cells
  obtain ⟨s0, s1, s2, s3, s4, s5, s6⟩ := HR2.out.cells
  have e0 := HR2.out.free
  have hwr2 : IntKind.i64.wrap ((fn : Int) + (m : Int)) = (fn : Int) + (m : Int) := IntWalk.i64_in _ (by omega)
  have hx := HXH.out
  (try have hszI : (60 : Int) ≤ (fn : Int) + (m : Int) := by omega)
  (try have hszZ : (fn : Int) + (m : Int) = 0 := by omega)
  go_wp2_with fail
  (try (refine (s_in_item _ _).mono ?_; rintro e wk ⟨rfl, rfl⟩; rw [hx]; go_wp2_with fail))
  refine bodyPost_ret (by simp [results, Tryz.results72, go_sem, *]; try rfl) rfl ?_
  exact ⟨rfl, ((((((HB2.out.setCell (by simp <;> omega) _).setCell (by simp <;> omega) _).setCell (by simp <;> omega) _).setCell (by simp <;> omega) _).setCell (by simp <;> omega) _).setCell (by simp <;> omega) _).setCell (by simp <;> omega) _⟩
set_option maxRecDepth 8000 in
set_option maxHeartbeats 2000000 in
theorem s_l3Step_full (k : Int) (fa : Option Addr) (fn fc : Nat) (ia : Option Addr) (m ic : Nat) (bx by' bz fl co : Int) (F : List Agg.V) (I : List Int) (x : Int) (w : World) (hF : Vals w fa fn fc F) (hI : Nums .i64 w ia m ic I) (hok : Agg.sOk k ⟨F, I, ⟨bx, by', bz⟩, fl, co⟩ = true) (hx : Agg.isItem x = true) (hsz : 60 ≤ fn + m) :
    Calls Tryz.prog 72 #[.int .i64 k, .agg #[.slice fa fn fc, .slice ia m ic, .int .i64 bx, .int .i64 by', .int .i64 bz, .int .i64 fl, .int .i64 co], .agg #[.bool true, .int .i64 x]] w (RefusedStk (.agg #[.slice fa fn fc, .slice ia m ic, .int .i64 bx, .int .i64 by', .int .i64 bz, .int .i64 fl, .int .i64 co]) w) := by
  have hFl : F.length = fn := hF.1
  have hIl : I.length = m := hI.1
  have HF := Lib.hid hF
  have HI := Lib.hid hI
  have hsz60 : fn + m ≤ 60 := by have := (Agg.sOk_parts hok).2.1; simp [Agg.S.size] at this; omega
  have hco : co ≤ 1000000 := (Agg.sOk_bounds hok).2.2.2
  have HXH := Lib.hid hx
  clear hF hI hok hFl hIl hco hx
  obtain ⟨W, hW⟩ : ∃ W, W = ((w.alloc (.cells #[.slice fa fn fc, .slice ia m ic, .int .i64 bx, .int .i64 by', .int .i64 bz, .int .i64 fl, .int .i64 co] 59)).alloc (.cells #[.bool true, .int .i64 x] 29)).alloc (.cells #[.slice none 0 0, .slice none 0 0, .int .i64 0, .int .i64 0, .int .i64 0, .int .i64 0, .int .i64 0] 59) := ⟨_, rfl⟩
  have HA := Lib.hid (show Box7 W w.heap.size 59 (.slice fa fn fc) (.slice ia m ic) (.int .i64 bx) (.int .i64 by') (.int .i64 bz) (.int .i64 fl) (.int .i64 co) from by rw [hW]; exact ((Box7.new w _ _ _ _ _ _ _ _).alloc _).alloc _)
  have HP := Lib.hid (show Box2 W (w.heap.size + 1) 29 (.bool true) (.int .i64 x) from by rw [hW]; exact (Box2.new1 _ _ _ (by simp)).alloc _)
  have HR := Lib.hid (show Box7 W (w.heap.size + 1 + 1) 59 (.slice none 0 0) (.slice none 0 0) (.int .i64 0) (.int .i64 0) (.int .i64 0) (.int .i64 0) (.int .i64 0) from by rw [hW]; exact Box7.new1 _ _ _ _ _ _ _ _ (by simp))
  have HB := Lib.hid (show Below w.heap.size w W from by rw [hW]; exact (((Below.refl _ _).alloc (Nat.le_refl _) _).alloc (by simp) _).alloc (by simp; omega) _)
  go_enter Tryz.func72, Tryz.ntmps72
  go_wp2_with fail
  rw [← hW]
  clear hW
  refine (s_l3Copy_any fa fn fc ia m ic bx by' bz fl co F I _ (HF.out.below HB.out) (HI.out.below HB.out) (by omega) (by omega)).mono ?_
  rintro e w1 ⟨v, rfl, hown, hb1⟩
  obtain ⟨ga, gc, ja, jc, rfl, -, -⟩ := hown.read
  simp only at *
  have HA1 := Lib.hid (HA.out.call hb1)
  have HP1 := Lib.hid (HP.out.call hb1)
  have HR1 := Lib.hid (HR.out.call hb1)
  have HB1 := Lib.hid (HB.out.trans (hb1.mono HB.out.size))
  clear hb1 hown HA HP HR HB
  obtain ⟨W2, hW2⟩ : ∃ W2, W2 = w1.alloc (.cells #[.slice ga F.length gc, .slice ja I.length jc, .int .i64 bx, .int .i64 by', .int .i64 bz, .int .i64 fl, .int .i64 co] 59) := ⟨_, rfl⟩
  have HA2 := Lib.hid (show Box7 W2 w.heap.size 59 (.slice fa fn fc) (.slice ia m ic) (.int .i64 bx) (.int .i64 by') (.int .i64 bz) (.int .i64 fl) (.int .i64 co) from by rw [hW2]; exact HA1.out.alloc _)
  have HP2 := Lib.hid (show Box2 W2 (w.heap.size + 1) 29 (.bool true) (.int .i64 x) from by rw [hW2]; exact HP1.out.alloc _)
  have HR2 := Lib.hid (show Box7 W2 (w.heap.size + 1 + 1) 59 (.slice none 0 0) (.slice none 0 0) (.int .i64 0) (.int .i64 0) (.int .i64 0) (.int .i64 0) (.int .i64 0) from by rw [hW2]; exact HR1.out.alloc _)
  have HB2 := Lib.hid (show Below w.heap.size w W2 from by rw [hW2]; exact HB1.out.alloc HB1.out.size _)
  obtain ⟨p0, p1⟩ := HP1.out.cells
  have hl1 := HR1.out.lt
  have hl2 : w.heap.size + 1 < w1.heap.size := by omega
  go_upto_region 2 with (fail)
  rw [← hW2]
  clear hW2 HA1 HP1 HR1 HB1 p0 p1 hl1 hl2
  obtain ⟨p0, p1⟩ := HP2.out.cells
  obtain ⟨q0, q1, q2, q3, q4, q5, q6⟩ := HA2.out.cells
  obtain ⟨s0, s1, s2, s3, s4, s5, s6⟩ := HR2.out.cells
  have e0 := HR2.out.free
  have hwr2 : IntKind.i64.wrap ((fn : Int) + (m : Int)) = (fn : Int) + (m : Int) := IntWalk.i64_in _ (by omega)
  have hx := HXH.out
  (try have hszI : (60 : Int) ≤ (fn : Int) + (m : Int) := by omega)
  (try have hszZ : (fn : Int) + (m : Int) = 0 := by omega)
  go_wp2_with fail
  (try (refine (s_in_item _ _).mono ?_; rintro e wk ⟨rfl, rfl⟩; rw [hx]; go_wp2_with fail))
  refine bodyPost_ret (by simp [results, Tryz.results72, go_sem, *]; try rfl) rfl ?_
  exact ⟨rfl, ((((((HB2.out.setCell (by simp <;> omega) _).setCell (by simp <;> omega) _).setCell (by simp <;> omega) _).setCell (by simp <;> omega) _).setCell (by simp <;> omega) _).setCell (by simp <;> omega) _).setCell (by simp <;> omega) _⟩
set_option maxRecDepth 8000 in
set_option maxHeartbeats 2000000 in
theorem s_l3Step_some (k : Int) (fa : Option Addr) (fn fc : Nat) (ia : Option Addr) (m ic : Nat) (bx by' bz fl co : Int) (F : List Agg.V) (I : List Int) (x : Int) (w : World) (hF : Vals w fa fn fc F) (hI : Nums .i64 w ia m ic I) (hok : Agg.sOk k ⟨F, I, ⟨bx, by', bz⟩, fl, co⟩ = true) (hx : ¬ x = 0) :
    Calls Tryz.prog 72 #[.int .i64 k, .agg #[.slice fa fn fc, .slice ia m ic, .int .i64 bx, .int .i64 by', .int .i64 bz, .int .i64 fl, .int .i64 co], .agg #[.bool false, .int .i64 x]] w (RefusedStk (.agg #[.slice fa fn fc, .slice ia m ic, .int .i64 bx, .int .i64 by', .int .i64 bz, .int .i64 fl, .int .i64 co]) w) := by
  have hFl : F.length = fn := hF.1
  have hIl : I.length = m := hI.1
  have HF := Lib.hid hF
  have HI := Lib.hid hI
  have hsz60 : fn + m ≤ 60 := by have := (Agg.sOk_parts hok).2.1; simp [Agg.S.size] at this; omega
  have hco : co ≤ 1000000 := (Agg.sOk_bounds hok).2.2.2
  have HXH := Lib.hid hx
  clear hF hI hok hFl hIl hco hx
  obtain ⟨W, hW⟩ : ∃ W, W = ((w.alloc (.cells #[.slice fa fn fc, .slice ia m ic, .int .i64 bx, .int .i64 by', .int .i64 bz, .int .i64 fl, .int .i64 co] 59)).alloc (.cells #[.bool false, .int .i64 x] 29)).alloc (.cells #[.slice none 0 0, .slice none 0 0, .int .i64 0, .int .i64 0, .int .i64 0, .int .i64 0, .int .i64 0] 59) := ⟨_, rfl⟩
  have HA := Lib.hid (show Box7 W w.heap.size 59 (.slice fa fn fc) (.slice ia m ic) (.int .i64 bx) (.int .i64 by') (.int .i64 bz) (.int .i64 fl) (.int .i64 co) from by rw [hW]; exact ((Box7.new w _ _ _ _ _ _ _ _).alloc _).alloc _)
  have HP := Lib.hid (show Box2 W (w.heap.size + 1) 29 (.bool false) (.int .i64 x) from by rw [hW]; exact (Box2.new1 _ _ _ (by simp)).alloc _)
  have HR := Lib.hid (show Box7 W (w.heap.size + 1 + 1) 59 (.slice none 0 0) (.slice none 0 0) (.int .i64 0) (.int .i64 0) (.int .i64 0) (.int .i64 0) (.int .i64 0) from by rw [hW]; exact Box7.new1 _ _ _ _ _ _ _ _ (by simp))
  have HB := Lib.hid (show Below w.heap.size w W from by rw [hW]; exact (((Below.refl _ _).alloc (Nat.le_refl _) _).alloc (by simp) _).alloc (by simp; omega) _)
  go_enter Tryz.func72, Tryz.ntmps72
  go_wp2_with fail
  rw [← hW]
  clear hW
  refine (s_l3Copy_any fa fn fc ia m ic bx by' bz fl co F I _ (HF.out.below HB.out) (HI.out.below HB.out) (by omega) (by omega)).mono ?_
  rintro e w1 ⟨v, rfl, hown, hb1⟩
  obtain ⟨ga, gc, ja, jc, rfl, -, -⟩ := hown.read
  simp only at *
  have HA1 := Lib.hid (HA.out.call hb1)
  have HP1 := Lib.hid (HP.out.call hb1)
  have HR1 := Lib.hid (HR.out.call hb1)
  have HB1 := Lib.hid (HB.out.trans (hb1.mono HB.out.size))
  clear hb1 hown HA HP HR HB
  obtain ⟨W2, hW2⟩ : ∃ W2, W2 = w1.alloc (.cells #[.slice ga F.length gc, .slice ja I.length jc, .int .i64 bx, .int .i64 by', .int .i64 bz, .int .i64 fl, .int .i64 co] 59) := ⟨_, rfl⟩
  have HA2 := Lib.hid (show Box7 W2 w.heap.size 59 (.slice fa fn fc) (.slice ia m ic) (.int .i64 bx) (.int .i64 by') (.int .i64 bz) (.int .i64 fl) (.int .i64 co) from by rw [hW2]; exact HA1.out.alloc _)
  have HP2 := Lib.hid (show Box2 W2 (w.heap.size + 1) 29 (.bool false) (.int .i64 x) from by rw [hW2]; exact HP1.out.alloc _)
  have HR2 := Lib.hid (show Box7 W2 (w.heap.size + 1 + 1) 59 (.slice none 0 0) (.slice none 0 0) (.int .i64 0) (.int .i64 0) (.int .i64 0) (.int .i64 0) (.int .i64 0) from by rw [hW2]; exact HR1.out.alloc _)
  have HB2 := Lib.hid (show Below w.heap.size w W2 from by rw [hW2]; exact HB1.out.alloc HB1.out.size _)
  obtain ⟨p0, p1⟩ := HP1.out.cells
  have hl1 := HR1.out.lt
  have hl2 : w.heap.size + 1 < w1.heap.size := by omega
  go_upto_region 2 with (fail)
  rw [← hW2]
  clear hW2 HA1 HP1 HR1 HB1 p0 p1 hl1 hl2
  obtain ⟨p0, p1⟩ := HP2.out.cells
  obtain ⟨q0, q1, q2, q3, q4, q5, q6⟩ := HA2.out.cells
  obtain ⟨s0, s1, s2, s3, s4, s5, s6⟩ := HR2.out.cells
  have e0 := HR2.out.free
  have hwr2 : IntKind.i64.wrap ((fn : Int) + (m : Int)) = (fn : Int) + (m : Int) := IntWalk.i64_in _ (by omega)
  have hx := HXH.out
  (try have hszI : (60 : Int) ≤ (fn : Int) + (m : Int) := by omega)
  (try have hszZ : (fn : Int) + (m : Int) = 0 := by omega)
  go_wp2_with fail
  (try (refine (s_in_item _ _).mono ?_; rintro e wk ⟨rfl, rfl⟩; rw [hx]; go_wp2_with fail))
  refine bodyPost_ret (by simp [results, Tryz.results72, go_sem, *]; try rfl) rfl ?_
  exact ⟨rfl, ((((((HB2.out.setCell (by simp <;> omega) _).setCell (by simp <;> omega) _).setCell (by simp <;> omega) _).setCell (by simp <;> omega) _).setCell (by simp <;> omega) _).setCell (by simp <;> omega) _).setCell (by simp <;> omega) _⟩
set_option maxRecDepth 8000 in
set_option maxHeartbeats 2000000 in
theorem s_l3Step_none (k : Int) (fa : Option Addr) (fn fc : Nat) (ia : Option Addr) (m ic : Nat) (bx by' bz fl co : Int) (F : List Agg.V) (I : List Int) (x : Int) (w : World) (hF : Vals w fa fn fc F) (hI : Nums .i64 w ia m ic I) (hok : Agg.sOk k ⟨F, I, ⟨bx, by', bz⟩, fl, co⟩ = true) (hx : x = 0) (hsz : fn + m = 0) :
    Calls Tryz.prog 72 #[.int .i64 k, .agg #[.slice fa fn fc, .slice ia m ic, .int .i64 bx, .int .i64 by', .int .i64 bz, .int .i64 fl, .int .i64 co], .agg #[.bool false, .int .i64 x]] w (RefusedStk (.agg #[.slice fa fn fc, .slice ia m ic, .int .i64 bx, .int .i64 by', .int .i64 bz, .int .i64 fl, .int .i64 co]) w) := by
  have hFl : F.length = fn := hF.1
  have hIl : I.length = m := hI.1
  have HF := Lib.hid hF
  have HI := Lib.hid hI
  have hsz60 : fn + m ≤ 60 := by have := (Agg.sOk_parts hok).2.1; simp [Agg.S.size] at this; omega
  have hco : co ≤ 1000000 := (Agg.sOk_bounds hok).2.2.2
  have HXH := Lib.hid hx
  clear hF hI hok hFl hIl hco hx
  obtain ⟨W, hW⟩ : ∃ W, W = ((w.alloc (.cells #[.slice fa fn fc, .slice ia m ic, .int .i64 bx, .int .i64 by', .int .i64 bz, .int .i64 fl, .int .i64 co] 59)).alloc (.cells #[.bool false, .int .i64 x] 29)).alloc (.cells #[.slice none 0 0, .slice none 0 0, .int .i64 0, .int .i64 0, .int .i64 0, .int .i64 0, .int .i64 0] 59) := ⟨_, rfl⟩
  have HA := Lib.hid (show Box7 W w.heap.size 59 (.slice fa fn fc) (.slice ia m ic) (.int .i64 bx) (.int .i64 by') (.int .i64 bz) (.int .i64 fl) (.int .i64 co) from by rw [hW]; exact ((Box7.new w _ _ _ _ _ _ _ _).alloc _).alloc _)
  have HP := Lib.hid (show Box2 W (w.heap.size + 1) 29 (.bool false) (.int .i64 x) from by rw [hW]; exact (Box2.new1 _ _ _ (by simp)).alloc _)
  have HR := Lib.hid (show Box7 W (w.heap.size + 1 + 1) 59 (.slice none 0 0) (.slice none 0 0) (.int .i64 0) (.int .i64 0) (.int .i64 0) (.int .i64 0) (.int .i64 0) from by rw [hW]; exact Box7.new1 _ _ _ _ _ _ _ _ (by simp))
  have HB := Lib.hid (show Below w.heap.size w W from by rw [hW]; exact (((Below.refl _ _).alloc (Nat.le_refl _) _).alloc (by simp) _).alloc (by simp; omega) _)
  go_enter Tryz.func72, Tryz.ntmps72
  go_wp2_with fail
  rw [← hW]
  clear hW
  refine (s_l3Copy_any fa fn fc ia m ic bx by' bz fl co F I _ (HF.out.below HB.out) (HI.out.below HB.out) (by omega) (by omega)).mono ?_
  rintro e w1 ⟨v, rfl, hown, hb1⟩
  obtain ⟨ga, gc, ja, jc, rfl, -, -⟩ := hown.read
  simp only at *
  have HA1 := Lib.hid (HA.out.call hb1)
  have HP1 := Lib.hid (HP.out.call hb1)
  have HR1 := Lib.hid (HR.out.call hb1)
  have HB1 := Lib.hid (HB.out.trans (hb1.mono HB.out.size))
  clear hb1 hown HA HP HR HB
  obtain ⟨W2, hW2⟩ : ∃ W2, W2 = w1.alloc (.cells #[.slice ga F.length gc, .slice ja I.length jc, .int .i64 bx, .int .i64 by', .int .i64 bz, .int .i64 fl, .int .i64 co] 59) := ⟨_, rfl⟩
  have HA2 := Lib.hid (show Box7 W2 w.heap.size 59 (.slice fa fn fc) (.slice ia m ic) (.int .i64 bx) (.int .i64 by') (.int .i64 bz) (.int .i64 fl) (.int .i64 co) from by rw [hW2]; exact HA1.out.alloc _)
  have HP2 := Lib.hid (show Box2 W2 (w.heap.size + 1) 29 (.bool false) (.int .i64 x) from by rw [hW2]; exact HP1.out.alloc _)
  have HR2 := Lib.hid (show Box7 W2 (w.heap.size + 1 + 1) 59 (.slice none 0 0) (.slice none 0 0) (.int .i64 0) (.int .i64 0) (.int .i64 0) (.int .i64 0) (.int .i64 0) from by rw [hW2]; exact HR1.out.alloc _)
  have HB2 := Lib.hid (show Below w.heap.size w W2 from by rw [hW2]; exact HB1.out.alloc HB1.out.size _)
  obtain ⟨p0, p1⟩ := HP1.out.cells
  have hl1 := HR1.out.lt
  have hl2 : w.heap.size + 1 < w1.heap.size := by omega
  go_upto_region 2 with (fail)
  rw [← hW2]
  clear hW2 HA1 HP1 HR1 HB1 p0 p1 hl1 hl2
  obtain ⟨p0, p1⟩ := HP2.out.cells
  obtain ⟨q0, q1, q2, q3, q4, q5, q6⟩ := HA2.out.cells
  obtain ⟨s0, s1, s2, s3, s4, s5, s6⟩ := HR2.out.cells
  have e0 := HR2.out.free
  have hwr2 : IntKind.i64.wrap ((fn : Int) + (m : Int)) = (fn : Int) + (m : Int) := IntWalk.i64_in _ (by omega)
  have hx := HXH.out
  (try have hszI : (60 : Int) ≤ (fn : Int) + (m : Int) := by omega)
  (try have hszZ : (fn : Int) + (m : Int) = 0 := by omega)
  go_wp2_with fail
  (try (refine (s_in_item _ _).mono ?_; rintro e wk ⟨rfl, rfl⟩; rw [hx]; go_wp2_with fail))
  refine bodyPost_ret (by simp [results, Tryz.results72, go_sem, *]; try rfl) rfl ?_
  exact ⟨rfl, ((((((HB2.out.setCell (by simp <;> omega) _).setCell (by simp <;> omega) _).setCell (by simp <;> omega) _).setCell (by simp <;> omega) _).setCell (by simp <;> omega) _).setCell (by simp <;> omega) _).setCell (by simp <;> omega) _⟩
/-- A change of valid stacks in the model, whole. -/
def ChangedStk (b : Bool) (v : Value) (s : Agg.S) (w : World) (e : Ending) (w' : World) : Prop :=
  (b = true → SteppedStk s w e w') ∧ (b = false → RefusedStk v w e w')
theorem s_l3Step_any (k : Int) (fa : Option Addr) (fn fc : Nat) (ia : Option Addr) (m ic : Nat) (bx by' bz fl co : Int) (F : List Agg.V) (I : List Int) (p : Bool) (x : Int) (w : World) (hF : Vals w fa fn fc F) (hI : Nums .i64 w ia m ic I) (hok : Agg.sOk k ⟨F, I, ⟨bx, by', bz⟩, fl, co⟩ = true) :
    Calls Tryz.prog 72 #[.int .i64 k, .agg #[.slice fa fn fc, .slice ia m ic, .int .i64 bx, .int .i64 by', .int .i64 bz, .int .i64 fl, .int .i64 co], .agg #[.bool p, .int .i64 x]] w (ChangedStk (Agg.can (p, x) (Agg.S.size ⟨F, I, ⟨bx, by', bz⟩, fl, co⟩)) (.agg #[.slice fa fn fc, .slice ia m ic, .int .i64 bx, .int .i64 by', .int .i64 bz, .int .i64 fl, .int .i64 co]) (Agg.stepS k ⟨F, I, ⟨bx, by', bz⟩, fl, co⟩ (p, x)) w) := by
  have hFl : F.length = fn := hF.1
  have hIl : I.length = m := hI.1
  have hsz : (Agg.S.size ⟨F, I, ⟨bx, by', bz⟩, fl, co⟩) = fn + m := by simp [Agg.S.size, hFl, hIl]
  cases p
  · by_cases hx : x = 0
    · by_cases h0 : fn + m = 0
      · have e : Agg.can (false, x) (Agg.S.size ⟨F, I, ⟨bx, by', bz⟩, fl, co⟩) = false := by rw [hsz]; simp [Agg.can, h0]
        rw [e]
        exact (s_l3Step_none k fa fn fc ia m ic bx by' bz fl co F I x w hF hI hok hx h0).mono fun e w' h => ⟨fun hb => (by cases hb), fun _ => h⟩
      · have e : Agg.can (false, x) (Agg.S.size ⟨F, I, ⟨bx, by', bz⟩, fl, co⟩) = true := by rw [hsz]; simp [Agg.can, Agg.opOk, hx]; omega
        rw [e]
        subst hx
        by_cases hf : fn = 0
        · have hs : Agg.stepS k ⟨F, I, ⟨bx, by', bz⟩, fl, co⟩ (false, 0) = Agg.popS (Agg.flipS k ⟨F, I, ⟨bx, by', bz⟩, fl, co⟩) := by simp [Agg.stepS, Agg.readyS, hFl, hf]
          rw [hs]
          exact (s_l3Step_flip k fa fn fc ia m ic bx by' bz fl co F I w hF hI hok hf (by omega)).mono fun e w' h => ⟨fun _ => h, fun hb => (by cases hb)⟩
        · have hs : Agg.stepS k ⟨F, I, ⟨bx, by', bz⟩, fl, co⟩ (false, 0) = Agg.popS ⟨F, I, ⟨bx, by', bz⟩, fl, co⟩ := by simp [Agg.stepS, Agg.readyS, hFl, hf]
          rw [hs]
          exact (s_l3Step_pop k fa fn fc ia m ic bx by' bz fl co F I w hF hI hok (by omega)).mono fun e w' h => ⟨fun _ => h, fun hb => (by cases hb)⟩
    · have e : Agg.can (false, x) (Agg.S.size ⟨F, I, ⟨bx, by', bz⟩, fl, co⟩) = false := by simp [Agg.can, Agg.opOk, hx]
      rw [e]
      exact (s_l3Step_some k fa fn fc ia m ic bx by' bz fl co F I x w hF hI hok hx).mono fun e w' h => ⟨fun hb => (by cases hb), fun _ => h⟩
  · cases hx : Agg.isItem x
    · have e : Agg.can (true, x) (Agg.S.size ⟨F, I, ⟨bx, by', bz⟩, fl, co⟩) = false := by simp [Agg.can, Agg.opOk, hx]
      rw [e]
      exact (s_l3Step_item k fa fn fc ia m ic bx by' bz fl co F I x w hF hI hok hx).mono fun e w' h => ⟨fun hb => (by cases hb), fun _ => h⟩
    · by_cases h6 : 60 ≤ fn + m
      · have e : Agg.can (true, x) (Agg.S.size ⟨F, I, ⟨bx, by', bz⟩, fl, co⟩) = false := by rw [hsz]; simp [Agg.can]; intro _; omega
        rw [e]
        exact (s_l3Step_full k fa fn fc ia m ic bx by' bz fl co F I x w hF hI hok hx h6).mono fun e w' h => ⟨fun hb => (by cases hb), fun _ => h⟩
      · have e : Agg.can (true, x) (Agg.S.size ⟨F, I, ⟨bx, by', bz⟩, fl, co⟩) = true := by rw [hsz]; simp [Agg.can, Agg.opOk, hx]; omega
        have hs : Agg.stepS k ⟨F, I, ⟨bx, by', bz⟩, fl, co⟩ (true, x) = Agg.pushS k ⟨F, I, ⟨bx, by', bz⟩, fl, co⟩ x := by simp [Agg.stepS]
        rw [e, hs]
        exact (s_l3Step_push k fa fn fc ia m ic bx by' bz fl co F I x w hF hI hok hx (by omega)).mono fun e w' h => ⟨fun _ => h, fun hb => (by cases hb)⟩
end Go.Proofs.YtmlkdbmhekiniaaGreat

/-
  StacksStep in the model.
-/
namespace Go.Proofs.YtmlkdbmhekiniaaGreat
set_option linter.unusedSimpArgs false
set_option linter.unusedVariables false
open Go.RowKit
/-- What StacksStep answers, in memory of its own. -/
def StepOut (b : Bool) (s : Agg.S) (w : World) (e : Ending) (w' : World) : Prop :=
  ∃ v, e = .returned (.tuple #[v, .bool b]) ∧ StkOwn w' w.heap.size w'.heap.size v s ∧ Below w.heap.size w w'
theorem StepOut.zero {w w' : World} (hb : Below w.heap.size w w') : StepOut false Agg.zeroS w (.returned (.tuple #[.agg #[.slice none 0 0, .slice none 0 0, .int .i64 0, .int .i64 0, .int .i64 0, .int .i64 0, .int .i64 0], .bool false])) w' :=
  ⟨_, rfl, ⟨_, _, rfl, ⟨World.ownsRow_nil _ _ _ _, hb.size, Nat.le_refl _, fun g hg => by simp [Value.ownBlock] at hg⟩, ⟨World.ownsRow_nil _ _ _ _, hb.size, Nat.le_refl _, fun g hg => by simp [Value.ownBlock] at hg⟩⟩, hb⟩
theorem sets7 {w wr : World} {c d : Nat} (h : Below d w wr) (hd : d ≤ c) (u0 u1 u2 u3 u4 u5 u6 : Value) :
    Below d w (((((((wr.setCell ⟨c, 0, none⟩ u0).setCell ⟨c, 1, none⟩ u1).setCell ⟨c, 2, none⟩ u2).setCell ⟨c, 3, none⟩ u3).setCell ⟨c, 4, none⟩ u4).setCell ⟨c, 5, none⟩ u5).setCell ⟨c, 6, none⟩ u6) :=
  ((((((h.setCell hd u0).setCell hd u1).setCell hd u2).setCell hd u3).setCell hd u4).setCell hd u5).setCell hd u6
theorem StkOwn.set7 {wr : World} {lo hi c : Nat} {v : Value} {s : Agg.S} (h : StkOwn wr lo hi v s) (hd : c < lo ∨ hi ≤ c) (u0 u1 u2 u3 u4 u5 u6 : Value) :
    StkOwn (((((((wr.setCell ⟨c, 0, none⟩ u0).setCell ⟨c, 1, none⟩ u1).setCell ⟨c, 2, none⟩ u2).setCell ⟨c, 3, none⟩ u3).setCell ⟨c, 4, none⟩ u4).setCell ⟨c, 5, none⟩ u5).setCell ⟨c, 6, none⟩ u6) lo hi v s := by
  obtain ⟨fv, iv, hv, h1, h2⟩ := h
  exact ⟨fv, iv, hv, ((((((h1.set hd).set hd).set hd).set hd).set hd).set hd).set hd, ((((((h2.set hd).set hd).set hd).set hd).set hd).set hd).set hd⟩
theorem StkOwn.wide {w : World} {lo hi lo' hi' : Nat} {v : Value} {s : Agg.S} (h : StkOwn w lo hi v s) (h1 : lo' ≤ lo) (h2 : hi ≤ hi') (h3 : hi' ≤ w.heap.size) : StkOwn w lo' hi' v s := by
  obtain ⟨fv, iv, hv, g1, g2⟩ := h
  exact ⟨fv, iv, hv, g1.wide h1 h2 h3, g2.wide h1 h2 h3⟩
theorem size_sets7 {wr : World} {c : Nat} (u0 u1 u2 u3 u4 u5 u6 : Value) : (((((((wr.setCell ⟨c, 0, none⟩ u0).setCell ⟨c, 1, none⟩ u1).setCell ⟨c, 2, none⟩ u2).setCell ⟨c, 3, none⟩ u3).setCell ⟨c, 4, none⟩ u4).setCell ⟨c, 5, none⟩ u5).setCell ⟨c, 6, none⟩ u6).heap.size = wr.heap.size := by simp [World.setCell]
end Go.Proofs.YtmlkdbmhekiniaaGreat

/-
  A run of stacks in the model.
-/
namespace Go.Proofs.YtmlkdbmhekiniaaGreat
set_option linter.unusedSimpArgs false
set_option linter.unusedVariables false
open Go.RowKit
/-- The numbers behind the first j changes. -/
def Agg.stNums (k : Int) (l : List (Bool × Int)) (j : Nat) : List Int := (List.range j).map fun i => Agg.num k (Agg.valS k (Agg.stAt k l (i + 1)))
theorem Agg.stNums_len (k : Int) (l : List (Bool × Int)) (j : Nat) : (Agg.stNums k l j).length = j := by simp [Agg.stNums]
theorem Agg.stNums_step (k : Int) (l : List (Bool × Int)) (j : Nat) : Agg.stNums k l (j + 1) = Agg.stNums k l j ++ [Agg.num k (Agg.valS k (Agg.stAt k l (j + 1)))] := by simp [Agg.stNums, List.range_succ]
def Agg.runOk (k : Int) (l : List (Bool × Int)) : Bool := Agg.isKind k && Agg.opsOk l
def Agg.runS (k : Int) (l : List (Bool × Int)) : Agg.S := if Agg.runOk k l then Agg.stAt k l l.length else Agg.zeroS
def Agg.runN (k : Int) (l : List (Bool × Int)) : List Int := if Agg.runOk k l then Agg.stNums k l l.length else []
/-- What StacksRun answers, in memory of its own. -/
def RunOut (b : Bool) (s : Agg.S) (q : List Int) (w : World) (e : Ending) (w' : World) : Prop :=
  ∃ v u n, e = .returned (.tuple #[v, u, .bool b]) ∧ StkOwn w' w.heap.size w'.heap.size v s ∧ OwnR w' w.heap.size w'.heap.size u n q ∧ Below w.heap.size w w'
theorem can_step {k : Int} {s : Agg.S} {o : Bool × Int} (h : Agg.stepOk k s o = true) : Agg.sOk k s = true ∧ Agg.can o s.size = true := by
  simp only [Agg.stepOk, Bool.and_eq_true] at h
  exact ⟨h.1.1.1, h.2⟩
theorem set7_far {W : World} {c d o : Nat} {u0 u1 u2 u3 u4 u5 u6 : Value} (h : c ≠ d) : (((((((W.setCell ⟨d, 0, none⟩ u0).setCell ⟨d, 1, none⟩ u1).setCell ⟨d, 2, none⟩ u2).setCell ⟨d, 3, none⟩ u3).setCell ⟨d, 4, none⟩ u4).setCell ⟨d, 5, none⟩ u5).setCell ⟨d, 6, none⟩ u6).cell? ⟨c, o, none⟩ = W.cell? ⟨c, o, none⟩ :=
  World.cell?_of_block (by rw [Below.heap_setCell _ _ _ _ (by simpa using h), Below.heap_setCell _ _ _ _ (by simpa using h), Below.heap_setCell _ _ _ _ (by simpa using h), Below.heap_setCell _ _ _ _ (by simpa using h), Below.heap_setCell _ _ _ _ (by simpa using h), Below.heap_setCell _ _ _ _ (by simpa using h), Below.heap_setCell _ _ _ _ (by simpa using h)])
theorem keep_alloc {W : World} {c o : Nat} {x : Obj} (h : c < W.heap.size) : (W.alloc x).cell? ⟨c, o, none⟩ = W.cell? ⟨c, o, none⟩ :=
  World.cell?_of_block (Below.heap_alloc W x c h)
/-- The variables and rows of a run under way: the stacks (at sv), the result, the numbers. -/
structure RunSt (w : World) (sv : Nat) (fv iv : Value) (bx by' bz fl co : Int) (ov : Value) (j : Nat) (ys : List Value) (wr : World) : Prop where
  s : Box7 wr sv 59 fv iv (.int .i64 bx) (.int .i64 by') (.int .i64 bz) (.int .i64 fl) (.int .i64 co)
  r : Box7 wr w.heap.size 59 (.slice none 0 0) (.slice none 0 0) (.int .i64 0) (.int .i64 0) (.int .i64 0) (.int .i64 0) (.int .i64 0)
  o : wr.ownsRow (w.heap.size + 1) 3 1 ov j ys
  b : Below w.heap.size w wr
theorem RunSt.call {w wr w2 : World} {sv : Nat} {fv iv : Value} {bx by' bz fl co : Int} {ov : Value} {j : Nat} {ys : List Value} (h : RunSt w sv fv iv bx by' bz fl co ov j ys wr) (hb : Below wr.heap.size wr w2) : RunSt w sv fv iv bx by' bz fl co ov j ys w2 :=
  ⟨h.s.call hb, h.r.call hb, h.o.kept (Below.grownNone hb none) (by cases hv : ov.ownBlock <;> simp), h.b.trans (hb.mono h.b.size)⟩
theorem RunSt.callD {w wr w2 : World} {sv : Nat} {fv iv : Value} {bx by' bz fl co : Int} {ov : Value} {j : Nat} {ys : List Value} (h : RunSt w sv fv iv bx by' bz fl co ov j ys wr) (hb : Below wr.drew.heap.size wr.drew w2) : RunSt w sv fv iv bx by' bz fl co ov j ys w2 :=
  RunSt.call (wr := wr.drew) ⟨h.s, h.r, h.o, h.b.drew⟩ hb
theorem StkOwn.valsF {w : World} {lo hi : Nat} {iv u2 u3 u4 u5 u6 : Value} {s : Agg.S} {ga : Option Addr} {gc : Nat} (h : StkOwn w lo hi (.agg #[.slice ga s.front.length gc, iv, u2, u3, u4, u5, u6]) s) : Vals w ga s.front.length gc s.front := by
  obtain ⟨fv, iv', hv, h1, -⟩ := h
  simp only [Value.agg.injEq, Array.mk.injEq, List.cons.injEq] at hv
  obtain ⟨rfl, -⟩ := hv
  obtain ⟨fa, fc, e, hF⟩ := h1.vals
  simp only [Value.slice.injEq] at e
  obtain ⟨rfl, -, rfl⟩ := e
  exact hF
theorem StkOwn.rows {w : World} {lo hi : Nat} {fv iv u2 u3 u4 u5 u6 : Value} {s : Agg.S} (h : StkOwn w lo hi (.agg #[fv, iv, u2, u3, u4, u5, u6]) s) : OwnV w lo hi fv s.front.length s.front ∧ OwnR w lo hi iv s.items.length s.items := by
  obtain ⟨fv', iv', hv, h1, h2⟩ := h
  simp only [Value.agg.injEq, Array.mk.injEq, List.cons.injEq] at hv
  obtain ⟨rfl, rfl, -⟩ := hv
  exact ⟨h1, h2⟩
theorem Box7.sets {wr : World} {c : Nat} {T : TypeId} {v0 v1 v2 v3 v4 v5 v6 : Value} (h : Box7 wr c T v0 v1 v2 v3 v4 v5 v6) (u0 u1 u2 u3 u4 u5 u6 : Value) :
    Box7 (((((((wr.setCell ⟨c, 0, none⟩ u0).setCell ⟨c, 1, none⟩ u1).setCell ⟨c, 2, none⟩ u2).setCell ⟨c, 3, none⟩ u3).setCell ⟨c, 4, none⟩ u4).setCell ⟨c, 5, none⟩ u5).setCell ⟨c, 6, none⟩ u6) c T u0 u1 u2 u3 u4 u5 u6 :=
  ((((((h.set0 u0).set1 u1).set2 u2).set3 u3).set4 u4).set5 u5).set6 u6
theorem Box7.others {wr : World} {c d : Nat} {T : TypeId} {v0 v1 v2 v3 v4 v5 v6 : Value} (h : Box7 wr c T v0 v1 v2 v3 v4 v5 v6) (hd : c ≠ d) (u0 u1 u2 u3 u4 u5 u6 : Value) :
    Box7 (((((((wr.setCell ⟨d, 0, none⟩ u0).setCell ⟨d, 1, none⟩ u1).setCell ⟨d, 2, none⟩ u2).setCell ⟨d, 3, none⟩ u3).setCell ⟨d, 4, none⟩ u4).setCell ⟨d, 5, none⟩ u5).setCell ⟨d, 6, none⟩ u6) c T v0 v1 v2 v3 v4 v5 v6 :=
  ((((((h.other hd 0 u0).other hd 1 u1).other hd 2 u2).other hd 3 u3).other hd 4 u4).other hd 5 u5).other hd 6 u6
theorem own_sets7 {w : World} {base e size n d : Nat} {v : Value} {xs : List Value} (h : w.ownsRow base e size v n xs) (hd : ∀ g, v.ownBlock = some g → g ≠ d) (u0 u1 u2 u3 u4 u5 u6 : Value) :
    (((((((w.setCell ⟨d, 0, none⟩ u0).setCell ⟨d, 1, none⟩ u1).setCell ⟨d, 2, none⟩ u2).setCell ⟨d, 3, none⟩ u3).setCell ⟨d, 4, none⟩ u4).setCell ⟨d, 5, none⟩ u5).setCell ⟨d, 6, none⟩ u6).ownsRow base e size v n xs :=
  own_set_ne (own_set_ne (own_set_ne (own_set_ne (own_set_ne (own_set_ne (own_set_ne h hd) hd) hd) hd) hd) hd) hd
theorem RunSt.far {w wr : World} {sv d : Nat} {fv iv : Value} {bx by' bz fl co : Int} {ov : Value} {j : Nat} {ys : List Value} (h : RunSt w sv fv iv bx by' bz fl co ov j ys wr) (h1 : sv ≠ d) (h2 : w.heap.size < d) (h3 : ∀ g, ov.ownBlock = some g → g ≠ d) (u0 u1 u2 u3 u4 u5 u6 : Value) :
    RunSt w sv fv iv bx by' bz fl co ov j ys (((((((wr.setCell ⟨d, 0, none⟩ u0).setCell ⟨d, 1, none⟩ u1).setCell ⟨d, 2, none⟩ u2).setCell ⟨d, 3, none⟩ u3).setCell ⟨d, 4, none⟩ u4).setCell ⟨d, 5, none⟩ u5).setCell ⟨d, 6, none⟩ u6) :=
  ⟨h.s.others h1 _ _ _ _ _ _ _, h.r.others (by omega) _ _ _ _ _ _ _, own_sets7 h.o h3 _ _ _ _ _ _ _, sets7 h.b (by omega) _ _ _ _ _ _ _⟩
theorem RunSt.put {w wr : World} {sv : Nat} {fv iv : Value} {bx by' bz fl co : Int} {ov : Value} {j : Nat} {ys : List Value} (h : RunSt w sv fv iv bx by' bz fl co ov j ys wr) (h2 : w.heap.size < sv) (h3 : ∀ g, ov.ownBlock = some g → g ≠ sv) (u0 u1 : Value) (u2 u3 u4 u5 u6 : Int) :
    RunSt w sv u0 u1 u2 u3 u4 u5 u6 ov j ys (((((((wr.setCell ⟨sv, 0, none⟩ u0).setCell ⟨sv, 1, none⟩ u1).setCell ⟨sv, 2, none⟩ (.int .i64 u2)).setCell ⟨sv, 3, none⟩ (.int .i64 u3)).setCell ⟨sv, 4, none⟩ (.int .i64 u4)).setCell ⟨sv, 5, none⟩ (.int .i64 u5)).setCell ⟨sv, 6, none⟩ (.int .i64 u6)) :=
  ⟨h.s.sets _ _ _ _ _ _ _, h.r.others (by omega) _ _ _ _ _ _ _, own_sets7 h.o h3 _ _ _ _ _ _ _, sets7 h.b (by omega) _ _ _ _ _ _ _⟩
theorem RunSt.appended {w wr w2 : World} {sv : Nat} {fv iv : Value} {bx by' bz fl co : Int} {ov v' : Value} {j j' : Nat} {ys ys' : List Value} {o : Obj} (h : RunSt w sv fv iv bx by' bz fl co ov j ys wr) (h3 : ∀ g, ov.ownBlock = some g → g ≠ sv)
    (hown : w2.ownsRow (w.heap.size + 1) 3 1 v' j' ys') (hg : (wr.alloc o).grownBy w2 ov.ownBlock) : RunSt w sv fv iv bx by' bz fl co v' j' ys' w2 :=
  ⟨(h.s.alloc o).grown hg (fun e => h3 _ e rfl), (h.r.alloc o).grown hg (fun e => by have := (h.o.lt _ e).1; omega), hown,
   (h.b.alloc h.b.size o).grown hg (by have := h.b.size; simp; omega) (fun g e => by have := (h.o.lt _ e).1; omega)⟩
set_option maxRecDepth 8000 in
set_option maxHeartbeats 2000000 in
theorem s_stacksRun_any (k : Int) (a : Option Addr) (n cap : Nat) (l : List (Bool × Int)) (w : World) (h : Ops w a n cap l) :
    Calls Tryz.prog 36 #[.int .i64 k, .slice a n cap] w (RunOut (Agg.runOk k l) (Agg.runS k l) (Agg.runN k l) w) := by
  obtain ⟨i0, hi0, hz0, hz1, hz2⟩ := info_parts infoInt
  have hll : l.length = n := h.1
  have hnc : n ≤ cap := h.2.1
  have hcm : cap ≤ 9223372036854775807 := by have := h.2.2.1; unfold maxLen at this; omega
  obtain ⟨W, hW⟩ : ∃ W, W = (w.alloc (.cells #[.slice none 0 0, .slice none 0 0, .int .i64 0, .int .i64 0, .int .i64 0, .int .i64 0, .int .i64 0] 59)).alloc (.cells #[] 3) := ⟨_, rfl⟩
  have HR := Lib.hid (show Box7 W w.heap.size 59 (.slice none 0 0) (.slice none 0 0) (.int .i64 0) (.int .i64 0) (.int .i64 0) (.int .i64 0) (.int .i64 0) from by rw [hW]; exact (Box7.new w _ _ _ _ _ _ _ _).alloc _)
  have HB := Lib.hid (show Below w.heap.size w W from by rw [hW]; exact ((Below.refl _ _).alloc (Nat.le_refl _) _).alloc (by simp) _)
  have HO := Lib.hid (show W.ownsRow (w.heap.size + 1) 3 1 (.slice (some ⟨w.heap.size + 1, 0, none⟩) 0 0) 0 [] from by
    rw [hW]; simpa using World.ownsRow_made (base := w.heap.size + 1) (e := 3) (size := 1) (w.alloc (.cells #[.slice none 0 0, .slice none 0 0, .int .i64 0, .int .i64 0, .int .i64 0, .int .i64 0, .int .i64 0] 59)) #[] 0 (by simp) (by simp [maxLen]) (by simp))
  have HOPS := Lib.hid (h.below HB.out)
  have H0 := Lib.hid h
  have HLL := Lib.hid hll
  have hS := fun w => s_stacksStart_any k w
  obtain ⟨⟨fx, fy, fz⟩, hfi⟩ : ∃ V, V = Agg.first k := ⟨_, rfl⟩
  rw [← hfi] at hS
  obtain ⟨kb, hkb⟩ : ∃ kb, kb = Agg.isKind k := ⟨_, rfl⟩
  rw [← hkb] at hS
  have HS := Lib.hid hS
  have HFI := Lib.hid hfi
  have HKB := Lib.hid hkb
  have hL := fun w h => s_l2Ops_any a n cap l w h
  obtain ⟨lb, hlb⟩ : ∃ lb, lb = Agg.opsOk l := ⟨_, rfl⟩
  rw [← hlb] at hL
  have HL := Lib.hid hL
  have HLB := Lib.hid hlb
  obtain ⟨RB, hRB⟩ : ∃ RB, RB = Agg.runOk k l := ⟨_, rfl⟩
  obtain ⟨RS, hRS⟩ : ∃ RS, RS = Agg.runS k l := ⟨_, rfl⟩
  obtain ⟨RN, hRN⟩ : ∃ RN, RN = Agg.runN k l := ⟨_, rfl⟩
  rw [← hRB, ← hRS, ← hRN]
  have HRB := Lib.hid hRB
  have HRS := Lib.hid hRS
  have HRN := Lib.hid hRN
  clear h hS hfi hkb hL hlb hRB hRS hRN hll
  go_enter Tryz.func36, Tryz.ntmps36
  go_wp2_with fail
  rw [← hW]
  clear hW
  refine (HS.out _).mono ?_
  rintro e w1 ⟨rfl, hb1⟩
  have HR1 := Lib.hid (HR.out.call hb1)
  have HB1 := Lib.hid (HB.out.trans (hb1.mono HB.out.size))
  have HO1 := Lib.hid (HO.out.kept (Below.grownNone hb1 none) (by simp [Value.ownBlock]))
  have HOPS1 := Lib.hid (HOPS.out.below hb1)
  have hsz1 : w.heap.size + 1 < w1.heap.size := by have h9 : w.heap.size + 1 < W.heap.size := (HO.out.lt (w.heap.size + 1) rfl).2; have := hb1.size; omega
  clear hb1 HR HB HO HOPS
  obtain ⟨W2, hW2⟩ : ∃ W2, W2 = w1.alloc (.cells #[.slice none 0 0, .slice none 0 0, .int .i64 fx, .int .i64 fy, .int .i64 fz, .int .i64 0, .int .i64 0] 59) := ⟨_, rfl⟩
  have hbn := (Below.refl w1.heap.size w1).alloc (Nat.le_refl _) (.cells #[.slice none 0 0, .slice none 0 0, .int .i64 fx, .int .i64 fy, .int .i64 fz, .int .i64 0, .int .i64 0] 59)
  rw [← hW2] at hbn
  have HR2 := Lib.hid (HR1.out.call hbn)
  have HB2 := Lib.hid (HB1.out.trans (hbn.mono HB1.out.size))
  have HO2 := Lib.hid (HO1.out.kept (Below.grownNone hbn none) (by simp [Value.ownBlock]))
  have HOPS2 := Lib.hid (HOPS1.out.below hbn)
  have HX2 := Lib.hid (show Box7 W2 w1.heap.size 59 (.slice none 0 0) (.slice none 0 0) (.int .i64 fx) (.int .i64 fy) (.int .i64 fz) (.int .i64 0) (.int .i64 0) from by rw [hW2]; exact Box7.new w1 _ _ _ _ _ _ _ _)
  have hsz2 : W2.heap.size = w1.heap.size + 1 := by rw [hW2]; simp
  have HSZ2 := Lib.hid hsz2
  clear hbn HR1 HB1 HO1 HOPS1 hsz2
  go_upto_region 3 with (fail)
  rw [← hW2]
  clear hW2
  obtain ⟨sv, hsv⟩ : ∃ sv, sv = w1.heap.size := ⟨_, rfl⟩
  rw [← hsv] at HX2 ⊢
  rw [← hsv] at HSZ2 hsz1
  clear hsv
  obtain ⟨s0, s1, s2, s3, s4, s5, s6⟩ := HR2.out.cells
  have e0 := HR2.out.free
  cases kb
  · have hb0 : RB = false := by rw [HRB.out, Agg.runOk, ← HKB.out]; rfl
    obtain rfl : RS = Agg.zeroS := by rw [HRS.out, Agg.runS, ← HRB.out, hb0]; rfl
    obtain rfl : RN = [] := by rw [HRN.out, Agg.runN, ← HRB.out, hb0]; rfl
    subst hb0
    go_wp2_with fail
    refine bodyPost_ret (by simp [results, Tryz.results36, go_sem, *]; try rfl) rfl ?_
    have hbb := sets7 HB2.out (Nat.le_refl _) (.slice none 0 0) (.slice none 0 0) (.int .i64 0) (.int .i64 0) (.int .i64 0) (.int .i64 0) (.int .i64 0)
    refine ⟨_, _, 0, rfl, ⟨_, _, rfl, ⟨World.ownsRow_nil _ _ _ _, hbb.size, Nat.le_refl _, fun g hg => by simp [Value.ownBlock] at hg⟩, ⟨World.ownsRow_nil _ _ _ _, hbb.size, Nat.le_refl _, fun g hg => by simp [Value.ownBlock] at hg⟩⟩, OwnR.of (lo := w.heap.size + 1) ?_ (by omega) hbb.size, hbb⟩
    exact ownsRow_set (ownsRow_set (ownsRow_set (ownsRow_set (ownsRow_set (ownsRow_set (ownsRow_set HO2.out (by omega)) (by omega)) (by omega)) (by omega)) (by omega)) (by omega)) (by omega)
  · cases lb
    · have hb0 : RB = false := by rw [HRB.out, Agg.runOk, ← HKB.out, ← HLB.out]; rfl
      obtain rfl : RS = Agg.zeroS := by rw [HRS.out, Agg.runS, ← HRB.out, hb0]; rfl
      obtain rfl : RN = [] := by rw [HRN.out, Agg.runN, ← HRB.out, hb0]; rfl
      subst hb0
      clear s0 s1 s2 s3 s4 s5 s6 e0
      go_wp2_with fail
      refine (HL.out _ HOPS2.out).mono ?_
      rintro e w3 ⟨rfl, hb3⟩
      have HR3 := Lib.hid (HR2.out.call hb3)
      have HB3 := Lib.hid (HB2.out.trans (hb3.mono HB2.out.size))
      have HO3 := Lib.hid (HO2.out.kept (Below.grownNone hb3 none) (by simp [Value.ownBlock]))
      clear hb3
      obtain ⟨s0, s1, s2, s3, s4, s5, s6⟩ := HR3.out.cells
      have e0 := HR3.out.free
      go_wp2_with fail
      refine bodyPost_ret (by simp [results, Tryz.results36, go_sem, *]; try rfl) rfl ?_
      have hbb := sets7 HB3.out (Nat.le_refl _) (.slice none 0 0) (.slice none 0 0) (.int .i64 0) (.int .i64 0) (.int .i64 0) (.int .i64 0) (.int .i64 0)
      refine ⟨_, _, 0, rfl, ⟨_, _, rfl, ⟨World.ownsRow_nil _ _ _ _, hbb.size, Nat.le_refl _, fun g hg => by simp [Value.ownBlock] at hg⟩, ⟨World.ownsRow_nil _ _ _ _, hbb.size, Nat.le_refl _, fun g hg => by simp [Value.ownBlock] at hg⟩⟩, OwnR.of (lo := w.heap.size + 1) ?_ (by omega) hbb.size, hbb⟩
      exact ownsRow_set (ownsRow_set (ownsRow_set (ownsRow_set (ownsRow_set (ownsRow_set (ownsRow_set HO3.out (by omega)) (by omega)) (by omega)) (by omega)) (by omega)) (by omega)) (by omega)
    · have hb0 : RB = true := by rw [HRB.out, Agg.runOk, ← HKB.out, ← HLB.out]; rfl
      obtain rfl : RS = Agg.stAt k l l.length := by rw [HRS.out, Agg.runS, ← HRB.out, hb0]; rfl
      obtain rfl : RN = Agg.stNums k l l.length := by rw [HRN.out, Agg.runN, ← HRB.out, hb0]; rfl
      subst hb0
      have hk : Agg.isKind k = true := HKB.out.symm
      have hops := HLB.out.symm
      simp only [Agg.opsOk, Bool.and_eq_true, decide_eq_true_eq] at hops
      obtain ⟨⟨hn200, hall⟩, hfit⟩ := hops
      have hn2 : n ≤ 200 := by have := HLL.out; omega
      have HST := Lib.hid (fun j (hj : j < l.length) => Agg.run_step hk hn200 hall hfit hj)
      have HK := Lib.hid hk
      have HFST := Lib.hid (show (⟨[], [], ⟨fx, fy, fz⟩, 0, 0⟩ : Agg.S) = Agg.stAt k l 0 from by rw [HFI.out, Agg.first, hk]; rfl)
      have HS60 := Lib.hid (show ∀ j, j ≤ l.length → (Agg.stAt k l j).front.length ≤ 60 ∧ (Agg.stAt k l j).items.length ≤ 60 from by
        intro j hj
        have h0 := (Agg.stands_at hk j (Agg.fitTo_down hj hfit)).size
        have h1 := Agg.win_len j (Agg.fitTo_down hj hfit)
        simp only [Agg.S.size] at h0
        omega)
      clear hk hn200 hall hfit s0 s1 s2 s3 s4 s5 s6 e0
      go_wp2_with fail
      refine (HL.out _ HOPS2.out).mono ?_
      rintro e w3 ⟨rfl, hb3⟩
      have HR3 := Lib.hid (HR2.out.call hb3)
      have HB3 := Lib.hid (HB2.out.trans (hb3.mono HB2.out.size))
      have HO3 := Lib.hid (HO2.out.kept (Below.grownNone hb3 none) (by simp [Value.ownBlock]))
      have HX3 := Lib.hid (HX2.out.call hb3)
      have HP3 := Lib.hid (HOPS2.out.below hb3)
      clear hb3 HR2 HB2 HO2 HX2 HOPS2
      go_wp2_with fail
      go_loopw [7, 10] (fun ov i wr => ∃ (j : Nat) (lo hi : Nat) (fv iv : Value), j ≤ n ∧ i = .int .i64 j ∧ Hid (wr.ownsRow (w.heap.size + 1) 3 1 ov j ((Agg.stNums k l j).map (Value.int .i64))) ∧ Hid (Box7 wr sv 59 fv iv (.int .i64 (Agg.stAt k l j).back.x) (.int .i64 (Agg.stAt k l j).back.y) (.int .i64 (Agg.stAt k l j).back.z) (.int .i64 (Agg.stAt k l j).flips) (.int .i64 (Agg.stAt k l j).cost)) ∧ Hid (OwnV wr lo hi fv (Agg.stAt k l j).front.length (Agg.stAt k l j).front ∧ OwnR wr lo hi iv (Agg.stAt k l j).items.length (Agg.stAt k l j).items) ∧ Hid (∀ g, ov.ownBlock = some g → g < lo ∨ hi ≤ g) ∧ Hid (w.heap.size + 1 < lo) ∧ Hid (Box7 wr w.heap.size 59 (.slice none 0 0) (.slice none 0 0) (.int .i64 0) (.int .i64 0) (.int .i64 0) (.int .i64 0) (.int .i64 0)) ∧ Hid (Below w.heap.size w wr)) (fun _ i _ => n - (intOf i).toNat)
      case atStart =>
        refine ⟨0, w3.heap.size, w3.heap.size, .slice none 0 0, .slice none 0 0, Nat.zero_le _, rfl, HO3, ?_, ?_, ?_, ?_, HR3, HB3⟩
        · rw [← HFST.out]; exact HX3
        · rw [← HFST.out]
          exact Lib.hid ⟨⟨World.ownsRow_nil _ _ _ _, Nat.le_refl _, Nat.le_refl _, fun g hg => by simp [Value.ownBlock] at hg⟩, ⟨World.ownsRow_nil _ _ _ _, Nat.le_refl _, Nat.le_refl _, fun g hg => by simp [Value.ownBlock] at hg⟩⟩
        · exact Lib.hid (fun g hg => .inl (HO3.out.lt g hg).2)
        · exact Lib.hid (by have := HX3.out.lt; omega)
      case round =>
        obtain ⟨j, lo, hi, fv, iv, hj, rfl, ho, hx, hrows, hap, hlo, hr, hw⟩ := hrel
        clear HO3 HX3 HR3 HB3 HP3
        have hwr := hw.out.size
        have hxl := hx.out.lt
        obtain ⟨fa, fc, rfl, hF⟩ := hrows.out.1.vals
        obtain ⟨ia, ic, rfl, hI, -⟩ := hrows.out.2.nums
        have hlen60 := HS60.out j (by have := HLL.out; omega)
        by_cases hlt : j < n
        · rcases H0.out.2.2.2 with h4 | ⟨b, off, rfl, hbl, hcs⟩
          · omega
          · have hc0 := (hcs j hlt).1
            have hd0 := (hcs j hlt).2
            clear hcs
            obtain ⟨hstep, hsok1, -, hvok1⟩ := HST.out j (by have := HLL.out; omega)
            obtain ⟨hsok, hcan⟩ := can_step hstep
            have hs1 : Agg.stAt k l (j + 1) = Agg.stepS k (Agg.stAt k l j) (Agg.opAt l j) := rfl
            have hnum := Agg.stNums_step k l j
            have hlen1 := HS60.out (j + 1) (by have := HLL.out; omega)
            have hopat : Agg.opAt l j = l[j]?.getD (false, 0) := rfl
            obtain ⟨⟨p, x⟩, hpx⟩ : ∃ o, o = Agg.opAt l j := ⟨_, rfl⟩
            rw [← hopat, ← hpx] at hc0 hd0
            rw [← hpx] at hcan hs1
            obtain ⟨S1, hS1⟩ : ∃ S1, S1 = Agg.stAt k l (j + 1) := ⟨_, rfl⟩
            rw [← hS1] at hs1 hsok1 hvok1 hnum hlen1
            obtain ⟨S, hS⟩ : ∃ S, S = Agg.stAt k l j := ⟨_, rfl⟩
            rw [← hS] at hs1 hsok hcan hlen60 hF hI hx hrows
            obtain ⟨F, I, ⟨bx, by', bz⟩, fl, co⟩ := S
            simp only at hF hI hx hrows hlen60
            have hSTP := fun w hF hI => s_l3Step_any k fa F.length fc ia I.length ic bx by' bz fl co F I p x w hF hI hsok
            rw [hcan, ← hs1] at hSTP
            have HSTP := Lib.hid (fun w hF hI => (hSTP w hF hI).mono fun e w' (h : ChangedStk true _ _ _ _ _) => h.1 rfl)
            obtain ⟨⟨vx, vy, vz⟩, hV1⟩ : ∃ V, V = Agg.valS k S1 := ⟨_, rfl⟩
            have hVAL := fun w ga gc ja jc hF => s_l3Value_any k ga S1.front.length gc ja S1.items.length jc S1.back.x S1.back.y S1.back.z S1.flips S1.cost S1.front S1.items w hF hsok1
            have hVAL2 : ∀ (w : World) (ga : Option Addr) (gc : Nat) (ja : Option Addr) (jc : Nat), Vals w ga S1.front.length gc S1.front → Calls Tryz.prog 86 #[.int .i64 k, .agg #[.slice ga S1.front.length gc, .slice ja S1.items.length jc, .int .i64 S1.back.x, .int .i64 S1.back.y, .int .i64 S1.back.z, .int .i64 S1.flips, .int .i64 S1.cost]] w fun e w' => e = .returned (.agg #[.int .i64 (Agg.valS k S1).x, .int .i64 (Agg.valS k S1).y, .int .i64 (Agg.valS k S1).z]) ∧ Below w.heap.size w w' := hVAL
            rw [← hV1] at hVAL2 hvok1 hnum
            have hNUM := fun w => s_number_any k HK.out vx vy vz w hvok1
            obtain ⟨x1, hx1⟩ : ∃ x1, x1 = Agg.num k ⟨vx, vy, vz⟩ := ⟨_, rfl⟩
            rw [← hx1] at hNUM hnum
            have HVAL := Lib.hid hVAL2
            have HNB := Lib.hid hNUM
            have HS1 := Lib.hid hS1
            have HNUM := Lib.hid hnum
            clear hVAL hVAL2 hNUM hx1 hV1 hvok1
            have HSOK1 := Lib.hid hsok1
            have HF := Lib.hid hF
            have HI := Lib.hid hI
            have HOX := Lib.hid (own_box_ne ho.out hx.out (by decide))
            obtain ⟨q0, q1, q2, q3, q4, q5, q6⟩ := hx.out.cells
            have hk0 : (0 : Int) ≤ (j : Int) := Int.natCast_nonneg _
            have hkn : (j : Int) < (n : Int) := by omega
            clear hSTP hS1 hs1 hnum hsok hcan hstep hopat hpx hF hI hS hsok1
            have HSV := Lib.hid (show w.heap.size + 1 < sv from hsz1)
            have hbz := (Below.refl wr.heap.size wr).alloc (Nat.le_refl _) (.cells #[.slice none 0 0, .slice none 0 0, .int .i64 0, .int .i64 0, .int .i64 0, .int .i64 0, .int .i64 0] 59)
            have HSTB := Lib.hid (show RunSt w sv (.slice fa F.length fc) (.slice ia I.length ic) bx by' bz fl co u7 j ((Agg.stNums k l j).map (Value.int .i64)) wr from ⟨hx.out, hr.out, ho.out, hw.out⟩)
            have HSTA := Lib.hid (HSTB.out.call hbz)
            have HFA := Lib.hid (HF.out.below hbz)
            have HIA := Lib.hid (HI.out.below hbz)
            have HFB := HF
            have HIB := HI
            have HNX := Lib.hid (show Box7 (wr.alloc (.cells #[.slice none 0 0, .slice none 0 0, .int .i64 0, .int .i64 0, .int .i64 0, .int .i64 0, .int .i64 0] 59)) wr.heap.size 59 (.slice none 0 0) (.slice none 0 0) (.int .i64 0) (.int .i64 0) (.int .i64 0) (.int .i64 0) (.int .i64 0) from Box7.new wr _ _ _ _ _ _ _ _)
            have hcka := (HSTA.out.b.cell (p := ⟨b, off + j * 2, none⟩) hbl).trans hc0
            have hcla := (HSTA.out.b.cell (p := ⟨b, off + j * 2 + 1, none⟩) hbl).trans hd0
            have hck := (hw.out.cell (p := ⟨b, off + j * 2, none⟩) hbl).trans hc0
            have hcl := (hw.out.cell (p := ⟨b, off + j * 2 + 1, none⟩) hbl).trans hd0
            have HLT := Lib.hid (fun g hg => (ho.out.lt g hg).2)
            have HGE := Lib.hid (fun g hg => (ho.out.lt g hg).1)
            have hblr : b < wr.heap.size := by omega
            clear hr hx hrows hbz HF HI
            go_wp2_with fail
            go_region_held3 (fun w' => w'.cell? ⟨sv, 0, none⟩ = some (.slice fa F.length fc) ∧ w'.cell? ⟨sv, 1, none⟩ = some (.slice ia I.length ic) ∧ w'.cell? ⟨sv, 2, none⟩ = some (.int .i64 bx) ∧ w'.cell? ⟨sv, 3, none⟩ = some (.int .i64 by') ∧ w'.cell? ⟨sv, 4, none⟩ = some (.int .i64 bz) ∧ w'.cell? ⟨sv, 5, none⟩ = some (.int .i64 fl) ∧ w'.cell? ⟨sv, 6, none⟩ = some (.int .i64 co) ∧ w'.cell? ⟨b, off + j * 2, none⟩ = some (.bool p) ∧ w'.cell? ⟨b, off + j * 2 + 1, none⟩ = some (.int .i64 x)) (first | (refine ⟨?_, ?_, ?_, ?_, ?_, ?_, ?_, ?_, ?_⟩ <;> (rw [set7_far (by omega)]; assumption)) | (refine ⟨?_, ?_, ?_, ?_, ?_, ?_, ?_, ?_, ?_⟩ <;> (rw [keep_alloc (by assumption)]; assumption)) | (refine ⟨?_, ?_, ?_, ?_, ?_, ?_, ?_, ?_, ?_⟩ <;> assumption) | go_keep)
              (first | (go_at_call 72; refine (HSTP.out (World.drew (wr.alloc (.cells #[.slice none 0 0, .slice none 0 0, .int .i64 0, .int .i64 0, .int .i64 0, .int .i64 0, .int .i64 0] 59))) (show Vals (World.drew (wr.alloc (.cells #[.slice none 0 0, .slice none 0 0, .int .i64 0, .int .i64 0, .int .i64 0, .int .i64 0, .int .i64 0] 59))) _ _ _ _ from HFA.out) (show Nums .i64 (World.drew (wr.alloc (.cells #[.slice none 0 0, .slice none 0 0, .int .i64 0, .int .i64 0, .int .i64 0, .int .i64 0, .int .i64 0] 59))) _ _ _ _ from HIA.out)).mono ?_; rintro e w4 ⟨v4, rfl, hown4, hb4⟩; have HST4 := Lib.hid (HSTA.out.callD hb4); have HSZ4 := Lib.hid hb4.size; have hsv4 := HST4.out.s.lt; have hbl4 : b < w4.heap.size := Nat.lt_of_lt_of_le hbl HST4.out.b.size; have hck4 := (HST4.out.b.cell (p := ⟨b, off + j * 2, none⟩) hbl).trans hc0; have hcl4 := (HST4.out.b.cell (p := ⟨b, off + j * 2 + 1, none⟩) hbl).trans hd0; obtain ⟨o0, o1, o2, o3, o4, o5, o6⟩ := HST4.out.s.cells; have HOWN := Lib.hid hown4; obtain ⟨ga, gc, ja, jc, rfl, -, -⟩ := hown4.read; have HNX4 := Lib.hid (HNX.out.callD hb4); have n0 := (HNX.out.callD hb4).free; obtain ⟨z0, z1, z2, z3, z4, z5, z6⟩ := (HNX.out.callD hb4).cells; have hne4 : sv ≠ wr.heap.size := (by omega); have hne5 : b ≠ wr.heap.size := (by omega); clear hb4 hown4) | (go_at_call 72; refine (HSTP.out (World.drew wr) (show Vals (World.drew wr) _ _ _ _ from HFB.out) (show Nums .i64 (World.drew wr) _ _ _ _ from HIB.out)).mono ?_; rintro e w4 ⟨v4, rfl, hown4, hb4⟩; have HST4 := Lib.hid (HSTB.out.callD hb4); have HSZ4 := Lib.hid hb4.size; have hsv4 := HST4.out.s.lt; have hbl4 : b < w4.heap.size := Nat.lt_of_lt_of_le hbl HST4.out.b.size; have hck4 := (HST4.out.b.cell (p := ⟨b, off + j * 2, none⟩) hbl).trans hc0; have hcl4 := (HST4.out.b.cell (p := ⟨b, off + j * 2 + 1, none⟩) hbl).trans hd0; obtain ⟨o0, o1, o2, o3, o4, o5, o6⟩ := HST4.out.s.cells; have HOWN := Lib.hid hown4; obtain ⟨ga, gc, ja, jc, rfl, -, -⟩ := hown4.read; have n0 := (trivial : True); clear hb4 hown4))
            · obtain ⟨W5, hW5⟩ : ∃ W5, W5 = w4.alloc (.cells #[.slice ga S1.front.length gc, .slice ja S1.items.length jc, .int .i64 S1.back.x, .int .i64 S1.back.y, .int .i64 S1.back.z, .int .i64 S1.flips, .int .i64 S1.cost] 59) := ⟨_, rfl⟩
              have hbn : Below w4.heap.size w4 W5 := by rw [hW5]; exact (Below.refl _ _).alloc (Nat.le_refl _) _
              have HST5 := Lib.hid (HST4.out.call hbn)
              have HOWN5 := Lib.hid (HOWN.out.below hbn)
              have HNX5 := Lib.hid (show Box7 W5 w4.heap.size 59 (.slice ga S1.front.length gc) (.slice ja S1.items.length jc) (.int .i64 S1.back.x) (.int .i64 S1.back.y) (.int .i64 S1.back.z) (.int .i64 S1.flips) (.int .i64 S1.cost) from by rw [hW5]; exact Box7.new w4 _ _ _ _ _ _ _ _)
              have hlo5 : wr.heap.size ≤ wr.drew.heap.size := Nat.le_refl _
              have hhi5 : w4.heap.size ≤ W5.heap.size := hbn.size
              rw [← hW5]
              obtain ⟨lo', hlo'⟩ : ∃ lo', lo' = wr.drew.heap.size := ⟨_, rfl⟩
              rw [← hlo'] at HOWN5 hlo5
              obtain ⟨nb, hnb⟩ : ∃ nb, nb = w4.heap.size := ⟨_, rfl⟩
              have hnb5 : sv ≠ nb := by omega
              rw [← hnb] at HNX5 ⊢
              clear hW5 hbn HST4 HOWN hck4 hcl4 o0 o1 o2 o3 o4 o5 o6 n0 hck hcl hcka hcla q0 q1 q2 q3 q4 q5 q6 hlo' hnb
              obtain ⟨W6, hW6⟩ : ∃ W6, W6 = (((((((W5.setCell ⟨sv, 0, none⟩ (.slice ga S1.front.length gc)).setCell ⟨sv, 1, none⟩ (.slice ja S1.items.length jc)).setCell ⟨sv, 2, none⟩ (.int .i64 S1.back.x)).setCell ⟨sv, 3, none⟩ (.int .i64 S1.back.y)).setCell ⟨sv, 4, none⟩ (.int .i64 S1.back.z)).setCell ⟨sv, 5, none⟩ (.int .i64 S1.flips)).setCell ⟨sv, 6, none⟩ (.int .i64 S1.cost)) := ⟨_, rfl⟩
              have HST6 := Lib.hid (HST5.out.put (show w.heap.size < sv by omega) HOX.out (.slice ga S1.front.length gc) (.slice ja S1.items.length jc) S1.back.x S1.back.y S1.back.z S1.flips S1.cost)
              have HOWN6 := Lib.hid (HOWN5.out.set7 (c := sv) (.inl (by omega)) (.slice ga S1.front.length gc) (.slice ja S1.items.length jc) (.int .i64 S1.back.x) (.int .i64 S1.back.y) (.int .i64 S1.back.z) (.int .i64 S1.flips) (.int .i64 S1.cost))
              rw [← hW6] at HST6 HOWN6
              have hz6 : W5.heap.size ≤ W6.heap.size := by rw [hW6, size_sets7]; exact Nat.le_refl _
              obtain ⟨n0, n1, n2, n3, n4, n5, n6⟩ := HNX5.out.cells
              obtain ⟨o0, o1, o2, o3, o4, o5, o6⟩ := HST5.out.s.cells
              have o7 := HST5.out.s.free
              go_upto_region 10 with (fail)
              rw [← hW6]
              clear hW6 n0 n1 n2 n3 n4 n5 n6 o0 o1 o2 o3 o4 o5 o6 o7 HST5 HOWN5 HNX5
              obtain ⟨o0, o1, o2, o3, o4, o5, o6⟩ := HST6.out.s.cells
              go_wp2_with fail
              have hV6 : Vals W6 ga S1.front.length gc S1.front := HOWN6.out.valsF
              have hC6 := HVAL.out W6 ga gc ja jc hV6
              clear hV6
              refine hC6.mono ?_
              rintro e w7 ⟨rfl, hb7⟩
              have HST7 := Lib.hid (HST6.out.call hb7)
              have HOWN7 := Lib.hid (HOWN6.out.below hb7)
              have hz7 : w4.heap.size ≤ w7.heap.size := by have := hb7.size; omega
              clear hb7 o0 o1 o2 o3 o4 o5 o6 HST6 HOWN6 hC6
              go_wp2_with fail
              have hC7 := HNB.out w7
              refine hC7.mono ?_
              rintro e w8 ⟨rfl, hb8⟩
              have HST8 := Lib.hid (HST7.out.call hb8)
              have HOWN8 := Lib.hid (HOWN7.out.below hb8)
              have hz8 : w4.heap.size ≤ w8.heap.size := by have := hb8.size; omega
              have hs8 := HST8.out.b.size
              have hb0 : w.heap.size + 1 ≤ w8.heap.size := by have := HST8.out.s.lt; omega
              clear hb8 HST7 HOWN7 hC7
              go_wp2_with (
                at_builtin
                go_must (refine wpList_append_where rfl (.tmp 45) (.tmp 51) 23 rfl (w.heap.size + 1) 3 i0 (.int .i64 0) 1 8 Tryz.underlying23 hi0 hz0 hz1 hz2 rfl (by decide) _ _ _ rfl (HST8.out.o.alloc _) ⟨w8.heap.size, 0, none⟩ 1 1 [.int .i64 x1] rfl rfl (cell_one_new _ _ _) (ints_oneCell .i64 [x1]) (by unfold maxLen; omega) (by omega) (by simp; omega) ?_)
                intro v9 w9 hown9 hgrow9 hwhere9
                have HST9 := Lib.hid (HST8.out.appended HOX.out hown9 hgrow9)
                have HAP9 := Lib.hid (show ∀ g, v9.ownBlock = some g → g < lo' ∨ w4.heap.size ≤ g from fun g hg => hwhere9.elim (fun e => .inl (by have := HLT.out g (e ▸ hg); omega)) (fun ⟨g', e, hle⟩ => .inr (by rw [e] at hg; simp only [Option.some.injEq] at hg; subst hg; simp at hle; omega)))
                have HOWN9 := Lib.hid ((HOWN8.out.below ((Below.refl w8.heap.size w8).alloc (Nat.le_refl _) _)).kept hgrow9 (fun g hg => .inl (by have := HLT.out g hg; omega)))
                clear hown9 hgrow9 hwhere9)
              have hS1 := HS1.out
              refine ⟨⟨j + 1, lo', w4.heap.size, .slice ga S1.front.length gc, .slice ja S1.items.length jc, by omega, by go_num, ?_, ?_, ?_, HAP9, Lib.hid (by omega), Lib.hid HST9.out.r, Lib.hid HST9.out.b⟩, by simp [intOf] <;> omega⟩
              · rw [HNUM.out, List.map_append]
                exact Lib.hid HST9.out.o
              · rw [← hS1]
                exact Lib.hid HST9.out.s
              · rw [← hS1]
                exact Lib.hid HOWN9.out.rows
            · obtain ⟨W5, hW5⟩ : ∃ W5, W5 = (((((((w4.setCell ⟨wr.heap.size, 0, none⟩ (.slice ga S1.front.length gc)).setCell ⟨wr.heap.size, 1, none⟩ (.slice ja S1.items.length jc)).setCell ⟨wr.heap.size, 2, none⟩ (.int .i64 S1.back.x)).setCell ⟨wr.heap.size, 3, none⟩ (.int .i64 S1.back.y)).setCell ⟨wr.heap.size, 4, none⟩ (.int .i64 S1.back.z)).setCell ⟨wr.heap.size, 5, none⟩ (.int .i64 S1.flips)).setCell ⟨wr.heap.size, 6, none⟩ (.int .i64 S1.cost)) := ⟨_, rfl⟩
              have HST5 := Lib.hid (HST4.out.far (d := wr.heap.size) (by omega) (by omega) (fun g hg => by have := HLT.out g hg; omega) (.slice ga S1.front.length gc) (.slice ja S1.items.length jc) (.int .i64 S1.back.x) (.int .i64 S1.back.y) (.int .i64 S1.back.z) (.int .i64 S1.flips) (.int .i64 S1.cost))
              have HOWN5 := Lib.hid (HOWN.out.set7 (c := wr.heap.size) (.inl (by simp [World.drew])) (.slice ga S1.front.length gc) (.slice ja S1.items.length jc) (.int .i64 S1.back.x) (.int .i64 S1.back.y) (.int .i64 S1.back.z) (.int .i64 S1.flips) (.int .i64 S1.cost))
              have HNX5 := Lib.hid (HNX4.out.sets (.slice ga S1.front.length gc) (.slice ja S1.items.length jc) (.int .i64 S1.back.x) (.int .i64 S1.back.y) (.int .i64 S1.back.z) (.int .i64 S1.flips) (.int .i64 S1.cost))
              rw [← hW5] at HST5 HOWN5 HNX5 ⊢
              have hlo5 : wr.heap.size ≤ (wr.alloc (.cells #[.slice none 0 0, .slice none 0 0, .int .i64 0, .int .i64 0, .int .i64 0, .int .i64 0, .int .i64 0] 59)).drew.heap.size := by simp [World.drew]
              have hhi5 : w4.heap.size ≤ W5.heap.size := by rw [hW5, size_sets7]; exact Nat.le_refl _
              obtain ⟨lo', hlo'⟩ : ∃ lo', lo' = (wr.alloc (.cells #[.slice none 0 0, .slice none 0 0, .int .i64 0, .int .i64 0, .int .i64 0, .int .i64 0, .int .i64 0] 59)).drew.heap.size := ⟨_, rfl⟩
              rw [← hlo'] at HOWN5 hlo5
              obtain ⟨nb, hnb⟩ : ∃ nb, nb = wr.heap.size := ⟨_, rfl⟩
              have hnb5 : sv ≠ nb := by omega
              rw [← hnb] at HNX5
              clear hW5 HST4 HOWN hck4 hcl4 o0 o1 o2 o3 o4 o5 o6 n0 hck hcl hcka hcla q0 q1 q2 q3 q4 q5 q6 hlo' z0 z1 z2 z3 z4 z5 z6 HNX4
              rw [← hnb]
              clear hnb
              obtain ⟨W6, hW6⟩ : ∃ W6, W6 = (((((((W5.setCell ⟨sv, 0, none⟩ (.slice ga S1.front.length gc)).setCell ⟨sv, 1, none⟩ (.slice ja S1.items.length jc)).setCell ⟨sv, 2, none⟩ (.int .i64 S1.back.x)).setCell ⟨sv, 3, none⟩ (.int .i64 S1.back.y)).setCell ⟨sv, 4, none⟩ (.int .i64 S1.back.z)).setCell ⟨sv, 5, none⟩ (.int .i64 S1.flips)).setCell ⟨sv, 6, none⟩ (.int .i64 S1.cost)) := ⟨_, rfl⟩
              have HST6 := Lib.hid (HST5.out.put (show w.heap.size < sv by omega) HOX.out (.slice ga S1.front.length gc) (.slice ja S1.items.length jc) S1.back.x S1.back.y S1.back.z S1.flips S1.cost)
              have HOWN6 := Lib.hid (HOWN5.out.set7 (c := sv) (.inl (by omega)) (.slice ga S1.front.length gc) (.slice ja S1.items.length jc) (.int .i64 S1.back.x) (.int .i64 S1.back.y) (.int .i64 S1.back.z) (.int .i64 S1.flips) (.int .i64 S1.cost))
              rw [← hW6] at HST6 HOWN6
              have hz6 : W5.heap.size ≤ W6.heap.size := by rw [hW6, size_sets7]; exact Nat.le_refl _
              obtain ⟨n0, n1, n2, n3, n4, n5, n6⟩ := HNX5.out.cells
              obtain ⟨o0, o1, o2, o3, o4, o5, o6⟩ := HST5.out.s.cells
              have o7 := HST5.out.s.free
              go_upto_region 10 with (fail)
              rw [← hW6]
              clear hW6 n0 n1 n2 n3 n4 n5 n6 o0 o1 o2 o3 o4 o5 o6 o7 HST5 HOWN5 HNX5
              obtain ⟨o0, o1, o2, o3, o4, o5, o6⟩ := HST6.out.s.cells
              go_wp2_with fail
              have hV6 : Vals W6 ga S1.front.length gc S1.front := HOWN6.out.valsF
              have hC6 := HVAL.out W6 ga gc ja jc hV6
              clear hV6
              refine hC6.mono ?_
              rintro e w7 ⟨rfl, hb7⟩
              have HST7 := Lib.hid (HST6.out.call hb7)
              have HOWN7 := Lib.hid (HOWN6.out.below hb7)
              have hz7 : w4.heap.size ≤ w7.heap.size := by have := hb7.size; omega
              clear hb7 o0 o1 o2 o3 o4 o5 o6 HST6 HOWN6 hC6
              go_wp2_with fail
              have hC7 := HNB.out w7
              refine hC7.mono ?_
              rintro e w8 ⟨rfl, hb8⟩
              have HST8 := Lib.hid (HST7.out.call hb8)
              have HOWN8 := Lib.hid (HOWN7.out.below hb8)
              have hz8 : w4.heap.size ≤ w8.heap.size := by have := hb8.size; omega
              have hs8 := HST8.out.b.size
              have hb0 : w.heap.size + 1 ≤ w8.heap.size := by have := HST8.out.s.lt; omega
              clear hb8 HST7 HOWN7 hC7
              go_wp2_with (
                at_builtin
                go_must (refine wpList_append_where rfl (.tmp 45) (.tmp 51) 23 rfl (w.heap.size + 1) 3 i0 (.int .i64 0) 1 8 Tryz.underlying23 hi0 hz0 hz1 hz2 rfl (by decide) _ _ _ rfl (HST8.out.o.alloc _) ⟨w8.heap.size, 0, none⟩ 1 1 [.int .i64 x1] rfl rfl (cell_one_new _ _ _) (ints_oneCell .i64 [x1]) (by unfold maxLen; omega) (by omega) (by simp; omega) ?_)
                intro v9 w9 hown9 hgrow9 hwhere9
                have HST9 := Lib.hid (HST8.out.appended HOX.out hown9 hgrow9)
                have HAP9 := Lib.hid (show ∀ g, v9.ownBlock = some g → g < lo' ∨ w4.heap.size ≤ g from fun g hg => hwhere9.elim (fun e => .inl (by have := HLT.out g (e ▸ hg); omega)) (fun ⟨g', e, hle⟩ => .inr (by rw [e] at hg; simp only [Option.some.injEq] at hg; subst hg; simp at hle; omega)))
                have HOWN9 := Lib.hid ((HOWN8.out.below ((Below.refl w8.heap.size w8).alloc (Nat.le_refl _) _)).kept hgrow9 (fun g hg => .inl (by have := HLT.out g hg; omega)))
                clear hown9 hgrow9 hwhere9)
              have hS1 := HS1.out
              refine ⟨⟨j + 1, lo', w4.heap.size, .slice ga S1.front.length gc, .slice ja S1.items.length jc, by omega, by go_num, ?_, ?_, ?_, HAP9, Lib.hid (by omega), Lib.hid HST9.out.r, Lib.hid HST9.out.b⟩, by simp [intOf] <;> omega⟩
              · rw [HNUM.out, List.map_append]
                exact Lib.hid HST9.out.o
              · rw [← hS1]
                exact Lib.hid HST9.out.s
              · rw [← hS1]
                exact Lib.hid HOWN9.out.rows
        · obtain rfl : j = n := by omega
          obtain ⟨S, hS⟩ : ∃ S, S = Agg.stAt k l j := ⟨_, rfl⟩
          rw [← hS] at hF hI hx hrows hlen60
          have hC : Calls Tryz.prog 87 #[.agg #[.slice fa S.front.length fc, .slice ia S.items.length ic, .int .i64 S.back.x, .int .i64 S.back.y, .int .i64 S.back.z, .int .i64 S.flips, .int .i64 S.cost]] wr (MadeStk S wr) :=
            s_l3Copy_any fa S.front.length fc ia S.items.length ic S.back.x S.back.y S.back.z S.flips S.cost S.front S.items wr hF hI (by omega) (by omega)
          have hnl : ¬ (j : Int) < (j : Int) := by omega
          have HS := Lib.hid hS
          have HC := Lib.hid hC
          obtain ⟨q0, q1, q2, q3, q4, q5, q6⟩ := hx.out.cells
          clear hC hS hF hI hrows hap
          go_wp2_with fail
          refine HC.out.mono ?_
          rintro e w4 ⟨v4, rfl, hown4, hb4⟩
          have HR4 := Lib.hid (hr.out.call hb4)
          have HB4 := Lib.hid (hw.out.trans (hb4.mono hwr))
          have HO4 := Lib.hid (ho.out.kept (Below.grownNone hb4 none) (by cases hv : u7.ownBlock <;> simp))
          have HW4 := Lib.hid hown4
          have HZ4 := Lib.hid hb4.size
          obtain ⟨ga, gc, ja, jc, rfl, -, -⟩ := hown4.read
          clear hb4 hown4 q0 q1 q2 q3 q4 q5 q6 HC
          obtain ⟨s0, s1, s2, s3, s4, s5, s6⟩ := HR4.out.cells
          have e0 := HR4.out.free
          go_wp2_with fail
          refine bodyPost_ret (by simp [results, Tryz.results36, go_sem, *]; try rfl) rfl ?_
          have hz4 := HZ4.out
          have hhx := hx.out.lt
          rw [HLL.out, ← HS.out]
          refine ⟨_, _, j, rfl, ?_, ?_, sets7 HB4.out (Nat.le_refl _) _ _ _ _ _ _ _⟩
          · rw [size_sets7]
            exact ((HW4.out.set7 (.inl (by omega)) _ _ _ _ _ _ _).wide hwr (Nat.le_refl _) (by rw [size_sets7]; exact Nat.le_refl _))
          · exact OwnR.of (lo := w.heap.size + 1) (own_sets7 HO4.out (fun g hg => by have := (HO4.out.lt g hg).1; omega) _ _ _ _ _ _ _) (by omega) (by rw [size_sets7]; omega)
end Go.Proofs.YtmlkdbmhekiniaaGreat
