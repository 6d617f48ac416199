/-
  The model's change of stacks: an item goes behind a flip.
-/
import Derived.Test.YticoalgnkddapaaGreat3d
namespace Go.Proofs.YticoalgnkddapaaGreat
set_option linter.unusedSimpArgs false
set_option linter.unusedVariables false
open Go.RowKit
theorem own_box_ne {w : World} {base e size n on : Nat} {v : Value} {xs : List Value} {T : TypeId} {v0 v1 v2 v3 v4 v5 v6 : Value} (h : w.ownsRow base e size v n xs) (hb : Box7 w on T v0 v1 v2 v3 v4 v5 v6) (he : e ≠ T) : ∀ g, v.ownBlock = some g → g ≠ on := by
  intro g hg hgo
  subst hgo
  obtain ⟨cur, hc⟩ := row_block h hg
  unfold Box7 at hb
  rw [hb] at hc
  simp only [Option.some.injEq, Obj.cells.injEq] at hc
  exact he hc.2.1.symm
theorem own_cap {w : World} {base e size n c : Nat} {a : Option Addr} {xs : List Value} (h : w.ownsRow base e size (.slice a n c) n xs) (hn : 0 < n) : n ≤ c ∧ c ≤ 9223372036854775807 := by
  obtain ⟨g, c', e, -, -, h1, h2⟩ := b_own_some h hn
  simp only [Value.slice.injEq] at e
  omega
theorem Agg.sOk_bounds {k : Int} {s : Agg.S} (h : Agg.sOk k s = true) : 0 ≤ s.flips ∧ s.flips ≤ 1000000 ∧ 0 ≤ s.cost ∧ s.cost ≤ 1000000 := by
  simp only [Agg.sOk, Bool.and_eq_true, decide_eq_true_eq] at h
  omega
theorem Agg.sOk_items' {k : Int} {s : Agg.S} (h : Agg.sOk k s = true) : Agg.itemsOk s.items = true := by
  simp only [Agg.sOk, Bool.and_eq_true, decide_eq_true_eq] at h
  exact h.1.2
set_option maxRecDepth 8000 in
set_option maxHeartbeats 2000000 in
theorem s_l3Step_flip (k : Int) (fa : Option Addr) (fn fc : Nat) (ia : Option Addr) (m ic : Nat) (bx by' bz fl co : Int) (F : List Agg.V) (I : List Int) (w : World) (hF : Vals w fa fn fc F) (hI : Nums .i64 w ia m ic I) (hok : Agg.sOk k ⟨F, I, ⟨bx, by', bz⟩, fl, co⟩ = true) (hn0 : fn = 0) (hm0 : 0 < m) :
    Calls Tryz.prog 44 #[.int .i64 k, .agg #[.slice fa fn fc, .slice ia m ic, .int .i64 bx, .int .i64 by', .int .i64 bz, .int .i64 fl, .int .i64 co], .agg #[.bool false, .int .i64 0]] w (SteppedStk (Agg.popS (Agg.flipS k ⟨F, I, ⟨bx, by', bz⟩, fl, co⟩)) w) := by
  obtain ⟨i0, hi, hz0, hz1, hz2⟩ := info_parts infoInt
  subst hn0
  obtain rfl : F = [] := List.eq_nil_of_length_eq_zero hF.1
  have hFl : ([] : List Agg.V).length = 0 := rfl
  have hIl : I.length = m := hI.1
  have HF := Lib.hid hF
  have HI := Lib.hid hI
  have HOK := Lib.hid hok
  have HFL := Lib.hid hFl
  have HIL := Lib.hid hIl
  have hok0 := hok
  clear hF hI hok hFl hIl
  have hco : 0 ≤ co ∧ co ≤ 1000000 := by simp only [Agg.sOk, Bool.and_eq_true, decide_eq_true_eq] at hok0; omega
  obtain ⟨hco0, hco1⟩ := hco
  clear hok0
  obtain ⟨W, hW⟩ : ∃ W, W = ((w.alloc (.cells #[.slice fa 0 fc, .slice ia m ic, .int .i64 bx, .int .i64 by', .int .i64 bz, .int .i64 fl, .int .i64 co] 31)).alloc (.cells #[.bool false, .int .i64 0] 43)).alloc (.cells #[.slice none 0 0, .slice none 0 0, .int .i64 0, .int .i64 0, .int .i64 0, .int .i64 0, .int .i64 0] 31) := ⟨_, rfl⟩
  have HA := Lib.hid (show Box7 W w.heap.size 31 (.slice fa 0 fc) (.slice ia m ic) (.int .i64 bx) (.int .i64 by') (.int .i64 bz) (.int .i64 fl) (.int .i64 co) from by rw [hW]; exact ((Box7.new w _ _ _ _ _ _ _ _).alloc _).alloc _)
  have HP := Lib.hid (show Box2 W (w.heap.size + 1) 43 (.bool false) (.int .i64 0) from by rw [hW]; exact (Box2.new1 _ _ _ (by simp)).alloc _)
  have HR := Lib.hid (show Box7 W (w.heap.size + 1 + 1) 31 (.slice none 0 0) (.slice none 0 0) (.int .i64 0) (.int .i64 0) (.int .i64 0) (.int .i64 0) (.int .i64 0) from by rw [hW]; exact Box7.new1 _ _ _ _ _ _ _ _ (by simp))
  have HB := Lib.hid (show Below w.heap.size w W from by rw [hW]; exact (((Below.refl _ _).alloc (Nat.le_refl _) _).alloc (by simp) _).alloc (by simp; omega) _)
  have hsz1 := HR.out.lt
  go_enter Tryz.func44, Tryz.ntmps44
  go_wp2_with fail
  rw [← hW]
  clear hW
  refine (s_l3Copy_any fa 0 fc ia m ic bx by' bz fl co [] I _ (HF.out.below HB.out) (HI.out.below HB.out) (by omega) (by have := (Agg.sOk_parts HOK.out).2.1; simp [Agg.S.size] at this; have := HIL.out; omega)).mono ?_
  rintro e w1 ⟨v, rfl, ⟨fv, iv, rfl, hOF, hOI⟩, hb1⟩
  have hs1 := hb1.size
  have HA1 := Lib.hid (HA.out.call hb1)
  have HP1 := Lib.hid (HP.out.call hb1)
  have HR1 := Lib.hid (HR.out.call hb1)
  have HB1 := Lib.hid (HB.out.trans (hb1.mono HB.out.size))
  obtain ⟨ga, gc, rfl, hgv⟩ := hOF.vals
  obtain ⟨ja, jc, rfl, -, -⟩ := hOI.nums
  simp only at *
  have HOF := Lib.hid hOF.1
  have HOI := Lib.hid hOI.1
  have HGF := Lib.hid hOF.2.2.2
  have HGI := Lib.hid hOI.2.2.2
  clear hb1 hOF hOI HA HP HR HB hgv
  obtain ⟨p0, p1⟩ := HP1.out.cells
  obtain ⟨q0, q1, q2, q3, q4, q5, q6⟩ := HA1.out.cells
  have hl1 := HR1.out.lt
  have hl0 : w.heap.size < w1.heap.size := by omega
  have hl2 : w.heap.size + 1 < w1.heap.size := by omega
  obtain ⟨W2, hW2⟩ : ∃ W2, W2 = w1.alloc (.cells #[.slice ga 0 gc, .slice ja I.length jc, .int .i64 bx, .int .i64 by', .int .i64 bz, .int .i64 fl, .int .i64 co] 31) := ⟨_, rfl⟩
  have HA2 := Lib.hid (show Box7 W2 w.heap.size 31 (.slice fa 0 fc) (.slice ia m ic) (.int .i64 bx) (.int .i64 by') (.int .i64 bz) (.int .i64 fl) (.int .i64 co) from by rw [hW2]; exact HA1.out.alloc _)
  have HP2 := Lib.hid (show Box2 W2 (w.heap.size + 1) 43 (.bool false) (.int .i64 0) from by rw [hW2]; exact HP1.out.alloc _)
  have HR2 := Lib.hid (show Box7 W2 (w.heap.size + 1 + 1) 31 (.slice none 0 0) (.slice none 0 0) (.int .i64 0) (.int .i64 0) (.int .i64 0) (.int .i64 0) (.int .i64 0) from by rw [hW2]; exact HR1.out.alloc _)
  have HO2 := Lib.hid (show Box7 W2 w1.heap.size 31 (.slice ga 0 gc) (.slice ja I.length jc) (.int .i64 bx) (.int .i64 by') (.int .i64 bz) (.int .i64 fl) (.int .i64 co) from by rw [hW2]; exact Box7.new w1 _ _ _ _ _ _ _ _)
  have HB2 := Lib.hid (show Below w.heap.size w W2 from by rw [hW2]; exact HB1.out.alloc HB1.out.size _)
  have HF2 := Lib.hid (show W2.ownsRow W.heap.size 29 3 (.slice ga 0 gc) 0 (valRow []) from by rw [hW2]; exact HOF.out.alloc _)
  have HI2 := Lib.hid (show W2.ownsRow W.heap.size 3 1 (.slice ja I.length jc) I.length (I.map (Value.int .i64)) from by rw [hW2]; exact HOI.out.alloc _)
  have hs2 : W2.heap.size = w1.heap.size + 1 := by rw [hW2]; simp
  have HS2 := Lib.hid hs2
  clear hs2
  have HC2 := Lib.hid (show W.heap.size ≤ w1.heap.size from hs1)
  have hbW : W.heap.size ≤ W2.heap.size := by have := HS2.out; have := HC2.out; omega
  have hbW' := Lib.hid hbW
  clear hbW
  have HSB := Lib.hid (Agg.sOk_bounds HOK.out)
  have HFLI := Lib.hid (fun w hrow hI hb => s_l3Flip_any k (Agg.sOk_parts HOK.out).1 W.heap.size ga gc ja I.length jc bx by' bz fl co I w hrow hI (Agg.sOk_items' HOK.out) hb HSB.out.1 HSB.out.2.1 HSB.out.2.2.1 HSB.out.2.2.2)
  have hm1 : ¬ (m = 0) := by omega
  have hm2 : ¬ ((m : Int) = 0) := by omega
  have HM0 := Lib.hid hm0
  have hm60 : m ≤ 60 := by have := (Agg.sOk_parts HOK.out).2.1; have := HIL.out; simp [Agg.S.size] at *; omega
  have hwr2 : IntKind.i64.wrap ((m : Int)) = (m : Int) := IntWalk.i64_in _ (by omega)
  go_upto_region 2 with (fail)
  rw [← hW2]
  clear hW2 p0 p1 q0 q1 q2 q3 q4 q5 q6
  obtain ⟨p0, p1⟩ := HP2.out.cells
  obtain ⟨q0, q1, q2, q3, q4, q5, q6⟩ := HA2.out.cells
  obtain ⟨o0, o1, o2, o3, o4, o5, o6⟩ := HO2.out.cells
  go_wp2_with fail
  refine (HFLI.out _ HF2.out HI2.out hbW'.out).mono ?_
  rintro e w3 ⟨xa, ya, xc, yc, rfl, hxo, hyo, hb3, hg3⟩
  have HW := Lib.hid hsz1
  have hw1 := HW.out
  have hc2 := HC2.out
  have HA3 := Lib.hid (HA2.out.below hb3 (by omega))
  have HP3 := Lib.hid (show Box2 w3 (w.heap.size + 1) 43 (.bool false) (.int .i64 0) from (hb3.block _ (by omega)).trans HP2.out)
  have HR3 := Lib.hid (HR2.out.below hb3 (by omega))
  have HO3 := Lib.hid (HO2.out.grown hg3 (fun e => by have := HGF.out _ e; omega))
  have HB3 := Lib.hid (HB2.out.trans (hb3.mono (by omega)))
  have HX3 := Lib.hid hxo
  have HY3 := Lib.hid hyo
  clear hb3 hg3 hxo hyo p0 p1 q0 q1 q2 q3 q4 q5 q6 o0 o1 o2 o3 o4 o5 o6 HA2 HP2 HR2 HO2 HB2 HF2 HI2
  have hxn := own_box_ne HX3.out HO3.out (by decide)
  have hyn := own_box_ne HY3.out HO3.out (by decide)
  have HXN := Lib.hid hxn
  have HYN := Lib.hid hyn
  clear hxn hyn
  have hlon := HO3.out.lt
  obtain ⟨o0, o1, o2, o3, o4, o5, o6⟩ := HO3.out.cells
  have of := HO3.out.free
  obtain ⟨⟨ux, uy, uz⟩, hU⟩ : ∃ U, U = Agg.unit k := ⟨_, rfl⟩
  rw [← hU]
  have HU := Lib.hid hU
  clear hU
  go_upto_region 13 with (fail)
  obtain ⟨W4, hW4⟩ : ∃ W4, W4 = ((((((w3.setCell ⟨w1.heap.size, 0, none⟩ (.slice xa I.length xc)).setCell ⟨w1.heap.size, 1, none⟩ (.slice ya 0 yc)).setCell ⟨w1.heap.size, 2, none⟩ (.int .i64 ux)).setCell ⟨w1.heap.size, 3, none⟩ (.int .i64 uy)).setCell ⟨w1.heap.size, 4, none⟩ (.int .i64 uz)).setCell ⟨w1.heap.size, 5, none⟩ (.int .i64 (fl + 1))).setCell ⟨w1.heap.size, 6, none⟩ (.int .i64 (co + I.length)) := ⟨_, rfl⟩
  have HST4 := Lib.hid (show StepSt w W.heap.size w1.heap.size (.slice fa 0 fc) (.slice ia m ic) bx by' bz fl co false 0 (.slice xa I.length xc) (.slice ya 0 yc) I.length 0 (valRow (Agg.sufs k I I.length)) [] ⟨ux, uy, uz⟩ (fl + 1) (co + I.length) W4 from by
    rw [hW4]
    exact ⟨((((((HA3.out.other (by omega) _ _).other (by omega) _ _).other (by omega) _ _).other (by omega) _ _).other (by omega) _ _).other (by omega) _ _).other (by omega) _ _, ((((((HP3.out.other (by omega) _ _).other (by omega) _ _).other (by omega) _ _).other (by omega) _ _).other (by omega) _ _).other (by omega) _ _).other (by omega) _ _, ((((((HR3.out.other (by omega) _ _).other (by omega) _ _).other (by omega) _ _).other (by omega) _ _).other (by omega) _ _).other (by omega) _ _).other (by omega) _ _,
      ((((((HO3.out.set0 _).set1 _).set2 _).set3 _).set4 _).set5 _).set6 _,
      own_set_ne (own_set_ne (own_set_ne (own_set_ne (own_set_ne (own_set_ne (own_set_ne HX3.out HXN.out) HXN.out) HXN.out) HXN.out) HXN.out) HXN.out) HXN.out,
      own_set_ne (own_set_ne (own_set_ne (own_set_ne (own_set_ne (own_set_ne (own_set_ne HY3.out HYN.out) HYN.out) HYN.out) HYN.out) HYN.out) HYN.out) HYN.out,
      ((((((HB3.out.setCell (show w.heap.size ≤ w1.heap.size by omega) _).setCell (show w.heap.size ≤ w1.heap.size by omega) _).setCell (show w.heap.size ≤ w1.heap.size by omega) _).setCell (show w.heap.size ≤ w1.heap.size by omega) _).setCell (show w.heap.size ≤ w1.heap.size by omega) _).setCell (show w.heap.size ≤ w1.heap.size by omega) _).setCell (show w.heap.size ≤ w1.heap.size by omega) _⟩)
  rw [← hW4]
  clear hW4 HA3 HP3 HR3 HO3 HB3 HX3 HY3 o0 o1 o2 o3 o4 o5 o6 of
  have hin : 0 < I.length := by have := HIL.out; have := HM0.out; omega
  have HIN := Lib.hid hin
  obtain ⟨xcap1, xcap2⟩ := own_cap HST4.out.f hin
  have hi60 : I.length ≤ 60 := by have := HIL.out; omega
  have hlast : (0 : Int) ≤ (I.length : Int) - 1 := by omega
  have hlt1 : (I.length : Int) - 1 ≤ (xc : Int) := by omega
  have htn : ((I.length : Int) - 1).toNat = I.length - 1 := by omega
  have hwr : IntKind.i64.wrap ((I.length : Int) - 1) = (I.length : Int) - 1 := IntWalk.i64_in _ (by omega)
  have HST9 := Lib.hid (HST4.out.shorter (k := I.length - 1) HW.out HC2.out HXN.out HYN.out (by omega) hin)
  obtain ⟨o0, o1, o2, o3, o4, o5, o6⟩ := HST4.out.o.cells
  obtain ⟨s0, s1, s2, s3, s4, s5, s6⟩ := HST4.out.r.cells
  have f0 := HST4.out.o.free 0
  have e0 := HST4.out.r.free 0
  have e1 := HST4.out.r.free 1
  have e2 := HST4.out.r.free 2
  have e3 := HST4.out.r.free 3
  have e4 := HST4.out.r.free 4
  have e5 := HST4.out.r.free 5
  have e6 := HST4.out.r.free 6
  have hd3 : w1.heap.size ≠ w.heap.size + 1 + 1 := by omega
  have hd2 : w.heap.size + 1 + 1 ≠ w1.heap.size := by omega
  have HDS := Lib.hid (show Agg.popS (Agg.flipS k ⟨[], I, ⟨bx, by', bz⟩, fl, co⟩) = ⟨(Agg.sufs k I I.length).take (I.length - 1), [], ⟨ux, uy, uz⟩, fl + 1, co + I.length⟩ from by simp [Agg.popS, Agg.flipS, Agg.sufs_length, HU.out])
  clear hin hm1 hm2 hm60 hwr2 xcap1 xcap2 hi60
  go_wp2_with fail
  refine bodyPost_ret (by simp [results, Tryz.results44, go_sem, *]; try rfl) rfl ?_
  rw [HDS.out]
  exact HST9.out.done (F' := (Agg.sufs k I I.length).take (I.length - 1)) HW.out (by rw [List.length_take, Agg.sufs_length]; omega) rfl (valRow_take _ _) rfl _ _ _ _ _ _ _
end Go.Proofs.YticoalgnkddapaaGreat
