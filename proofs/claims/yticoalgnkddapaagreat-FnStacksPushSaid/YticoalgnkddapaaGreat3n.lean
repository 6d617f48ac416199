/-
  StacksStep in the model.
-/
import Derived.Test.YticoalgnkddapaaGreat3l
import Derived.Test.YticoalgnkddapaaGreat3e
namespace Go.Proofs.YticoalgnkddapaaGreat
set_option linter.unusedSimpArgs false
set_option linter.unusedVariables false
open Go.RowKit
/-- What StacksStep answers, in memory of its own. -/
def StepOut (b : Bool) (s : Agg.S) (w : World) (e : Ending) (w' : World) : Prop :=
  ∃ v, e = .returned (.tuple #[v, .bool b]) ∧ StkOwn w' w.heap.size w'.heap.size v s ∧ Below w.heap.size w w'
theorem StepOut.zero {w w' : World} (hb : Below w.heap.size w w') : StepOut false Agg.zeroS w (.returned (.tuple #[.agg #[.slice none 0 0, .slice none 0 0, .int .i64 0, .int .i64 0, .int .i64 0, .int .i64 0, .int .i64 0], .bool false])) w' :=
  ⟨_, rfl, ⟨_, _, rfl, ⟨World.ownsRow_nil _ _ _ _, hb.size, Nat.le_refl _, fun g hg => by simp [Value.ownBlock] at hg⟩, ⟨World.ownsRow_nil _ _ _ _, hb.size, Nat.le_refl _, fun g hg => by simp [Value.ownBlock] at hg⟩⟩, hb⟩
theorem sets7 {w wr : World} {c d : Nat} (h : Below d w wr) (hd : d ≤ c) (u0 u1 u2 u3 u4 u5 u6 : Value) :
    Below d w (((((((wr.setCell ⟨c, 0, none⟩ u0).setCell ⟨c, 1, none⟩ u1).setCell ⟨c, 2, none⟩ u2).setCell ⟨c, 3, none⟩ u3).setCell ⟨c, 4, none⟩ u4).setCell ⟨c, 5, none⟩ u5).setCell ⟨c, 6, none⟩ u6) :=
  ((((((h.setCell hd u0).setCell hd u1).setCell hd u2).setCell hd u3).setCell hd u4).setCell hd u5).setCell hd u6
theorem StkOwn.set7 {wr : World} {lo hi c : Nat} {v : Value} {s : Agg.S} (h : StkOwn wr lo hi v s) (hd : c < lo ∨ hi ≤ c) (u0 u1 u2 u3 u4 u5 u6 : Value) :
    StkOwn (((((((wr.setCell ⟨c, 0, none⟩ u0).setCell ⟨c, 1, none⟩ u1).setCell ⟨c, 2, none⟩ u2).setCell ⟨c, 3, none⟩ u3).setCell ⟨c, 4, none⟩ u4).setCell ⟨c, 5, none⟩ u5).setCell ⟨c, 6, none⟩ u6) lo hi v s := by
  obtain ⟨fv, iv, hv, h1, h2⟩ := h
  exact ⟨fv, iv, hv, ((((((h1.set hd).set hd).set hd).set hd).set hd).set hd).set hd, ((((((h2.set hd).set hd).set hd).set hd).set hd).set hd).set hd⟩
theorem StkOwn.wide {w : World} {lo hi lo' hi' : Nat} {v : Value} {s : Agg.S} (h : StkOwn w lo hi v s) (h1 : lo' ≤ lo) (h2 : hi ≤ hi') (h3 : hi' ≤ w.heap.size) : StkOwn w lo' hi' v s := by
  obtain ⟨fv, iv, hv, g1, g2⟩ := h
  exact ⟨fv, iv, hv, g1.wide h1 h2 h3, g2.wide h1 h2 h3⟩
theorem size_sets7 {wr : World} {c : Nat} (u0 u1 u2 u3 u4 u5 u6 : Value) : (((((((wr.setCell ⟨c, 0, none⟩ u0).setCell ⟨c, 1, none⟩ u1).setCell ⟨c, 2, none⟩ u2).setCell ⟨c, 3, none⟩ u3).setCell ⟨c, 4, none⟩ u4).setCell ⟨c, 5, none⟩ u5).setCell ⟨c, 6, none⟩ u6).heap.size = wr.heap.size := by simp [World.setCell]
set_option maxRecDepth 8000 in
set_option maxHeartbeats 2000000 in
theorem s_stacksStep_any (k : Int) (fa : Option Addr) (fn fc : Nat) (ia : Option Addr) (m ic : Nat) (bx by' bz fl co : Int) (F : List Agg.V) (I : List Int) (p : Bool) (x : Int) (w : World) (hF : Vals w fa fn fc F) (hI : Nums .i64 w ia m ic I) (h1 : fn ≤ 1048576) (h2 : m ≤ 1048576) :
    Calls Tryz.prog 24 #[.int .i64 k, .agg #[.slice fa fn fc, .slice ia m ic, .int .i64 bx, .int .i64 by', .int .i64 bz, .int .i64 fl, .int .i64 co], .agg #[.bool p, .int .i64 x]] w (StepOut (Agg.stepOk k ⟨F, I, ⟨bx, by', bz⟩, fl, co⟩ (p, x)) (Agg.aStep k ⟨F, I, ⟨bx, by', bz⟩, fl, co⟩ (p, x)) w) := by
  obtain ⟨W, hW⟩ : ∃ W, W = ((w.alloc (.cells #[.slice fa fn fc, .slice ia m ic, .int .i64 bx, .int .i64 by', .int .i64 bz, .int .i64 fl, .int .i64 co] 31)).alloc (.cells #[.bool p, .int .i64 x] 43)).alloc (.cells #[.slice none 0 0, .slice none 0 0, .int .i64 0, .int .i64 0, .int .i64 0, .int .i64 0, .int .i64 0] 31) := ⟨_, rfl⟩
  have HA := Lib.hid (show Box7 W w.heap.size 31 (.slice fa fn fc) (.slice ia m ic) (.int .i64 bx) (.int .i64 by') (.int .i64 bz) (.int .i64 fl) (.int .i64 co) from by rw [hW]; exact ((Box7.new w _ _ _ _ _ _ _ _).alloc _).alloc _)
  have HP := Lib.hid (show Box2 W (w.heap.size + 1) 43 (.bool p) (.int .i64 x) from by rw [hW]; exact (Box2.new1 _ _ _ (by simp)).alloc _)
  have HR := Lib.hid (show Box7 W (w.heap.size + 1 + 1) 31 (.slice none 0 0) (.slice none 0 0) (.int .i64 0) (.int .i64 0) (.int .i64 0) (.int .i64 0) (.int .i64 0) from by rw [hW]; exact Box7.new1 _ _ _ _ _ _ _ _ (by simp))
  have HB := Lib.hid (show Below w.heap.size w W from by rw [hW]; exact (((Below.refl _ _).alloc (Nat.le_refl _) _).alloc (by simp) _).alloc (by simp; omega) _)
  have hFl : F.length = fn := hF.1
  have hIl : I.length = m := hI.1
  have hV := fun w hF hI => s_stacksValid_any k fa fn fc ia m ic bx by' bz fl co F I w hF hI (by omega) (by omega)
  have HF := Lib.hid (hF.below HB.out)
  have HI := Lib.hid (hI.below HB.out)
  have HFL := Lib.hid hFl
  have HIL := Lib.hid hIl
  clear hF hI hFl hIl
  cases hok : Agg.sOk k ⟨F, I, ⟨bx, by', bz⟩, fl, co⟩
  · have e1 : Agg.stepOk k ⟨F, I, ⟨bx, by', bz⟩, fl, co⟩ (p, x) = false := by simp [Agg.stepOk, hok]
    have e2 : Agg.aStep k ⟨F, I, ⟨bx, by', bz⟩, fl, co⟩ (p, x) = Agg.zeroS := by simp [Agg.aStep, e1]
    rw [e1, e2]
    rw [hok] at hV
    have HV := Lib.hid hV
    clear e1 e2 hV hok
    go_enter Tryz.func24, Tryz.ntmps24
    go_wp2_with fail
    rw [← hW]
    clear hW
    refine (HV.out _ HF.out HI.out).mono ?_
    rintro e w1 ⟨rfl, hb1⟩
    have HR1 := Lib.hid (HR.out.call hb1)
    have HB1 := Lib.hid (HB.out.trans (hb1.mono HB.out.size))
    obtain ⟨s0, s1, s2, s3, s4, s5, s6⟩ := HR1.out.cells
    have e0 := HR1.out.free
    clear hb1
    go_wp2_with fail
    refine bodyPost_ret (by simp [results, Tryz.results24, go_sem, *]; try rfl) rfl ?_
    exact StepOut.zero (sets7 HB1.out (by omega) _ _ _ _ _ _ _)
  · rw [hok] at hV
    have HV := Lib.hid hV
    have HOK := Lib.hid hok
    have hbd := Agg.sOk_bounds hok
    simp only at hbd
    obtain ⟨hf0, hf1, hc0, hc1⟩ := hbd
    clear hV
    by_cases hfl : 900000 < fl
    · have e1 : Agg.stepOk k ⟨F, I, ⟨bx, by', bz⟩, fl, co⟩ (p, x) = false := by simp [Agg.stepOk, hok]; intro h; omega
      have e2 : Agg.aStep k ⟨F, I, ⟨bx, by', bz⟩, fl, co⟩ (p, x) = Agg.zeroS := by simp [Agg.aStep, e1]
      rw [e1, e2]
      clear e1 e2 hok
      go_enter Tryz.func24, Tryz.ntmps24
      go_wp2_with fail
      rw [← hW]
      clear hW
      refine (HV.out _ HF.out HI.out).mono ?_
      rintro e w1 ⟨rfl, hb1⟩
      have HA1 := Lib.hid (HA.out.call hb1)
      have HR1 := Lib.hid (HR.out.call hb1)
      have HB1 := Lib.hid (HB.out.trans (hb1.mono HB.out.size))
      obtain ⟨q0, q1, q2, q3, q4, q5, q6⟩ := HA1.out.cells
      obtain ⟨s0, s1, s2, s3, s4, s5, s6⟩ := HR1.out.cells
      have e0 := HR1.out.free
      clear hb1
      go_wp2_with fail
      refine bodyPost_ret (by simp [results, Tryz.results24, go_sem, *]; try rfl) rfl ?_
      exact StepOut.zero (sets7 HB1.out (by omega) _ _ _ _ _ _ _)
    · by_cases hcm : 900000 < co
      · have e1 : Agg.stepOk k ⟨F, I, ⟨bx, by', bz⟩, fl, co⟩ (p, x) = false := by simp [Agg.stepOk, hok]; intro h h'; omega
        have e2 : Agg.aStep k ⟨F, I, ⟨bx, by', bz⟩, fl, co⟩ (p, x) = Agg.zeroS := by simp [Agg.aStep, e1]
        rw [e1, e2]
        clear e1 e2 hok
        go_enter Tryz.func24, Tryz.ntmps24
        go_wp2_with fail
        rw [← hW]
        clear hW
        refine (HV.out _ HF.out HI.out).mono ?_
        rintro e w1 ⟨rfl, hb1⟩
        have HA1 := Lib.hid (HA.out.call hb1)
        have HR1 := Lib.hid (HR.out.call hb1)
        have HB1 := Lib.hid (HB.out.trans (hb1.mono HB.out.size))
        obtain ⟨q0, q1, q2, q3, q4, q5, q6⟩ := HA1.out.cells
        obtain ⟨s0, s1, s2, s3, s4, s5, s6⟩ := HR1.out.cells
        have e0 := HR1.out.free
        clear hb1
        go_wp2_with fail
        refine bodyPost_ret (by simp [results, Tryz.results24, go_sem, *]; try rfl) rfl ?_
        exact StepOut.zero (sets7 HB1.out (by omega) _ _ _ _ _ _ _)
      · have e1 : Agg.stepOk k ⟨F, I, ⟨bx, by', bz⟩, fl, co⟩ (p, x) = Agg.can (p, x) (Agg.S.size ⟨F, I, ⟨bx, by', bz⟩, fl, co⟩) := by
          simp only [Agg.stepOk, hok, Bool.true_and]
          rw [decide_eq_true (show fl ≤ 900000 by omega), decide_eq_true (show co ≤ 900000 by omega)]
          simp
        have e2 : Agg.aStep k ⟨F, I, ⟨bx, by', bz⟩, fl, co⟩ (p, x) = if Agg.can (p, x) (Agg.S.size ⟨F, I, ⟨bx, by', bz⟩, fl, co⟩) then Agg.stepS k ⟨F, I, ⟨bx, by', bz⟩, fl, co⟩ (p, x) else Agg.zeroS := by simp [Agg.aStep, e1]
        rw [e1, e2]
        have hST := fun w hF hI => s_l3Step_any k fa fn fc ia m ic bx by' bz fl co F I p x w hF hI hok
        obtain ⟨cb, hcb⟩ : ∃ cb, cb = Agg.can (p, x) (Agg.S.size ⟨F, I, ⟨bx, by', bz⟩, fl, co⟩) := ⟨_, rfl⟩
        rw [← hcb] at hST ⊢
        obtain ⟨S', hS'⟩ : ∃ S', S' = Agg.stepS k ⟨F, I, ⟨bx, by', bz⟩, fl, co⟩ (p, x) := ⟨_, rfl⟩
        rw [← hS'] at hST ⊢
        have HST := Lib.hid hST
        have HS' := Lib.hid hS'
        obtain ⟨R', hR'⟩ : ∃ R', R' = (if cb = true then S' else Agg.zeroS) := ⟨_, rfl⟩
        rw [← hR']
        have HRR := Lib.hid hR'
        clear e1 e2 hok hST hcb hS' hR'
        go_enter Tryz.func24, Tryz.ntmps24
        go_wp2_with fail
        rw [← hW]
        clear hW
        refine (HV.out _ HF.out HI.out).mono ?_
        rintro e w1 ⟨rfl, hb1⟩
        have HA1 := Lib.hid (HA.out.call hb1)
        have HP1 := Lib.hid (HP.out.call hb1)
        have HR1 := Lib.hid (HR.out.call hb1)
        have HF1 := Lib.hid (HF.out.below hb1)
        have HI1 := Lib.hid (HI.out.below hb1)
        have HB1 := Lib.hid (HB.out.trans (hb1.mono HB.out.size))
        have HWS := Lib.hid HR.out.lt
        obtain ⟨q0, q1, q2, q3, q4, q5, q6⟩ := HA1.out.cells
        obtain ⟨p0, p1⟩ := HP1.out.cells
        clear hb1 HA HP HR HF HI HB
        go_wp2_with fail
        refine (HST.out _ HF1.out HI1.out).mono ?_
        rintro e w2 ⟨ht, hf⟩
        clear q0 q1 q2 q3 q4 q5 q6 p0 p1
        cases cb
        · obtain ⟨rfl, hb2⟩ := hf rfl
          obtain rfl : R' = Agg.zeroS := by rw [HRR.out]; rfl
          have HR2 := Lib.hid (HR1.out.call hb2)
          have HB2 := Lib.hid (HB1.out.trans (hb2.mono HB1.out.size))
          have hl2 := HR2.out.lt
          clear ht hf hb2
          obtain ⟨W3, hW3⟩ : ∃ W3, W3 = w2.alloc (.cells #[.slice fa fn fc, .slice ia m ic, .int .i64 bx, .int .i64 by', .int .i64 bz, .int .i64 fl, .int .i64 co] 31) := ⟨_, rfl⟩
          have HR3 := Lib.hid (show Box7 W3 (w.heap.size + 1 + 1) 31 (.slice none 0 0) (.slice none 0 0) (.int .i64 0) (.int .i64 0) (.int .i64 0) (.int .i64 0) (.int .i64 0) from by rw [hW3]; exact HR2.out.alloc _)
          have HB3 := Lib.hid (show Below w.heap.size w W3 from by rw [hW3]; exact HB2.out.alloc HB2.out.size _)
          go_upto_region 4 with (fail)
          rw [← hW3]
          clear hW3
          obtain ⟨s0, s1, s2, s3, s4, s5, s6⟩ := HR3.out.cells
          have e0 := HR3.out.free
          go_wp2_with fail
          refine bodyPost_ret (by simp [results, Tryz.results24, go_sem, *]; try rfl) rfl ?_
          exact StepOut.zero (sets7 HB3.out (by omega) _ _ _ _ _ _ _)
        · obtain ⟨v2, rfl, hown, hb2⟩ := ht rfl
          obtain rfl : S' = R' := by rw [HRR.out]; rfl
          clear HRR
          have hsz2 := hb2.size
          have HR2 := Lib.hid (HR1.out.call hb2)
          have HB2 := Lib.hid (HB1.out.trans (hb2.mono HB1.out.size))
          obtain ⟨ga, gc, ja, jc, rfl, hGF, hGI⟩ := hown.read
          have hl2 := HR2.out.lt
          have HGF := Lib.hid hGF
          have HGI := Lib.hid hGI
          have hs60 : S'.front.length ≤ 61 ∧ S'.items.length ≤ 61 := by
            have hsz := (Agg.sOk_parts HOK.out).2.1
            rw [HS'.out]
            simp only [Agg.S.size] at hsz
            cases p <;> simp only [Agg.stepS, Bool.false_eq_true, if_false, if_true, Agg.popS, Agg.pushS, Agg.readyS]
            · split <;> simp [Agg.flipS, Agg.sufs_length] <;> omega
            · simp; omega
          clear ht hf hb2 hown hGF hGI
          obtain ⟨F', I', ⟨X, Y, Z⟩, FL, CO⟩ := S'
          simp only at *
          obtain ⟨W3, hW3⟩ : ∃ W3, W3 = w2.alloc (.cells #[.slice ga F'.length gc, .slice ja I'.length jc, .int .i64 X, .int .i64 Y, .int .i64 Z, .int .i64 FL, .int .i64 CO] 31) := ⟨_, rfl⟩
          have hbn := (Below.refl w2.heap.size w2).alloc (Nat.le_refl _) (.cells #[.slice ga F'.length gc, .slice ja I'.length jc, .int .i64 X, .int .i64 Y, .int .i64 Z, .int .i64 FL, .int .i64 CO] 31)
          rw [← hW3] at hbn
          have HR3 := Lib.hid (HR2.out.call hbn)
          have HB3 := Lib.hid (HB2.out.trans (hbn.mono HB2.out.size))
          have HF3 := Lib.hid (HGF.out.below hbn)
          have HI3 := Lib.hid (HGI.out.below hbn)
          have HX3 := Lib.hid (show Box7 W3 w2.heap.size 31 (.slice ga F'.length gc) (.slice ja I'.length jc) (.int .i64 X) (.int .i64 Y) (.int .i64 Z) (.int .i64 FL) (.int .i64 CO) from by rw [hW3]; exact Box7.new w2 _ _ _ _ _ _ _ _)
          clear hbn HR2 HB2 HGF HGI
          go_upto_region 4 with (fail)
          rw [← hW3]
          clear hW3
          obtain ⟨o0, o1, o2, o3, o4, o5, o6⟩ := HX3.out.cells
          go_wp2_with fail
          refine (s_l3Copy_any ga F'.length gc ja I'.length jc X Y Z FL CO F' I' _ HF3.out HI3.out (by omega) (by omega)).mono ?_
          rintro e w4 ⟨v4, rfl, hown4, hb4⟩
          have HR4 := Lib.hid (HR3.out.call hb4)
          have HB4 := Lib.hid (HB3.out.trans (hb4.mono HB3.out.size))
          have HO4 := Lib.hid hown4
          have HL3 := Lib.hid HR3.out.lt
          have HZ4 := Lib.hid hb4.size
          obtain ⟨ga4, gc4, ja4, jc4, rfl, -, -⟩ := hown4.read
          simp only at *
          obtain ⟨s0, s1, s2, s3, s4, s5, s6⟩ := HR4.out.cells
          have e0 := HR4.out.free
          clear hb4 hown4 o0 o1 o2 o3 o4 o5 o6
          go_wp2_with fail
          refine bodyPost_ret (by simp [results, Tryz.results24, go_sem, *]; try rfl) rfl ?_
          have hl3 := HL3.out
          have hz4 := HZ4.out
          refine ⟨_, rfl, ?_, sets7 HB4.out (by omega) _ _ _ _ _ _ _⟩
          rw [size_sets7]
          exact ((HO4.out.set7 (.inl (by omega)) _ _ _ _ _ _ _).wide (by have := HB3.out.size; omega) (by omega) (by rw [size_sets7]; exact Nat.le_refl _))
end Go.Proofs.YticoalgnkddapaaGreat
