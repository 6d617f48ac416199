/-
  The law FnStacksFlips, walked.
-/
import Derived.Test.YticoalgnkddapaaGreatSa
import Derived.Test.YticoalgnkddapaaGreat3q
import Derived.Test.YticoalgnkddapaaGreat3y
import Derived.Deep.Cut
namespace Go.Proofs.YticoalgnkddapaaGreat
set_option linter.unusedSimpArgs false
set_option linter.unusedVariables false
open Go.RowKit
/-- What a change that is made leaves of the counters. -/
theorem Agg.step_counts {k : Int} {s : Agg.S} {p : Bool} {x : Int} :
    (p = true → (Agg.stepS k s (p, x)).flips = s.flips ∧ (Agg.stepS k s (p, x)).cost = s.cost + 1 ∧ (Agg.stepS k s (p, x)).front.length + (Agg.stepS k s (p, x)).items.length = s.front.length + s.items.length + 1) ∧
    (p = false → 0 < s.front.length → (Agg.stepS k s (p, x)).flips = s.flips ∧ (Agg.stepS k s (p, x)).cost = s.cost) ∧
    (p = false → s.front.length = 0 → (Agg.stepS k s (p, x)).flips = s.flips + 1 ∧ (Agg.stepS k s (p, x)).cost = s.cost + s.items.length ∧ (Agg.stepS k s (p, x)).items.length = 0) := by
  refine ⟨?_, ?_, ?_⟩
  · rintro rfl
    simp [Agg.stepS, Agg.pushS]
    omega
  · rintro rfl h
    have h0 : ¬ s.front.length = 0 := by omega
    simp [Agg.stepS, Agg.readyS, Agg.popS, h0]
  · rintro rfl h
    simp [Agg.stepS, Agg.readyS, Agg.popS, Agg.flipS, h]
theorem Agg.stepOk_bounds {k : Int} {s : Agg.S} {o : Bool × Int} (h : Agg.stepOk k s o = true) : 0 ≤ s.flips ∧ s.flips ≤ 1000000 ∧ 0 ≤ s.cost ∧ s.cost ≤ 1000000 ∧ s.front.length + s.items.length ≤ 60 := by
  simp only [Agg.stepOk, Bool.and_eq_true] at h
  have h1 := Agg.sOk_bounds h.1.1.1
  have h2 := (Agg.sOk_parts h.1.1.1).2.1
  simp only [Agg.S.size] at h2
  omega
set_option maxRecDepth 8000 in
set_option maxHeartbeats 4000000 in
theorem law_FnStacksFlips (a : Option Addr) (n cap : Nat) (zs : List Int) (w : World) (hrow : IsRow .u8 w a n cap zs) :
    Calls Tryz.prog 9 #[.slice a n cap] w fun e w' => e = .returned (.bool true) ∧ Below w.heap.size w w' := by
  have HB := Lib.hid (Bytes.of_row hrow)
  have hm : cap ≤ 9223372036854775807 := HB.out.2.1
  have hnc : n ≤ cap := HB.out.1
  clear hrow
  by_cases hn : n ≤ 1048576
  · go_enter Tryz.func9, Tryz.ntmps9
    go_wp2_with fail
    refine (drawStacksStep_any _ _ _ _ _ HB.out).mono ?_
    rintro e w1 ⟨k, v1, s, p, x, rfl, hs1, hsm, hb1⟩
    obtain ⟨fa, fc, ia, ic, rfl, hV, hN⟩ := hs1.read
    obtain ⟨F, I, ⟨bx, by', bz⟩, fl, co⟩ := s
    simp only at hV hN hsm
    obtain ⟨hf60, hi60⟩ := hsm
    have h1 := fun w h h' => stacksStep_any k fa F.length fc ia I.length ic bx by' bz fl co F I p x w h h' (by omega) (by omega)
    have h2 := fun w h h' => s_stacksStep_any k fa F.length fc ia I.length ic bx by' bz fl co F I p x w h h' (by omega) (by omega)
    obtain ⟨⟨SF, SI, ⟨X, Y, Z⟩, SL, SO⟩, hS⟩ : ∃ S, S = Agg.aStep k ⟨F, I, ⟨bx, by', bz⟩, fl, co⟩ (p, x) := ⟨_, rfl⟩
    obtain ⟨b, hb⟩ : ∃ b, b = Agg.stepOk k ⟨F, I, ⟨bx, by', bz⟩, fl, co⟩ (p, x) := ⟨_, rfl⟩
    rw [← hS, ← hb] at h1 h2
    have H1 := Lib.hid h1
    have H2 := Lib.hid h2
    have HS := Lib.hid hS
    have HBB := Lib.hid hb
    obtain ⟨W1, hW1⟩ : ∃ W1, W1 = (w1.alloc (.cells #[.slice fa F.length fc, .slice ia I.length ic, .int .i64 bx, .int .i64 by', .int .i64 bz, .int .i64 fl, .int .i64 co] 31)).alloc (.cells #[.bool p, .int .i64 x] 43) := ⟨_, rfl⟩
    have hb11 : Below w1.heap.size w1 W1 := by rw [hW1]; exact ((Below.refl _ _).alloc (Nat.le_refl _) _).alloc (by simp) _
    have HX := Lib.hid (show Box7 W1 w1.heap.size 31 (.slice fa F.length fc) (.slice ia I.length ic) (.int .i64 bx) (.int .i64 by') (.int .i64 bz) (.int .i64 fl) (.int .i64 co) from by rw [hW1]; exact (Box7.new w1 _ _ _ _ _ _ _ _).alloc _)
    have HP := Lib.hid (show Box2 W1 (w1.heap.size + 1) 43 (.bool p) (.int .i64 x) from by rw [hW1]; exact Box2.new1 _ _ _ (by simp))
    have HV := Lib.hid (hV.below hb11)
    have HN := Lib.hid (hN.below hb11)
    have HW := Lib.hid (hb1.trans (hb11.mono hb1.size))
    clear h1 h2 hS hb hV hN hs1 hb1 hb11 HB
    go_wp2_with fail
    rw [← hW1]
    clear hW1
    refine (H1.out _ HV.out HN.out).mono ?_
    rintro e w2 ⟨v2, rfl, r2, hb2⟩
    obtain ⟨fa2, fc2, ia2, ic2, rfl, hQV, hQN⟩ := r2.read
    obtain ⟨W2, hW2⟩ : ∃ W2, W2 = w2.alloc (.cells #[.slice fa2 SF.length fc2, .slice ia2 SI.length ic2, .int .i64 X, .int .i64 Y, .int .i64 Z, .int .i64 SL, .int .i64 SO] 31) := ⟨_, rfl⟩
    have hb22 : Below w2.heap.size w2 W2 := by rw [hW2]; exact (Below.refl _ _).alloc (Nat.le_refl _) _
    have HQ := Lib.hid (show Box7 W2 w2.heap.size 31 (.slice fa2 SF.length fc2) (.slice ia2 SI.length ic2) (.int .i64 X) (.int .i64 Y) (.int .i64 Z) (.int .i64 SL) (.int .i64 SO) from by rw [hW2]; exact Box7.new _ _ _ _ _ _ _ _ _)
    have hb12 := hb2.trans (hb22.mono hb2.size)
    have HX := Lib.hid (HX.out.call hb12)
    have HP := Lib.hid (HP.out.call hb12)
    have HV := Lib.hid (HV.out.below hb12)
    have HN := Lib.hid (HN.out.below hb12)
    have HW := Lib.hid (HW.out.trans (hb12.mono HW.out.size))
    have HQV := Lib.hid (hQV.below hb22)
    have HQN := Lib.hid (hQN.below hb22)
    clear r2 hb2 hb22 hb12 hQV hQN
    obtain ⟨q0, q1, q2, q3, q4, q5, q6⟩ := HX.out.cells
    obtain ⟨p0, p1⟩ := HP.out.cells
    go_upto_region 5 with (fail)
    rw [← hW2]
    clear hW2
    go_wp2_with fail
    refine (H2.out _ HV.out HN.out).mono ?_
    rintro e w3 ⟨v3, rfl, r3, hb3⟩
    obtain ⟨fa3, fc3, ia3, ic3, rfl, hRV, hRN⟩ := r3.read
    obtain ⟨W3, hW3⟩ : ∃ W3, W3 = w3.alloc (.cells #[.slice fa3 SF.length fc3, .slice ia3 SI.length ic3, .int .i64 X, .int .i64 Y, .int .i64 Z, .int .i64 SL, .int .i64 SO] 31) := ⟨_, rfl⟩
    have hb33 : Below w3.heap.size w3 W3 := by rw [hW3]; exact (Below.refl _ _).alloc (Nat.le_refl _) _
    have HR := Lib.hid (show Box7 W3 w3.heap.size 31 (.slice fa3 SF.length fc3) (.slice ia3 SI.length ic3) (.int .i64 X) (.int .i64 Y) (.int .i64 Z) (.int .i64 SL) (.int .i64 SO) from by rw [hW3]; exact Box7.new _ _ _ _ _ _ _ _ _)
    have hb13 := hb3.trans (hb33.mono hb3.size)
    have HX := Lib.hid (HX.out.call hb13)
    have HP := Lib.hid (HP.out.call hb13)
    have HQ := Lib.hid (HQ.out.call hb13)
    have HW := Lib.hid (HW.out.trans (hb13.mono HW.out.size))
    have HQV := Lib.hid (HQV.out.below hb13)
    have HQN := Lib.hid (HQN.out.below hb13)
    have HRV := Lib.hid (hRV.below hb33)
    have HRN := Lib.hid (hRN.below hb33)
    clear r3 hb3 hb33 hb13 hRV hRN HV HN H1 H2 q0 q1 q2 q3 q4 q5 q6 p0 p1
    obtain ⟨q0, q1, q2, q3, q4, q5, q6⟩ := HQ.out.cells
    go_upto_region 6 with (fail)
    rw [← hW3]
    clear hW3
    obtain ⟨r0, r1, r2, r3, r4, r5, r6⟩ := HR.out.cells
    go_wp2_with fail
    refine (waStacks_same _ _ _ _ _ _ _ _ _ _ _ _ _ _ _ SF SI _ HQV.out HQN.out HRV.out HRN.out).mono ?_
    rintro e w4 ⟨rfl, hb4⟩
    have HX := Lib.hid (HX.out.call hb4)
    have HP := Lib.hid (HP.out.call hb4)
    have HQ := Lib.hid (HQ.out.call hb4)
    have HR := Lib.hid (HR.out.call hb4)
    have HW := Lib.hid (HW.out.trans (hb4.mono HW.out.size))
    have HQV := Lib.hid (HQV.out.below hb4)
    have HQN := Lib.hid (HQN.out.below hb4)
    have HRV := Lib.hid (HRV.out.below hb4)
    have HRN := Lib.hid (HRN.out.below hb4)
    clear hb4 q0 q1 q2 q3 q4 q5 q6 r0 r1 r2 r3 r4 r5 r6
    obtain ⟨q0, q1, q2, q3, q4, q5, q6⟩ := HQ.out.cells
    obtain ⟨p0, p1⟩ := HP.out.cells
    obtain ⟨x0, x1, x2, x3, x4, x5, x6⟩ := HX.out.cells
    cases b
    · obtain ⟨r0, r1, r2, r3, r4, r5, r6⟩ := HR.out.cells
      go_wp2_with fail
      refine (waStacks_same _ _ _ _ _ _ _ _ _ _ _ _ _ _ _ SF SI _ HQV.out HQN.out HRV.out HRN.out).mono ?_
      rintro e w5 ⟨rfl, hb5⟩
      have HW := Lib.hid (HW.out.trans (hb5.mono HW.out.size))
      clear hb5
      go_wp2_with fail
      go_returns
      exact ⟨rfl, HW.out⟩
    · obtain ⟨hc1, hc2, hc3⟩ := Agg.step_counts (k := k) (s := ⟨F, I, ⟨bx, by', bz⟩, fl, co⟩) (p := p) (x := x)
      obtain ⟨d0, d1, d2, d3, d4⟩ := Agg.stepOk_bounds HBB.out.symm
      rw [← Agg.aStep_of HBB.out.symm, ← HS.out] at hc1 hc2 hc3
      simp only at hc1 hc2 hc3 d0 d1 d2 d3 d4
      clear HQV HQN HRV HRN HR
      cases p
      · by_cases h0 : F.length = 0
        · obtain ⟨e1, e2, e3⟩ := hc3 rfl h0
          have h0I : (F.length : Int) = 0 := by omega
          have e3I : (SI.length : Int) = 0 := by omega
          have w1' : IntKind.i64.wrap (fl + 1) = fl + 1 := IntWalk.i64_in _ ⟨by omega, by omega⟩
          have w2' : IntKind.i64.wrap (co + (I.length : Int)) = co + (I.length : Int) := IntWalk.i64_in _ ⟨by omega, by omega⟩
          clear hc1 hc2 hc3 h0 e3
          subst e1 e2
          go_wp2_with fail
          go_returns
          exact ⟨by first | rfl | simp, HW.out⟩
        · obtain ⟨e1, e2⟩ := hc2 rfl (by omega)
          have h0I : ¬ (F.length : Int) = 0 := by omega
          clear hc1 hc2 hc3
          subst e1 e2
          go_wp2_with fail
          go_returns
          exact ⟨by first | rfl | simp, HW.out⟩
      · obtain ⟨e1, e2, e3⟩ := hc1 rfl
        clear hc1 hc2 hc3 e3 e2
        subst e1
        go_wp2_with fail
        go_returns
        exact ⟨by first | rfl | simp, HW.out⟩
  · go_enter Tryz.func9, Tryz.ntmps9
    go_wp2
    go_returns
    exact ⟨rfl, Below.refl _ _⟩
end Go.Proofs.YticoalgnkddapaaGreat
