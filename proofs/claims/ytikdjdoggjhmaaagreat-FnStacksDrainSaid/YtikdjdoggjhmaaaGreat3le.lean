/-
  The law FnStacksDrain, walked.
-/
import Derived.Test.YtikdjdoggjhmaaaGreat3ld
namespace Go.Proofs.YtikdjdoggjhmaaaGreat
set_option linter.unusedSimpArgs false
set_option linter.unusedVariables false
open Go.RowKit
/-- An item that goes leaves valid stacks with an item less. -/
theorem Agg.pop_ok {k : Int} {s : Agg.S} (h : Agg.sOk k s = true) (hn : 0 < s.front.length + s.items.length) (h1 : s.flips ≤ 900000) (h2 : s.cost ≤ 900000) :
    Agg.stepOk k s (false, 0) = true ∧ Agg.sOk k (Agg.stepS k s (false, 0)) = true ∧ (Agg.stepS k s (false, 0)).front.length + (Agg.stepS k s (false, 0)).items.length + 1 = s.front.length + s.items.length ∧ (Agg.stepS k s (false, 0)).flips ≤ s.flips + 1 ∧ (Agg.stepS k s (false, 0)).cost ≤ s.cost + 60 := by
  obtain ⟨hk, hsz, hfr, hit, hback, hokb, -, -⟩ := Agg.sOk_parts h
  have hb := Agg.sOk_bounds h
  simp only [Agg.S.size] at hsz
  have hst : Agg.stepOk k s (false, 0) = true := by
    simp only [Agg.stepOk, Bool.and_eq_true, decide_eq_true_eq]
    refine ⟨⟨⟨h, h1⟩, h2⟩, ?_⟩
    have h0 : 0 < s.size := by simp only [Agg.S.size]; omega
    simp [Agg.can, Agg.opOk]
    omega
  refine ⟨hst, ?_⟩
  by_cases h0 : s.front.length = 0
  · have e : Agg.stepS k s (false, 0) = ⟨(Agg.sufs k s.items s.items.length).take (s.items.length - 1), [], Agg.unit k, s.flips + 1, s.cost + s.items.length⟩ := by
      simp [Agg.stepS, Agg.readyS, h0, Agg.popS, Agg.flipS, Agg.sufs_length]
    rw [e]
    refine ⟨?_, ?_, ?_, ?_⟩
    · simp only [Agg.sOk, Bool.and_eq_true, decide_eq_true_eq, Agg.S.size]
      refine ⟨⟨⟨⟨⟨⟨hk, by omega, by omega⟩, by omega, by omega⟩, ?_⟩, ?_⟩, ?_⟩, ?_⟩
      · have h9 := List.length_take_le (s.items.length - 1) (Agg.sufs k s.items s.items.length)
        refine decide_eq_true ?_
        simp only [List.length_nil]
        omega
      · rw [List.all_eq_true]
        intro v hv
        have hv := List.mem_of_mem_take hv
        simp only [Agg.sufs, List.mem_map] at hv
        obtain ⟨i, -, rfl⟩ := hv
        exact Agg.ok_suf hk hit _
      · simp [Agg.itemsOk]
      · rw [Agg.fold_nil]
    · simp only [List.length_take, Agg.sufs_length, List.length_nil, Nat.add_zero]; omega
    · show s.flips + 1 ≤ s.flips + 1; omega
    · show s.cost + (s.items.length : Int) ≤ s.cost + 60; omega
  · have e : Agg.stepS k s (false, 0) = ⟨s.front.take (s.front.length - 1), s.items, s.back, s.flips, s.cost⟩ := by
      simp [Agg.stepS, Agg.readyS, h0, Agg.popS]
    rw [e]
    refine ⟨?_, ?_, ?_, ?_⟩
    · simp only [Agg.sOk, Bool.and_eq_true, decide_eq_true_eq, Agg.S.size]
      refine ⟨⟨⟨⟨⟨⟨hk, by omega, by omega⟩, by omega, by omega⟩, ?_⟩, ?_⟩, hit⟩, hback⟩
      · have h9 := List.length_take_le' (s.front.length - 1) s.front
        refine decide_eq_true ?_
        omega
      · rw [List.all_eq_true]
        intro v hv
        have hv := List.mem_of_mem_take hv
        obtain ⟨i, hi, rfl⟩ := List.mem_iff_getElem.1 hv
        have := hfr i hi
        simpa [List.getElem?_eq_getElem hi] using this
    · simp only [List.length_take]; omega
    · show s.flips ≤ s.flips + 1; omega
    · show s.cost ≤ s.cost + 60; omega
set_option maxRecDepth 8000 in
set_option maxHeartbeats 4000000 in
theorem law_FnStacksDrain (a : Option Addr) (n cap : Nat) (zs : List Int) (w : World) (hrow : IsRow .u8 w a n cap zs) :
    Calls Tryz.prog 7 #[.slice a n cap] w fun e w' => e = .returned (.bool true) ∧ Below w.heap.size w w' := by
  have HB := Lib.hid (Bytes.of_row hrow)
  have hm : cap ≤ 9223372036854775807 := HB.out.2.1
  have hnc : n ≤ cap := HB.out.1
  clear hrow
  by_cases hn : n ≤ 1048576
  · go_enter Tryz.func7, Tryz.ntmps7
    go_wp2_with fail
    refine (drawStacksRun_any _ _ _ _ _ HB.out).mono ?_
    rintro e w1 ⟨k, v0, m, l, rfl, hO, hm100, -, -, hb1⟩
    obtain ⟨oa, oc, rfl, hOp⟩ := hO.ops
    have hml : m ≤ oc := hOp.2.1
    have hmc : oc ≤ 9223372036854775807 := by have := hOp.2.2.1; unfold maxLen at this; omega
    have HLL := Lib.hid (show l.length = m from hOp.1)
    have HN := Lib.hid hOp
    have HW := Lib.hid hb1
    clear hO hOp hb1
    have h1 := fun w h => stacksRun_any k oa m oc l w h
    have h2 := fun w h => s_stacksRun_any k oa m oc l w h
    obtain ⟨⟨SF, SI, ⟨X, Y, Z⟩, SL, SO⟩, hS⟩ : ∃ S, S = Agg.runS k l := ⟨_, rfl⟩
    obtain ⟨NL, hNL⟩ : ∃ N, N = Agg.runN k l := ⟨_, rfl⟩
    obtain ⟨b, hb⟩ : ∃ b, b = Agg.runOk k l := ⟨_, rfl⟩
    rw [← hS, ← hNL, ← hb] at h1 h2
    have H1 := Lib.hid h1
    have H2 := Lib.hid h2
    have HS := Lib.hid hS
    have HNL := Lib.hid hNL
    have HBB := Lib.hid hb
    clear h1 h2 hS hNL hb
    go_wp2_with fail
    refine (H1.out _ HN.out).mono ?_
    rintro e w2 ⟨v2, u2, n2, rfl, r2, ru2, hb2⟩
    obtain ⟨fa2, fc2, ia2, ic2, rfl, hQV, hQN⟩ := r2.read
    obtain ⟨ua2, uc2, rfl, hU2, hl2⟩ := ru2.nums
    have hwsv : w.heap.size ≤ w2.heap.size := Nat.le_trans HW.out.size hb2.size
    obtain ⟨W2, hW2⟩ : ∃ W2, W2 = w2.alloc (.cells #[.slice fa2 SF.length fc2, .slice ia2 SI.length ic2, .int .i64 X, .int .i64 Y, .int .i64 Z, .int .i64 SL, .int .i64 SO] 31) := ⟨_, rfl⟩
    have hb22 : Below w2.heap.size w2 W2 := by rw [hW2]; exact (Below.refl _ _).alloc (Nat.le_refl _) _
    have HQ := Lib.hid (show Box7 W2 w2.heap.size 31 (.slice fa2 SF.length fc2) (.slice ia2 SI.length ic2) (.int .i64 X) (.int .i64 Y) (.int .i64 Z) (.int .i64 SL) (.int .i64 SO) from by rw [hW2]; exact Box7.new _ _ _ _ _ _ _ _ _)
    have hb12 := hb2.trans (hb22.mono hb2.size)
    have HN := Lib.hid (HN.out.below hb12)
    have HW := Lib.hid (HW.out.trans (hb12.mono HW.out.size))
    have HQV := Lib.hid (hQV.below hb22)
    have HQN := Lib.hid (hQN.below hb22)
    have HU2 := Lib.hid (hU2.below hb22)
    have HL2 := Lib.hid hl2
    clear r2 ru2 hb2 hb22 hb12 hQV hQN hU2 hl2
    go_upto_region 5 with (fail)
    rw [← hW2]
    clear hW2
    go_wp2_with fail
    refine (H2.out _ HN.out).mono ?_
    rintro e w3 ⟨v3, u3, n3, rfl, r3, ru3, hb3⟩
    obtain ⟨fa3, fc3, ia3, ic3, rfl, hRV, hRN⟩ := r3.read
    obtain ⟨ua3, uc3, rfl, hU3, hl3⟩ := ru3.nums
    obtain ⟨W3, hW3⟩ : ∃ W3, W3 = w3.alloc (.cells #[.slice fa3 SF.length fc3, .slice ia3 SI.length ic3, .int .i64 X, .int .i64 Y, .int .i64 Z, .int .i64 SL, .int .i64 SO] 31) := ⟨_, rfl⟩
    have hb33 : Below w3.heap.size w3 W3 := by rw [hW3]; exact (Below.refl _ _).alloc (Nat.le_refl _) _
    have HR := Lib.hid (show Box7 W3 w3.heap.size 31 (.slice fa3 SF.length fc3) (.slice ia3 SI.length ic3) (.int .i64 X) (.int .i64 Y) (.int .i64 Z) (.int .i64 SL) (.int .i64 SO) from by rw [hW3]; exact Box7.new _ _ _ _ _ _ _ _ _)
    have hb13 := hb3.trans (hb33.mono hb3.size)
    have HN := Lib.hid (HN.out.below hb13)
    have HQ := Lib.hid (HQ.out.call hb13)
    have HW := Lib.hid (HW.out.trans (hb13.mono HW.out.size))
    have HQV := Lib.hid (HQV.out.below hb13)
    have HQN := Lib.hid (HQN.out.below hb13)
    have HU2 := Lib.hid (HU2.out.below hb13)
    have HRV := Lib.hid (hRV.below hb33)
    have HRN := Lib.hid (hRN.below hb33)
    have HU3 := Lib.hid (hU3.below hb33)
    have HL3 := Lib.hid hl3
    clear r3 ru3 hb3 hb33 hb13 hRV hRN hU3 hl3 H1 H2
    go_upto_region 6 with (fail)
    rw [← hW3]
    clear hW3
    obtain ⟨q0, q1, q2, q3, q4, q5, q6⟩ := HQ.out.cells
    obtain ⟨r0, r1, r2, r3, r4, r5, r6⟩ := HR.out.cells
    go_wp2_with fail
    refine (waStacks_same _ _ _ _ _ _ _ _ _ _ _ _ _ _ _ SF SI _ HQV.out HQN.out HRV.out HRN.out).mono ?_
    rintro e w4 ⟨rfl, hb4⟩
    have HN := Lib.hid (HN.out.below hb4)
    have HQ := Lib.hid (HQ.out.call hb4)
    have HR := Lib.hid (HR.out.call hb4)
    have HW := Lib.hid (HW.out.trans (hb4.mono HW.out.size))
    have HQV := Lib.hid (HQV.out.below hb4)
    have HQN := Lib.hid (HQN.out.below hb4)
    have HU2 := Lib.hid (HU2.out.below hb4)
    have HRV := Lib.hid (HRV.out.below hb4)
    have HRN := Lib.hid (HRN.out.below hb4)
    have HU3 := Lib.hid (HU3.out.below hb4)
    clear hb4 q0 q1 q2 q3 q4 q5 q6 r0 r1 r2 r3 r4 r5 r6
    obtain ⟨q0, q1, q2, q3, q4, q5, q6⟩ := HQ.out.cells
    obtain ⟨r0, r1, r2, r3, r4, r5, r6⟩ := HR.out.cells
    cases b
    · skip
      go_wp2_with fail
      refine (waStacks_same _ _ _ _ _ _ _ _ _ _ _ _ _ _ _ SF SI _ HQV.out HQN.out HRV.out HRN.out).mono ?_
      rintro e w5 ⟨rfl, hb5⟩
      have HW := Lib.hid (HW.out.trans (hb5.mono HW.out.size))
      clear hb5
      go_wp2_with fail
      go_returns
      exact ⟨rfl, HW.out⟩
    · have e1 := (Agg.run_end HBB.out.symm).2.2.1
      have e2 := (Agg.run_end HBB.out.symm).2.2.2
      have hwl := Agg.winOut_len l
      have hst : Agg.stAt k l m = ⟨SF, SI, ⟨X, Y, Z⟩, SL, SO⟩ := by rw [HS.out, Agg.runS_of HBB.out.symm, HLL.out]
      obtain ⟨c0, c1, c2, c3⟩ := Agg.cost_at k l m
      have hple := Agg.pushes_le l m
      rw [hst] at c0 c1 c2 c3
      rw [← HS.out] at e1 e2
      simp only at c0 c1 c2 c3 e2
      have HE := Lib.hid e1
      have h60 : SF.length + SI.length ≤ 60 := by omega
      have hSL : SL ≤ 100 := by omega
      have hSO : SO ≤ 200 := by omega
      have hsz := fun w => stacksSize_any fa2 SF.length fc2 ia2 SI.length ic2 X Y Z SL SO w (by omega) (by omega)
      have HSZ := Lib.hid hsz
      clear e1 e2 hwl hst c0 c1 c2 c3 hple hsz HRV HRN HU2 HU3 HR r0 r1 r2 r3 r4 r5 r6 HN
      go_wp2_with fail
      refine (HSZ.out _).mono ?_
      rintro e w5 ⟨rfl, hb5⟩
      have HQ := Lib.hid (HQ.out.call hb5)
      have HW := Lib.hid (HW.out.trans (hb5.mono HW.out.size))
      have HQV := Lib.hid (HQV.out.below hb5)
      have HQN := Lib.hid (HQN.out.below hb5)
      clear hb5 q0 q1 q2 q3 q4 q5 q6 HSZ
      obtain ⟨N, hN⟩ : ∃ N, N = SF.length + SI.length := ⟨_, rfl⟩
      have hNI : (SF.length : Int) + (SI.length : Int) = (N : Int) := by omega
      rw [hNI]
      have HNN := Lib.hid hN
      have hN60 : N ≤ 60 := by omega
      clear hN hNI
      have HS0 := Lib.hid (show Agg.sOk k ⟨SF, SI, ⟨X, Y, Z⟩, SL, SO⟩ = true from HE.out)
      go_wp2_with fail
      go_loopw [12] (fun i wr => ∃ (j : Nat) (T : Agg.S) (ga : Option Addr) (gc : Nat) (ja : Option Addr) (jc : Nat), j ≤ N ∧ i = .int .i64 j ∧ Hid (Agg.sOk k T = true ∧ T.front.length + T.items.length + j = N ∧ T.flips ≤ 100 + j ∧ T.cost ≤ 200 + 60 * j) ∧ Hid (Box7 wr w2.heap.size 31 (.slice ga T.front.length gc) (.slice ja T.items.length jc) (.int .i64 T.back.x) (.int .i64 T.back.y) (.int .i64 T.back.z) (.int .i64 T.flips) (.int .i64 T.cost)) ∧ Hid (Vals wr ga T.front.length gc T.front) ∧ Hid (Nums .i64 wr ja T.items.length jc T.items) ∧ Hid (Below w.heap.size w wr)) (fun i _ => N - (intOf i).toNat)
      case atStart =>
        exact ⟨0, ⟨SF, SI, ⟨X, Y, Z⟩, SL, SO⟩, fa2, fc2, ia2, ic2, Nat.zero_le _, rfl, Lib.hid ⟨HS0.out, by have := HNN.out; simp only; omega, by simp only; omega, by simp only; omega⟩, HQ, HQV, HQN, HW⟩
      case round =>
        clear HQ HQV HQN HW HE HS0
        obtain ⟨j, T, ga, gc, ja, jc, hj, rfl, ht, hx, hv, hi, hw⟩ := hrel
        obtain ⟨t1, t2, t3, t4⟩ := ht.out
        have hbT := Agg.sOk_bounds t1
        obtain ⟨q0, q1, q2, q3, q4, q5, q6⟩ := hx.out.cells
        by_cases hlt : j < N
        · obtain ⟨g1, g2, g3, g4, g5⟩ := Agg.pop_ok t1 (by omega) (by omega) (by omega)
          have hstep := fun w h h' => stacksStep_any k ga T.front.length gc ja T.items.length jc T.back.x T.back.y T.back.z T.flips T.cost T.front T.items false 0 w h h' (by omega) (by omega)
          rw [show Agg.stepOk k ⟨T.front, T.items, ⟨T.back.x, T.back.y, T.back.z⟩, T.flips, T.cost⟩ (false, 0) = true from g1,
            show Agg.aStep k ⟨T.front, T.items, ⟨T.back.x, T.back.y, T.back.z⟩, T.flips, T.cost⟩ (false, 0) = Agg.stepS k T (false, 0) from Agg.aStep_of g1] at hstep
          obtain ⟨U, hU⟩ : ∃ U, U = Agg.stepS k T (false, 0) := ⟨_, rfl⟩
          rw [← hU] at hstep g2 g3 g4 g5
          have HSTP := Lib.hid hstep
          have HU := Lib.hid (show Agg.sOk k U = true ∧ U.front.length + U.items.length + (j + 1) = N ∧ U.flips ≤ 100 + ((j : Int) + 1) ∧ U.cost ≤ 200 + 60 * ((j : Int) + 1) from ⟨g2, by omega, by omega, by omega⟩)
          have hkn : (j : Int) < (N : Int) := by omega
          clear hstep hU g1 g2 g3 g4 g5 t1 t2 t3 t4 hbT
          have hwr := hw.out.size
          have hxl := hx.out.lt
          go_wp2_with fail
          refine (HSTP.out _ hv.out hi.out).mono ?_
          rintro e w6 ⟨v6, rfl, ho6, hb6⟩
          obtain ⟨na, nc, ma, mc, rfl, -, -⟩ := ho6.read
          have HX6 := Lib.hid (hx.out.call hb6)
          have HB6 := Lib.hid (hw.out.trans (hb6.mono hwr))
          have HO6 := Lib.hid ho6
          have hs6 : wr.heap.size ≤ w6.heap.size := hb6.size
          clear ho6 hb6 q0 q1 q2 q3 q4 q5 q6 HSTP
          obtain ⟨W7, hW7⟩ : ∃ W7, W7 = w6.alloc (.cells #[.slice na U.front.length nc, .slice ma U.items.length mc, .int .i64 U.back.x, .int .i64 U.back.y, .int .i64 U.back.z, .int .i64 U.flips, .int .i64 U.cost] 31) := ⟨_, rfl⟩
          have hbn : Below w6.heap.size w6 W7 := by rw [hW7]; exact (Below.refl _ _).alloc (Nat.le_refl _) _
          have HN7 := Lib.hid (show Box7 W7 w6.heap.size 31 (.slice na U.front.length nc) (.slice ma U.items.length mc) (.int .i64 U.back.x) (.int .i64 U.back.y) (.int .i64 U.back.z) (.int .i64 U.flips) (.int .i64 U.cost) from by rw [hW7]; exact Box7.new _ _ _ _ _ _ _ _ _)
          have HX7 := Lib.hid (HX6.out.call hbn)
          have HB7 := Lib.hid (HB6.out.trans (hbn.mono HB6.out.size))
          have HO7 := Lib.hid (HO6.out.below hbn)
          clear hbn HX6 HB6 HO6
          go_upto_region 13 with (fail)
          rw [← hW7]
          clear hW7
          obtain ⟨q0, q1, q2, q3, q4, q5, q6⟩ := HX7.out.cells
          have q7 := HX7.out.free
          obtain ⟨r0, r1, r2, r3, r4, r5, r6⟩ := HN7.out.cells
          obtain ⟨X8, hX8⟩ : ∃ X8, X8 = (((((((W7.setCell ⟨w2.heap.size, 0, none⟩ (.slice na U.front.length nc)).setCell ⟨w2.heap.size, 1, none⟩ (.slice ma U.items.length mc)).setCell ⟨w2.heap.size, 2, none⟩ (.int .i64 U.back.x)).setCell ⟨w2.heap.size, 3, none⟩ (.int .i64 U.back.y)).setCell ⟨w2.heap.size, 4, none⟩ (.int .i64 U.back.z)).setCell ⟨w2.heap.size, 5, none⟩ (.int .i64 U.flips)).setCell ⟨w2.heap.size, 6, none⟩ (.int .i64 U.cost)) := ⟨_, rfl⟩
          have HX8 := Lib.hid (show Box7 X8 w2.heap.size 31 (.slice na U.front.length nc) (.slice ma U.items.length mc) (.int .i64 U.back.x) (.int .i64 U.back.y) (.int .i64 U.back.z) (.int .i64 U.flips) (.int .i64 U.cost) from by rw [hX8]; exact HX7.out.sets _ _ _ _ _ _ _)
          have HB8 := Lib.hid (show Below w.heap.size w X8 from by rw [hX8]; exact sets7 HB7.out hwsv _ _ _ _ _ _ _)
          have HO8 := Lib.hid (show StkOwn X8 wr.heap.size w6.heap.size (.agg #[.slice na U.front.length nc, .slice ma U.items.length mc, .int .i64 U.back.x, .int .i64 U.back.y, .int .i64 U.back.z, .int .i64 U.flips, .int .i64 U.cost]) U from by rw [hX8]; exact HO7.out.set7 (.inl hxl) _ _ _ _ _ _ _)
          go_upto_region 11 with (fail)
          rw [← hX8]
          clear hX8 q0 q1 q2 q3 q4 q5 q6 q7 r0 r1 r2 r3 r4 r5 r6 HX7 HN7 HB7 HO7
          go_wp2_with fail
          go_roundw
          case rel =>
            have hR := HO8.out.valsF
            have hI8 : Nums .i64 X8 ma U.items.length mc U.items := by
              obtain ⟨aa, cc, e3, hh, -⟩ := HO8.out.rows.2.nums
              simp only [Value.slice.injEq, true_and] at e3
              obtain ⟨rfl, rfl⟩ := e3
              exact hh
            exact ⟨j + 1, U, na, nc, ma, mc, by omega, by go_num, Lib.hid ⟨HU.out.1, HU.out.2.1, by have := HU.out.2.2.1; push_cast; omega, by have := HU.out.2.2.2; push_cast; omega⟩, HX8, Lib.hid hR, Lib.hid hI8, HB8⟩
          case measure => simp [intOf]; omega
        · obtain rfl : j = N := by omega
          have hlt' : ¬ (j : Int) < (j : Int) := by omega
          have hz : T.front.length = 0 ∧ T.items.length = 0 := by omega
          have hno : Agg.stepOk k ⟨T.front, T.items, ⟨T.back.x, T.back.y, T.back.z⟩, T.flips, T.cost⟩ (false, 0) = false := by
            cases hs : Agg.stepOk k ⟨T.front, T.items, ⟨T.back.x, T.back.y, T.back.z⟩, T.flips, T.cost⟩ (false, 0)
            · rfl
            · have hc := Agg.can_pop3 (can_step hs).2
              simp only [Agg.S.size] at hc
              omega
          have hstep := fun w h h' => stacksStep_any k ga T.front.length gc ja T.items.length jc T.back.x T.back.y T.back.z T.flips T.cost T.front T.items false 0 w h h' (by omega) (by omega)
          rw [hno, Agg.aStep_not hno] at hstep
          obtain ⟨U, hU⟩ : ∃ U, U = Agg.zeroS := ⟨_, rfl⟩
          rw [← hU] at hstep
          have HSTP := Lib.hid hstep
          have hsize := fun w => stacksSize_any ga T.front.length gc ja T.items.length jc T.back.x T.back.y T.back.z T.flips T.cost w (by omega) (by omega)
          have HSZ := Lib.hid hsize
          have hsum : (T.front.length : Int) + (T.items.length : Int) = 0 := by omega
          have HSUM := Lib.hid hsum
          clear hstep hsize hno hU hz hsum t1 t2 t3 t4 hbT
          have hwr := hw.out.size
          have hxl := hx.out.lt
          go_wp2_with fail
          refine (HSTP.out _ hv.out hi.out).mono ?_
          rintro e w6 ⟨v6, rfl, ho6, hb6⟩
          obtain ⟨na, nc, ma, mc, rfl, -, -⟩ := ho6.read
          have HX6 := Lib.hid (hx.out.call hb6)
          have HB6 := Lib.hid (hw.out.trans (hb6.mono hwr))
          clear ho6 hb6 q0 q1 q2 q3 q4 q5 q6 HSTP
          obtain ⟨W7, hW7⟩ : ∃ W7, W7 = w6.alloc (.cells #[.slice na U.front.length nc, .slice ma U.items.length mc, .int .i64 U.back.x, .int .i64 U.back.y, .int .i64 U.back.z, .int .i64 U.flips, .int .i64 U.cost] 31) := ⟨_, rfl⟩
          have hbn : Below w6.heap.size w6 W7 := by rw [hW7]; exact (Below.refl _ _).alloc (Nat.le_refl _) _
          have HX7 := Lib.hid (HX6.out.call hbn)
          have HB7 := Lib.hid (HB6.out.trans (hbn.mono HB6.out.size))
          clear hbn HX6 HB6
          go_upto_region 17 with (fail)
          rw [← hW7]
          clear hW7
          obtain ⟨q0, q1, q2, q3, q4, q5, q6⟩ := HX7.out.cells
          go_wp2_with fail
          refine (HSZ.out _).mono ?_
          rintro e w8 ⟨rfl, hb8⟩
          have HB8 := Lib.hid (HB7.out.trans (hb8.mono HB7.out.size))
          clear hb8 q0 q1 q2 q3 q4 q5 q6
          rw [HSUM.out]
          go_wp2_with fail
          go_returns
          exact ⟨rfl, HB8.out⟩
  · go_enter Tryz.func7, Tryz.ntmps7
    go_wp2
    go_returns
    exact ⟨rfl, Below.refl _ _⟩
end Go.Proofs.YtikdjdoggjhmaaaGreat
