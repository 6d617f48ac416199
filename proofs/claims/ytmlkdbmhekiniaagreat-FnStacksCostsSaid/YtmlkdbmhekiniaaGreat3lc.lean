/-
  The law FnStacksRun, walked.
-/
import Derived.Test.YtmlkdbmhekiniaaGreat3rd
import Derived.Test.YtmlkdbmhekiniaaGreatTb
import Derived.Test.YtmlkdbmhekiniaaGreatDq
import Derived.Deep.Cut
namespace Go.Proofs.YtmlkdbmhekiniaaGreat
set_option linter.unusedSimpArgs false
set_option linter.unusedVariables false
open Go.RowKit
theorem Agg.runOk_parts {k : Int} {l : List (Bool × Int)} (h : Agg.runOk k l = true) : Agg.isKind k = true ∧ Agg.opsOk l = true := by
  simp only [Agg.runOk, Bool.and_eq_true] at h
  exact h
/-- What a run leaves: stacks of the window, with the numbers of the windows. -/
theorem Agg.run_end {k : Int} {l : List (Bool × Int)} (h : Agg.runOk k l = true) :
    Agg.runN k l = Agg.qOut k l ∧ Agg.qOk k l = true ∧ Agg.sOk k (Agg.runS k l) = true ∧ (Agg.runS k l).front.length + (Agg.runS k l).items.length = (Agg.winOut l).length := by
  obtain ⟨hk, ho⟩ := Agg.runOk_parts h
  have ho2 := ho
  simp only [Agg.opsOk, Bool.and_eq_true, decide_eq_true_eq] at ho2
  obtain ⟨⟨hn200, hall⟩, hfit⟩ := ho2
  have e1 : Agg.runS k l = Agg.stAt k l l.length := by simp [Agg.runS, h]
  have st := Agg.stands_at hk l.length hfit
  obtain ⟨c0, c1, c2, c3⟩ := Agg.cost_at k l l.length
  have hp := Agg.pushes_le l l.length
  refine ⟨?_, by simp [Agg.qOk, hk, ho], ?_, ?_⟩
  · simp only [Agg.runN, h, if_true, Agg.qOut, Agg.qOk, hk, ho, Bool.and_self, Agg.stNums, Agg.qs]
    apply List.map_congr_left
    intro i hi
    have hi := List.mem_range.1 hi
    have := (Agg.run_step2 hk ho hi).2.2.1
    rw [this]
    rfl
  · rw [e1]
    exact st.valid hk (Agg.items_at hall hfit) c0 (by omega) (by omega) (by omega)
  · rw [e1]
    have := st.size
    simp only [Agg.S.size] at this
    rw [this]
    simp [Agg.winOut, ho]
theorem drawStacksRun_any (a : Option Addr) (n cap : Nat) (l : List Int) (w : World) (h : Bytes w a n cap l) :
    Calls Tryz.prog 34 #[.slice a n cap] w (CaseDrawn w) := by
  have H := Lib.hid (l2Case_any a n cap l w h)
  go_enter Tryz.func34, Tryz.ntmps34
  go_wp2_with fail
  refine H.out.mono ?_
  rintro e w1 ⟨k, v, m, l', rfl, hO, hm, hk1, hk2, hb1⟩
  have HO := Lib.hid hO
  have HB := Lib.hid hb1
  clear hO hb1
  go_wp2
  go_returns
  exact ⟨k, v, m, l', rfl, HO.out, hm, hk1, hk2, HB.out⟩
set_option maxRecDepth 8000 in
set_option maxHeartbeats 4000000 in
theorem law_FnStacksRun (a : Option Addr) (n cap : Nat) (zs : List Int) (w : World) (hrow : IsRow .u8 w a n cap zs) :
    Calls Tryz.prog 8 #[.slice a n cap] w fun e w' => e = .returned (.bool true) ∧ Below w.heap.size w w' := by
  have HB := Lib.hid (Bytes.of_row hrow)
  have hm : cap ≤ 9223372036854775807 := HB.out.2.1
  have hnc : n ≤ cap := HB.out.1
  clear hrow
  by_cases hn : n ≤ 1048576
  · go_enter Tryz.func8, Tryz.ntmps8
    go_wp2_with fail
    refine (drawStacksRun_any _ _ _ _ _ HB.out).mono ?_
    rintro e w1 ⟨k, v0, m, l, rfl, hO, hm100, -, -, hb1⟩
    obtain ⟨oa, oc, rfl, hOp⟩ := hO.ops
    have hml : m ≤ oc := hOp.2.1
    have hmc : oc ≤ 9223372036854775807 := by have := hOp.2.2.1; unfold maxLen at this; omega
    have HLL := Lib.hid (show l.length = m from hOp.1)
    have HN := Lib.hid hOp
    have HW := Lib.hid hb1
    clear hO hOp hb1
    have h1 := fun w h => stacksRun_any k oa m oc l w h
    have h2 := fun w h => s_stacksRun_any k oa m oc l w h
    obtain ⟨⟨SF, SI, ⟨X, Y, Z⟩, SL, SO⟩, hS⟩ : ∃ S, S = Agg.runS k l := ⟨_, rfl⟩
    obtain ⟨NL, hNL⟩ : ∃ N, N = Agg.runN k l := ⟨_, rfl⟩
    obtain ⟨b, hb⟩ : ∃ b, b = Agg.runOk k l := ⟨_, rfl⟩
    rw [← hS, ← hNL, ← hb] at h1 h2
    have H1 := Lib.hid h1
    have H2 := Lib.hid h2
    have HS := Lib.hid hS
    have HNL := Lib.hid hNL
    have HBB := Lib.hid hb
    clear h1 h2 hS hNL hb
    go_wp2_with fail
    refine (H1.out _ HN.out).mono ?_
    rintro e w2 ⟨v2, u2, n2, rfl, r2, ru2, hb2⟩
    obtain ⟨fa2, fc2, ia2, ic2, rfl, hQV, hQN⟩ := r2.read
    obtain ⟨ua2, uc2, rfl, hU2, hl2⟩ := ru2.nums
    have hwsv : w.heap.size ≤ w2.heap.size := Nat.le_trans HW.out.size hb2.size
    obtain ⟨W2, hW2⟩ : ∃ W2, W2 = w2.alloc (.cells #[.slice fa2 SF.length fc2, .slice ia2 SI.length ic2, .int .i64 X, .int .i64 Y, .int .i64 Z, .int .i64 SL, .int .i64 SO] 59) := ⟨_, rfl⟩
    have hb22 : Below w2.heap.size w2 W2 := by rw [hW2]; exact (Below.refl _ _).alloc (Nat.le_refl _) _
    have HQ := Lib.hid (show Box7 W2 w2.heap.size 59 (.slice fa2 SF.length fc2) (.slice ia2 SI.length ic2) (.int .i64 X) (.int .i64 Y) (.int .i64 Z) (.int .i64 SL) (.int .i64 SO) from by rw [hW2]; exact Box7.new _ _ _ _ _ _ _ _ _)
    have hb12 := hb2.trans (hb22.mono hb2.size)
    have HN := Lib.hid (HN.out.below hb12)
    have HW := Lib.hid (HW.out.trans (hb12.mono HW.out.size))
    have HQV := Lib.hid (hQV.below hb22)
    have HQN := Lib.hid (hQN.below hb22)
    have HU2 := Lib.hid (hU2.below hb22)
    have HL2 := Lib.hid hl2
    clear r2 ru2 hb2 hb22 hb12 hQV hQN hU2 hl2
    go_upto_region 5 with (fail)
    rw [← hW2]
    clear hW2
    go_wp2_with fail
    refine (H2.out _ HN.out).mono ?_
    rintro e w3 ⟨v3, u3, n3, rfl, r3, ru3, hb3⟩
    obtain ⟨fa3, fc3, ia3, ic3, rfl, hRV, hRN⟩ := r3.read
    obtain ⟨ua3, uc3, rfl, hU3, hl3⟩ := ru3.nums
    obtain ⟨W3, hW3⟩ : ∃ W3, W3 = w3.alloc (.cells #[.slice fa3 SF.length fc3, .slice ia3 SI.length ic3, .int .i64 X, .int .i64 Y, .int .i64 Z, .int .i64 SL, .int .i64 SO] 59) := ⟨_, rfl⟩
    have hb33 : Below w3.heap.size w3 W3 := by rw [hW3]; exact (Below.refl _ _).alloc (Nat.le_refl _) _
    have HR := Lib.hid (show Box7 W3 w3.heap.size 59 (.slice fa3 SF.length fc3) (.slice ia3 SI.length ic3) (.int .i64 X) (.int .i64 Y) (.int .i64 Z) (.int .i64 SL) (.int .i64 SO) from by rw [hW3]; exact Box7.new _ _ _ _ _ _ _ _ _)
    have hb13 := hb3.trans (hb33.mono hb3.size)
    have HN := Lib.hid (HN.out.below hb13)
    have HQ := Lib.hid (HQ.out.call hb13)
    have HW := Lib.hid (HW.out.trans (hb13.mono HW.out.size))
    have HQV := Lib.hid (HQV.out.below hb13)
    have HQN := Lib.hid (HQN.out.below hb13)
    have HU2 := Lib.hid (HU2.out.below hb13)
    have HRV := Lib.hid (hRV.below hb33)
    have HRN := Lib.hid (hRN.below hb33)
    have HU3 := Lib.hid (hU3.below hb33)
    have HL3 := Lib.hid hl3
    clear r3 ru3 hb3 hb33 hb13 hRV hRN hU3 hl3 H1 H2
    go_upto_region 6 with (fail)
    rw [← hW3]
    clear hW3
    obtain ⟨q0, q1, q2, q3, q4, q5, q6⟩ := HQ.out.cells
    obtain ⟨r0, r1, r2, r3, r4, r5, r6⟩ := HR.out.cells
    go_wp2_with fail
    refine (waStacks_same _ _ _ _ _ _ _ _ _ _ _ _ _ _ _ SF SI _ HQV.out HQN.out HRV.out HRN.out).mono ?_
    rintro e w4 ⟨rfl, hb4⟩
    have HN := Lib.hid (HN.out.below hb4)
    have HQ := Lib.hid (HQ.out.call hb4)
    have HR := Lib.hid (HR.out.call hb4)
    have HW := Lib.hid (HW.out.trans (hb4.mono HW.out.size))
    have HQV := Lib.hid (HQV.out.below hb4)
    have HQN := Lib.hid (HQN.out.below hb4)
    have HU2 := Lib.hid (HU2.out.below hb4)
    have HRV := Lib.hid (HRV.out.below hb4)
    have HRN := Lib.hid (HRN.out.below hb4)
    have HU3 := Lib.hid (HU3.out.below hb4)
    clear hb4 q0 q1 q2 q3 q4 q5 q6 r0 r1 r2 r3 r4 r5 r6
    obtain ⟨q0, q1, q2, q3, q4, q5, q6⟩ := HQ.out.cells
    obtain ⟨r0, r1, r2, r3, r4, r5, r6⟩ := HR.out.cells
    go_wp2_with fail
    refine (waInts_eq _ _ _ _ _ _ NL _ HU2.out HU3.out).mono ?_
    rintro e w4 ⟨rfl, hb4⟩
    have HN := Lib.hid (HN.out.below hb4)
    have HQ := Lib.hid (HQ.out.call hb4)
    have HR := Lib.hid (HR.out.call hb4)
    have HW := Lib.hid (HW.out.trans (hb4.mono HW.out.size))
    have HQV := Lib.hid (HQV.out.below hb4)
    have HQN := Lib.hid (HQN.out.below hb4)
    have HU2 := Lib.hid (HU2.out.below hb4)
    have HRV := Lib.hid (HRV.out.below hb4)
    have HRN := Lib.hid (HRN.out.below hb4)
    have HU3 := Lib.hid (HU3.out.below hb4)
    clear hb4 q0 q1 q2 q3 q4 q5 q6 r0 r1 r2 r3 r4 r5 r6
    obtain ⟨q0, q1, q2, q3, q4, q5, q6⟩ := HQ.out.cells
    obtain ⟨r0, r1, r2, r3, r4, r5, r6⟩ := HR.out.cells
    cases b
    · go_wp2_with fail
      refine (waStacks_same _ _ _ _ _ _ _ _ _ _ _ _ _ _ _ SF SI _ HQV.out HQN.out HRV.out HRN.out).mono ?_
      rintro e w5 ⟨rfl, hb5⟩
      have HW := Lib.hid (HW.out.trans (hb5.mono HW.out.size))
      have HU2 := Lib.hid (HU2.out.below hb5)
      have HU3 := Lib.hid (HU3.out.below hb5)
      clear hb5
      go_wp2_with fail
      refine (waInts_eq _ _ _ _ _ _ NL _ HU2.out HU3.out).mono ?_
      rintro e w6 ⟨rfl, hb6⟩
      have HW := Lib.hid (HW.out.trans (hb6.mono HW.out.size))
      clear hb6
      go_wp2_with fail
      go_returns
      exact ⟨rfl, HW.out⟩
    · obtain ⟨e1, e2, e3, e4⟩ := Agg.run_end HBB.out.symm
      rw [← HNL.out] at e1
      rw [← HS.out] at e3 e4
      simp only at e4
      have hq := fun w h => queriesOf_any k oa m oc l w h
      have hwin := fun w h => windowAfter_any oa m oc l w h
      rw [← e1, e2] at hq
      have hWl := Agg.winOut_len l
      obtain ⟨WL, hWL⟩ : ∃ WL, WL = Agg.winOut l := ⟨_, rfl⟩
      obtain ⟨b2, hb2⟩ : ∃ b2, b2 = Agg.opsOk l := ⟨_, rfl⟩
      rw [← hWL, ← hb2] at hwin
      rw [← hWL] at hWl e4
      have HQU := Lib.hid hq
      have HWI := Lib.hid hwin
      have hsz := fun w => stacksSize_any fa2 SF.length fc2 ia2 SI.length ic2 X Y Z SL SO w (by omega) (by omega)
      have hva := fun w h h' => stacksValid_any k fa2 SF.length fc2 ia2 SI.length ic2 X Y Z SL SO SF SI w h h' (by omega) (by omega)
      rw [e3] at hva
      have HSZ := Lib.hid hsz
      have HVA := Lib.hid hva
      have HE4 := Lib.hid e4
      clear e1 e2 e3 e4 hq hwin hsz hva hWL hb2 HR HRV HRN HU3 r0 r1 r2 r3 r4 r5 r6
      go_wp2_with fail
      refine (HQU.out _ HN.out).mono ?_
      rintro e w5 ⟨v5, n5, rfl, ro5, hb5⟩
      obtain ⟨ua5, uc5, rfl, hU5, hl5⟩ := ro5.nums
      have HN := Lib.hid (HN.out.below hb5)
      have HQ := Lib.hid (HQ.out.call hb5)
      have HW := Lib.hid (HW.out.trans (hb5.mono HW.out.size))
      have HQV := Lib.hid (HQV.out.below hb5)
      have HQN := Lib.hid (HQN.out.below hb5)
      have HU2 := Lib.hid (HU2.out.below hb5)
      have HU5 := Lib.hid hU5
      have HL5 := Lib.hid hl5
      clear hb5 ro5 hU5 hl5 HQU q0 q1 q2 q3 q4 q5 q6
      go_wp2_with fail
      refine (HWI.out _ HN.out).mono ?_
      rintro e w6 ⟨v6, n6, rfl, ro6, hb6⟩
      obtain ⟨ua6, uc6, rfl, hU6, hl6⟩ := ro6.nums
      have HQ := Lib.hid (HQ.out.call hb6)
      have HW := Lib.hid (HW.out.trans (hb6.mono HW.out.size))
      have HQV := Lib.hid (HQV.out.below hb6)
      have HQN := Lib.hid (HQN.out.below hb6)
      have HU2 := Lib.hid (HU2.out.below hb6)
      have HU5 := Lib.hid (HU5.out.below hb6)
      have HL6 := Lib.hid hl6
      clear hb6 ro6 hU6 hl6 HWI
      go_wp2_with fail
      refine (waInts_eq _ _ _ _ _ _ NL _ HU2.out HU5.out).mono ?_
      rintro e w7 ⟨rfl, hb7⟩
      have HQ := Lib.hid (HQ.out.call hb7)
      have HW := Lib.hid (HW.out.trans (hb7.mono HW.out.size))
      have HQV := Lib.hid (HQV.out.below hb7)
      have HQN := Lib.hid (HQN.out.below hb7)
      clear hb7 HU2 HU5
      obtain ⟨q0, q1, q2, q3, q4, q5, q6⟩ := HQ.out.cells
      go_wp2_with fail
      refine (HSZ.out _).mono ?_
      rintro e w8 ⟨rfl, hb8⟩
      have HQ := Lib.hid (HQ.out.call hb8)
      have HW := Lib.hid (HW.out.trans (hb8.mono HW.out.size))
      have HQV := Lib.hid (HQV.out.below hb8)
      have HQN := Lib.hid (HQN.out.below hb8)
      clear hb8 q0 q1 q2 q3 q4 q5 q6
      obtain ⟨q0, q1, q2, q3, q4, q5, q6⟩ := HQ.out.cells
      have hsum : (SF.length : Int) + (SI.length : Int) = (n6 : Int) := by have := HE4.out; have := HL6.out; omega
      go_wp2_with fail
      refine (HVA.out _ HQV.out HQN.out).mono ?_
      rintro e w9 ⟨rfl, hb9⟩
      have HW := Lib.hid (HW.out.trans (hb9.mono HW.out.size))
      clear hb9 q0 q1 q2 q3 q4 q5 q6
      go_wp2_with fail
      go_returns
      exact ⟨rfl, HW.out⟩
  · go_enter Tryz.func8, Tryz.ntmps8
    go_wp2
    go_returns
    exact ⟨rfl, Below.refl _ _⟩
end Go.Proofs.YtmlkdbmhekiniaaGreat
