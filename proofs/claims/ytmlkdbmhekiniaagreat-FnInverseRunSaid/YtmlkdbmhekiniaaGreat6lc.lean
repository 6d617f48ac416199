/-
  The law FnInverseRun, walked.
-/
import Derived.Test.YtmlkdbmhekiniaaGreatQd
import Derived.Test.YtmlkdbmhekiniaaGreatQc
import Derived.Test.YtmlkdbmhekiniaaGreatTb
import Derived.Deep.Cut
namespace Go.Proofs.YtmlkdbmhekiniaaGreat
set_option linter.unusedSimpArgs false
set_option linter.unusedVariables false
open Go.RowKit
/-- What a run leaves: a valid window, with the numbers of the windows. -/
theorem Agg.ivRun_end {k : Int} {l : List (Bool × Int)} (h : Agg.ivRunOk k l = true) :
    Agg.ivRunN k l = Agg.qOut k l ∧ Agg.qOk k l = true ∧ Agg.ivOk k (Agg.ivRunS k l) = true := by
  have h2 := h
  simp only [Agg.ivRunOk, Bool.and_eq_true] at h2
  obtain ⟨hr, ho⟩ := h2
  have hk := Agg.removes_kind hr
  have hq : Agg.qOk k l = true := by simp [Agg.qOk, hk, ho]
  refine ⟨?_, hq, ?_⟩
  · simp [Agg.ivRunN, h, Agg.qOut, hq]
  · have e1 : Agg.ivRunS k l = Agg.ivAt k l l.length := by simp [Agg.ivRunS, h]
    rw [e1]
    simp only [Agg.ivOk, Agg.ivAt, Bool.and_eq_true, decide_eq_true_eq]
    exact ⟨⟨hr, Agg.win_ok ho l.length (Nat.le_refl _)⟩, trivial⟩
set_option maxRecDepth 8000 in
set_option maxHeartbeats 4000000 in
theorem law_FnInverseRun (a : Option Addr) (n cap : Nat) (zs : List Int) (w : World) (hrow : IsRow .u8 w a n cap zs) :
    Calls Tryz.prog 9 #[.slice a n cap] w fun e w' => e = .returned (.bool true) ∧ Below w.heap.size w w' := by
  have HB := Lib.hid (Bytes.of_row hrow)
  have hm : cap ≤ 9223372036854775807 := HB.out.2.1
  have hnc : n ≤ cap := HB.out.1
  clear hrow
  by_cases hn : n ≤ 1048576
  · go_enter Tryz.func9, Tryz.ntmps9
    go_wp2_with fail
    refine (drawInverseRun_any _ _ _ _ _ HB.out).mono ?_
    rintro e w1 ⟨k, v0, m, l, rfl, hO, hm100, -, -, hb1⟩
    obtain ⟨oa, oc, rfl, hOp⟩ := hO.ops
    have hml : m ≤ oc := hOp.2.1
    have hmc : oc ≤ 9223372036854775807 := by have := hOp.2.2.1; unfold maxLen at this; omega
    have HN := Lib.hid hOp
    have HW := Lib.hid hb1
    clear hO hOp hb1
    have h1 := fun w h => inverseRun_any k oa m oc l w h
    have h2 := fun w h => s_inverseRun_any k oa m oc l w h
    obtain ⟨⟨SI, ⟨X, Y, Z⟩⟩, hS⟩ : ∃ S, S = Agg.ivRunS k l := ⟨_, rfl⟩
    obtain ⟨NL, hNL⟩ : ∃ N, N = Agg.ivRunN k l := ⟨_, rfl⟩
    obtain ⟨b, hb⟩ : ∃ b, b = Agg.ivRunOk k l := ⟨_, rfl⟩
    rw [← hS, ← hNL, ← hb] at h1 h2
    have H1 := Lib.hid h1
    have H2 := Lib.hid h2
    have HS := Lib.hid hS
    have HNL := Lib.hid hNL
    have HBB := Lib.hid hb
    clear h1 h2 hS hNL hb
    go_wp2_with fail
    refine (H1.out _ HN.out).mono ?_
    rintro e w2 ⟨v2, u2, n2, rfl, r2, ru2, hb2⟩
    obtain ⟨ia2, ic2, rfl, hQI⟩ := r2.read
    obtain ⟨ua2, uc2, rfl, hU2, hl2⟩ := ru2.nums
    have hwsv : w.heap.size ≤ w2.heap.size := Nat.le_trans HW.out.size hb2.size
    obtain ⟨W2, hW2⟩ : ∃ W2, W2 = w2.alloc (.cells #[.slice ia2 SI.length ic2, .int .i64 X, .int .i64 Y, .int .i64 Z] 27) := ⟨_, rfl⟩
    have hb22 : Below w2.heap.size w2 W2 := by rw [hW2]; exact (Below.refl _ _).alloc (Nat.le_refl _) _
    have HQ := Lib.hid (show Box4 W2 w2.heap.size 27 (.slice ia2 SI.length ic2) (.int .i64 X) (.int .i64 Y) (.int .i64 Z) from by rw [hW2]; exact Box4.new _ _ _ _ _ _)
    have hb12 := hb2.trans (hb22.mono hb2.size)
    have HN := Lib.hid (HN.out.below hb12)
    have HW := Lib.hid (HW.out.trans (hb12.mono HW.out.size))
    have HQI := Lib.hid (hQI.below hb22)
    have HU2 := Lib.hid (hU2.below hb22)
    have HL2 := Lib.hid hl2
    clear r2 ru2 hb2 hb22 hb12 hQI hU2 hl2
    go_upto_region 5 with (fail)
    rw [← hW2]
    clear hW2
    go_wp2_with fail
    refine (H2.out _ HN.out).mono ?_
    rintro e w3 ⟨v3, u3, n3, rfl, r3, ru3, hb3⟩
    obtain ⟨ia3, ic3, rfl, hRI⟩ := r3.read
    obtain ⟨ua3, uc3, rfl, hU3, hl3⟩ := ru3.nums
    obtain ⟨W3, hW3⟩ : ∃ W3, W3 = w3.alloc (.cells #[.slice ia3 SI.length ic3, .int .i64 X, .int .i64 Y, .int .i64 Z] 27) := ⟨_, rfl⟩
    have hb33 : Below w3.heap.size w3 W3 := by rw [hW3]; exact (Below.refl _ _).alloc (Nat.le_refl _) _
    have HR := Lib.hid (show Box4 W3 w3.heap.size 27 (.slice ia3 SI.length ic3) (.int .i64 X) (.int .i64 Y) (.int .i64 Z) from by rw [hW3]; exact Box4.new _ _ _ _ _ _)
    have hb13 := hb3.trans (hb33.mono hb3.size)
    have HN := Lib.hid (HN.out.below hb13)
    have HQ := Lib.hid (HQ.out.call hb13)
    have HW := Lib.hid (HW.out.trans (hb13.mono HW.out.size))
    have HQI := Lib.hid (HQI.out.below hb13)
    have HU2 := Lib.hid (HU2.out.below hb13)
    have HRI := Lib.hid (hRI.below hb33)
    have HU3 := Lib.hid (hU3.below hb33)
    have HL3 := Lib.hid hl3
    clear r3 ru3 hb3 hb33 hb13 hRI hU3 hl3 H1 H2
    go_upto_region 6 with (fail)
    rw [← hW3]
    clear hW3
    obtain ⟨q0, q1, q2, q3⟩ := HQ.out.cells
    obtain ⟨r0, r1, r2, r3⟩ := HR.out.cells
    go_wp2_with fail
    refine (waInts_w _ _ _ _ _ _ SI _ HQI.out HRI.out).mono ?_
    rintro e w4 ⟨rfl, hb4⟩
    have HN := Lib.hid (HN.out.below hb4)
    have HQ := Lib.hid (HQ.out.call hb4)
    have HR := Lib.hid (HR.out.call hb4)
    have HW := Lib.hid (HW.out.trans (hb4.mono HW.out.size))
    have HQI := Lib.hid (HQI.out.below hb4)
    have HU2 := Lib.hid (HU2.out.below hb4)
    have HRI := Lib.hid (HRI.out.below hb4)
    have HU3 := Lib.hid (HU3.out.below hb4)
    clear hb4 q0 q1 q2 q3 r0 r1 r2 r3
    obtain ⟨q0, q1, q2, q3⟩ := HQ.out.cells
    obtain ⟨r0, r1, r2, r3⟩ := HR.out.cells
    go_wp2_with fail
    refine (waInts_w _ _ _ _ _ _ NL _ HU2.out HU3.out).mono ?_
    rintro e w4 ⟨rfl, hb4⟩
    have HN := Lib.hid (HN.out.below hb4)
    have HQ := Lib.hid (HQ.out.call hb4)
    have HR := Lib.hid (HR.out.call hb4)
    have HW := Lib.hid (HW.out.trans (hb4.mono HW.out.size))
    have HQI := Lib.hid (HQI.out.below hb4)
    have HU2 := Lib.hid (HU2.out.below hb4)
    have HRI := Lib.hid (HRI.out.below hb4)
    have HU3 := Lib.hid (HU3.out.below hb4)
    clear hb4 q0 q1 q2 q3 r0 r1 r2 r3
    obtain ⟨q0, q1, q2, q3⟩ := HQ.out.cells
    obtain ⟨r0, r1, r2, r3⟩ := HR.out.cells
    cases b
    · have HX := True.intro
      go_wp2_with fail
      refine (waInts_w _ _ _ _ _ _ SI _ HQI.out HRI.out).mono ?_
      rintro e w4 ⟨rfl, hb4⟩
      have HN := Lib.hid (HN.out.below hb4)
      have HQ := Lib.hid (HQ.out.call hb4)
      have HR := Lib.hid (HR.out.call hb4)
      have HW := Lib.hid (HW.out.trans (hb4.mono HW.out.size))
      have HQI := Lib.hid (HQI.out.below hb4)
      have HU2 := Lib.hid (HU2.out.below hb4)
      have HRI := Lib.hid (HRI.out.below hb4)
      have HU3 := Lib.hid (HU3.out.below hb4)
      clear hb4 q0 q1 q2 q3 r0 r1 r2 r3
      obtain ⟨q0, q1, q2, q3⟩ := HQ.out.cells
      obtain ⟨r0, r1, r2, r3⟩ := HR.out.cells
      go_wp2_with fail
      refine (waInts_w _ _ _ _ _ _ NL _ HU2.out HU3.out).mono ?_
      rintro e w4 ⟨rfl, hb4⟩
      have HN := Lib.hid (HN.out.below hb4)
      have HQ := Lib.hid (HQ.out.call hb4)
      have HR := Lib.hid (HR.out.call hb4)
      have HW := Lib.hid (HW.out.trans (hb4.mono HW.out.size))
      have HQI := Lib.hid (HQI.out.below hb4)
      have HU2 := Lib.hid (HU2.out.below hb4)
      have HRI := Lib.hid (HRI.out.below hb4)
      have HU3 := Lib.hid (HU3.out.below hb4)
      clear hb4 q0 q1 q2 q3 r0 r1 r2 r3
      obtain ⟨q0, q1, q2, q3⟩ := HQ.out.cells
      obtain ⟨r0, r1, r2, r3⟩ := HR.out.cells
      go_wp2_with fail
      go_returns
      exact ⟨rfl, HW.out⟩
    · obtain ⟨e1, e2, e3⟩ := Agg.ivRun_end HBB.out.symm
      rw [← HNL.out] at e1
      rw [← HS.out] at e3
      have hq := fun w h => queriesOf_any k oa m oc l w h
      rw [← e1, e2] at hq
      have HQU := Lib.hid hq
      have hva := fun w h => inverseValid_any k ia2 SI.length ic2 X Y Z SI w h
      rw [e3] at hva
      have HVA := Lib.hid hva
      clear e1 e2 e3 hq hva HR HRI HU3 r0 r1 r2 r3
      go_wp2_with fail
      refine (HQU.out _ HN.out).mono ?_
      rintro e w5 ⟨v5, n5, rfl, ro5, hb5⟩
      obtain ⟨ua5, uc5, rfl, hU5, hl5⟩ := ro5.nums
      have HQ := Lib.hid (HQ.out.call hb5)
      have HW := Lib.hid (HW.out.trans (hb5.mono HW.out.size))
      have HQI := Lib.hid (HQI.out.below hb5)
      have HU2 := Lib.hid (HU2.out.below hb5)
      have HU5 := Lib.hid hU5
      clear hb5 ro5 hU5 hl5 HQU q0 q1 q2 q3 HN
      go_wp2_with fail
      refine (waInts_w _ _ _ _ _ _ NL _ HU2.out HU5.out).mono ?_
      rintro e w7 ⟨rfl, hb7⟩
      have HQ := Lib.hid (HQ.out.call hb7)
      have HW := Lib.hid (HW.out.trans (hb7.mono HW.out.size))
      have HQI := Lib.hid (HQI.out.below hb7)
      clear hb7 HU2 HU5
      obtain ⟨q0, q1, q2, q3⟩ := HQ.out.cells
      go_wp2_with fail
      refine (HVA.out _ HQI.out).mono ?_
      rintro e w9 ⟨rfl, hb9⟩
      have HW := Lib.hid (HW.out.trans (hb9.mono HW.out.size))
      clear hb9 q0 q1 q2 q3
      go_wp2_with fail
      go_returns
      exact ⟨rfl, HW.out⟩
  · go_enter Tryz.func9, Tryz.ntmps9
    go_wp2
    go_returns
    exact ⟨rfl, Below.refl _ _⟩
end Go.Proofs.YtmlkdbmhekiniaaGreat
