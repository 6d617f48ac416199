import Derived.Test.YtolgclajlklmaaaGreat6lg
import Derived.Test.YtolgclajlklmaaaGreat3lc
namespace Go.Proofs.YtolgclajlklmaaaGreat
set_option linter.unusedSimpArgs false
set_option linter.unusedVariables false
open Go.RowKit
set_option maxRecDepth 8000 in
set_option maxHeartbeats 4000000 in
theorem law_FnDequeStacks (a : Option Addr) (n cap : Nat) (zs : List Int) (w : World) (hrow : IsRow .u8 w a n cap zs) :
    Calls Tryz.prog 4 #[.slice a n cap] w fun e w' => e = .returned (.bool true) ∧ Below w.heap.size w w' := by
  have HB := Lib.hid (Bytes.of_row hrow)
  have hm : cap ≤ 9223372036854775807 := HB.out.2.1
  have hnc : n ≤ cap := HB.out.1
  clear hrow
  by_cases hn : n ≤ 1048576
  · go_enter Tryz.func4, Tryz.ntmps4
    go_wp2_with fail
    refine (drawDequeRun_any _ _ _ _ _ HB.out).mono ?_
    rintro e w1 ⟨k, v0, m, l, rfl, hO, hm100, -, -, hb1⟩
    obtain ⟨oa, oc, rfl, hOp⟩ := hO.ops
    have hml : m ≤ oc := hOp.2.1
    have hmc : oc ≤ 9223372036854775807 := by have := hOp.2.2.1; unfold maxLen at this; omega
    have HLL := Lib.hid (show l.length = m from hOp.1)
    have HN := Lib.hid hOp
    have HW := Lib.hid hb1
    clear hO hOp hb1
    have h1 := fun w h => dequeRun_any k oa m oc l w h
    have h2 := fun w h => s_dequeRun_any k oa m oc l w h
    obtain ⟨⟨SI, SP, SF, SN, SD⟩, hS⟩ : ∃ S, S = Agg.dqRunS k l := ⟨_, rfl⟩
    obtain ⟨NL, hNL⟩ : ∃ N, N = Agg.dqRunN k l := ⟨_, rfl⟩
    obtain ⟨b, hb⟩ : ∃ b, b = Agg.dqRunOk k l := ⟨_, rfl⟩
    rw [← hS, ← hNL, ← hb] at h1 h2
    have H1 := Lib.hid h1
    have H2 := Lib.hid h2
    have HS := Lib.hid hS
    have HNL := Lib.hid hNL
    have HBB := Lib.hid hb
    clear h1 h2 hS hNL hb
    go_wp2_with fail
    refine (H1.out _ HN.out).mono ?_
    rintro e w2 ⟨v2, u2, n2, rfl, r2, ru2, hb2⟩
    obtain ⟨ia2, ic2, pa2, pc2, rfl, hQI, hQP⟩ := r2.read
    simp only at hQI hQP
    obtain ⟨ua2, uc2, rfl, hU2, hl2⟩ := ru2.nums
    have hwsv : w.heap.size ≤ w2.heap.size := Nat.le_trans HW.out.size hb2.size
    obtain ⟨W2, hW2⟩ : ∃ W2, W2 = w2.alloc (.cells #[.slice ia2 SI.length ic2, .slice pa2 SP.length pc2, .int .i64 SF, .int .i64 SN, .int .i64 SD] 28) := ⟨_, rfl⟩
    have hb22 : Below w2.heap.size w2 W2 := by rw [hW2]; exact (Below.refl _ _).alloc (Nat.le_refl _) _
    have HQ := Lib.hid (show Box5 W2 w2.heap.size 28 (.slice ia2 SI.length ic2) (.slice pa2 SP.length pc2) (.int .i64 SF) (.int .i64 SN) (.int .i64 SD) from by rw [hW2]; exact Box5.new _ _ _ _ _ _ _)
    have hb12 := hb2.trans (hb22.mono hb2.size)
    have HN := Lib.hid (HN.out.below hb12)
    have HW := Lib.hid (HW.out.trans (hb12.mono HW.out.size))
    have HQI := Lib.hid (hQI.below hb22)
    have HQP := Lib.hid (hQP.below hb22)
    have HU2 := Lib.hid (hU2.below hb22)
    have HL2 := Lib.hid hl2
    clear r2 ru2 hb2 hb22 hb12 hQI hQP hU2 hl2
    go_upto_region 5 with (fail)
    rw [← hW2]
    clear hW2
    go_wp2_with fail
    refine (H2.out _ HN.out).mono ?_
    rintro e w3 ⟨v3, u3, n3, rfl, r3, ru3, hb3⟩
    obtain ⟨ia3, ic3, pa3, pc3, rfl, hRI, hRP⟩ := r3.read
    simp only at hRI hRP
    obtain ⟨ua3, uc3, rfl, hU3, hl3⟩ := ru3.nums
    obtain ⟨W3, hW3⟩ : ∃ W3, W3 = w3.alloc (.cells #[.slice ia3 SI.length ic3, .slice pa3 SP.length pc3, .int .i64 SF, .int .i64 SN, .int .i64 SD] 28) := ⟨_, rfl⟩
    have hb33 : Below w3.heap.size w3 W3 := by rw [hW3]; exact (Below.refl _ _).alloc (Nat.le_refl _) _
    have HR := Lib.hid (show Box5 W3 w3.heap.size 28 (.slice ia3 SI.length ic3) (.slice pa3 SP.length pc3) (.int .i64 SF) (.int .i64 SN) (.int .i64 SD) from by rw [hW3]; exact Box5.new _ _ _ _ _ _ _)
    have hb13 := hb3.trans (hb33.mono hb3.size)
    have HN := Lib.hid (HN.out.below hb13)
    have HQ := Lib.hid (HQ.out.call hb13)
    have HW := Lib.hid (HW.out.trans (hb13.mono HW.out.size))
    have HQI := Lib.hid (HQI.out.below hb13)
    have HQP := Lib.hid (HQP.out.below hb13)
    have HU2 := Lib.hid (HU2.out.below hb13)
    have HRI := Lib.hid (hRI.below hb33)
    have HRP := Lib.hid (hRP.below hb33)
    have HU3 := Lib.hid (hU3.below hb33)
    have HL3 := Lib.hid hl3
    clear r3 ru3 hb3 hb33 hb13 hRI hRP hU3 hl3 H1 H2
    go_upto_region 6 with (fail)
    rw [← hW3]
    clear hW3
    obtain ⟨q0, q1, q2, q3, q4⟩ := HQ.out.cells
    obtain ⟨r0, r1, r2, r3, r4⟩ := HR.out.cells
    go_wp2_with fail
    refine (waInts_w _ _ _ _ _ _ NL _ HU2.out HU3.out).mono ?_
    rintro e w4 ⟨rfl, hb4⟩
    have HN := Lib.hid (HN.out.below hb4)
    have HQ := Lib.hid (HQ.out.call hb4)
    have HR := Lib.hid (HR.out.call hb4)
    have HW := Lib.hid (HW.out.trans (hb4.mono HW.out.size))
    have HQI := Lib.hid (HQI.out.below hb4)
    have HQP := Lib.hid (HQP.out.below hb4)
    have HU2 := Lib.hid (HU2.out.below hb4)
    have HRI := Lib.hid (HRI.out.below hb4)
    have HRP := Lib.hid (HRP.out.below hb4)
    have HU3 := Lib.hid (HU3.out.below hb4)
    clear hb4 q0 q1 q2 q3 q4 r0 r1 r2 r3 r4
    obtain ⟨q0, q1, q2, q3, q4⟩ := HQ.out.cells
    obtain ⟨r0, r1, r2, r3, r4⟩ := HR.out.cells
    cases b
    · have HX := True.intro
      go_wp2_with fail
      refine (waInts_w _ _ _ _ _ _ NL _ HU2.out HU3.out).mono ?_
      rintro e w4 ⟨rfl, hb4⟩
      have HN := Lib.hid (HN.out.below hb4)
      have HQ := Lib.hid (HQ.out.call hb4)
      have HR := Lib.hid (HR.out.call hb4)
      have HW := Lib.hid (HW.out.trans (hb4.mono HW.out.size))
      have HQI := Lib.hid (HQI.out.below hb4)
      have HQP := Lib.hid (HQP.out.below hb4)
      have HU2 := Lib.hid (HU2.out.below hb4)
      have HRI := Lib.hid (HRI.out.below hb4)
      have HRP := Lib.hid (HRP.out.below hb4)
      have HU3 := Lib.hid (HU3.out.below hb4)
      clear hb4 q0 q1 q2 q3 q4 r0 r1 r2 r3 r4
      obtain ⟨q0, q1, q2, q3, q4⟩ := HQ.out.cells
      obtain ⟨r0, r1, r2, r3, r4⟩ := HR.out.cells
      go_wp2_with fail
      go_returns
      exact ⟨rfl, HW.out⟩
    · obtain ⟨hk, ho, e1, e2, e3, e4⟩ := Agg.dqRun_end HBB.out.symm
      rw [← HNL.out, Agg.dqNs_qs hk ho] at e2
      have hkk := Agg.isOrd_isKind hk
      have hqk : Agg.qOk k l = true := by simp [Agg.qOk, hkk, ho]
      have hqo : Agg.qOut k l = NL := by rw [e2]; simp [Agg.qOut, hqk]
      have hrun : Agg.runOk k l = true := by simp [Agg.runOk, hkk, ho]
      have hrn : Agg.runN k l = NL := by rw [← hqo]; exact (Agg.run_end hrun).1
      have h1 := fun w h => stacksRun_any k oa m oc l w h
      rw [hrun, hrn] at h1
      obtain ⟨⟨TF, TI, ⟨X, Y, Z⟩, TL, TO⟩, hT⟩ : ∃ S, S = Agg.runS k l := ⟨_, rfl⟩
      rw [← hT] at h1
      have H1 := Lib.hid h1
      clear hk ho e1 e2 e3 e4 hkk hqk hqo hrun hrn h1 hT HR HRI HRP HU3 r0 r1 r2 r3 r4 HQI HQP q0 q1 q2 q3 q4 HQ
      go_wp2_with fail
      refine (H1.out _ HN.out).mono ?_
      rintro e w5 ⟨v5, u5, n5, rfl, r5, ru5, hb5⟩
      obtain ⟨fa5, fc5, ia5, ic5, rfl, -, -⟩ := r5.read
      obtain ⟨ua5, uc5, rfl, hU5, hl5⟩ := ru5.nums
      obtain ⟨W5, hW5⟩ : ∃ W5, W5 = w5.alloc (.cells #[.slice fa5 TF.length fc5, .slice ia5 TI.length ic5, .int .i64 X, .int .i64 Y, .int .i64 Z, .int .i64 TL, .int .i64 TO] 42) := ⟨_, rfl⟩
      have hb55 : Below w5.heap.size w5 W5 := by rw [hW5]; exact (Below.refl _ _).alloc (Nat.le_refl _) _
      have hb15 := hb5.trans (hb55.mono hb5.size)
      have HW := Lib.hid (HW.out.trans (hb15.mono HW.out.size))
      have HU2 := Lib.hid (HU2.out.below hb15)
      have HU5 := Lib.hid (hU5.below hb55)
      clear r5 ru5 hb5 hb55 hb15 hU5 hl5 H1 HN
      go_upto_region 9 with (fail)
      rw [← hW5]
      clear hW5
      go_wp2_with fail
      refine (waInts_w _ _ _ _ _ _ NL _ HU5.out HU2.out).mono ?_
      rintro e w7 ⟨rfl, hb7⟩
      have HW := Lib.hid (HW.out.trans (hb7.mono HW.out.size))
      clear hb7
      go_wp2_with fail
      go_returns
      exact ⟨rfl, HW.out⟩
  · go_enter Tryz.func4, Tryz.ntmps4
    go_wp2
    go_returns
    exact ⟨rfl, Below.refl _ _⟩
end Go.Proofs.YtolgclajlklmaaaGreat
