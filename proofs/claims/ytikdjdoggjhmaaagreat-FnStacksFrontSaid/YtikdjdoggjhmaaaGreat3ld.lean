/-
  The laws FnStacksCost, walked.
-/
import Derived.Test.YtikdjdoggjhmaaaGreat3lc
namespace Go.Proofs.YtikdjdoggjhmaaaGreat
set_option linter.unusedSimpArgs false
set_option linter.unusedVariables false
open Go.RowKit
theorem Agg.runS_of {k : Int} {l : List (Bool × Int)} (h : Agg.runOk k l = true) : Agg.runS k l = Agg.stAt k l l.length := by simp [Agg.runS, h]
set_option maxRecDepth 8000 in
set_option maxHeartbeats 4000000 in
theorem law_FnStacksCost (a : Option Addr) (n cap : Nat) (zs : List Int) (w : World) (hrow : IsRow .u8 w a n cap zs) :
    Calls Tryz.prog 4 #[.slice a n cap] w fun e w' => e = .returned (.bool true) ∧ Below w.heap.size w w' := by
  have HB := Lib.hid (Bytes.of_row hrow)
  have hm : cap ≤ 9223372036854775807 := HB.out.2.1
  have hnc : n ≤ cap := HB.out.1
  clear hrow
  by_cases hn : n ≤ 1048576
  · go_enter Tryz.func4, Tryz.ntmps4
    go_wp2_with fail
    refine (drawStacksRun_any _ _ _ _ _ HB.out).mono ?_
    rintro e w1 ⟨k, v0, m, l, rfl, hO, hm100, -, -, hb1⟩
    obtain ⟨oa, oc, rfl, hOp⟩ := hO.ops
    have hml : m ≤ oc := hOp.2.1
    have hmc : oc ≤ 9223372036854775807 := by have := hOp.2.2.1; unfold maxLen at this; omega
    have HLL := Lib.hid (show l.length = m from hOp.1)
    have HN := Lib.hid hOp
    have HW := Lib.hid hb1
    clear hO hOp hb1
    have h1 := fun w h => stacksRun_any k oa m oc l w h
    have h2 := fun w h => s_stacksRun_any k oa m oc l w h
    obtain ⟨⟨SF, SI, ⟨X, Y, Z⟩, SL, SO⟩, hS⟩ : ∃ S, S = Agg.runS k l := ⟨_, rfl⟩
    obtain ⟨NL, hNL⟩ : ∃ N, N = Agg.runN k l := ⟨_, rfl⟩
    obtain ⟨b, hb⟩ : ∃ b, b = Agg.runOk k l := ⟨_, rfl⟩
    rw [← hS, ← hNL, ← hb] at h1 h2
    have H1 := Lib.hid h1
    have H2 := Lib.hid h2
    have HS := Lib.hid hS
    have HNL := Lib.hid hNL
    have HBB := Lib.hid hb
    clear h1 h2 hS hNL hb
    go_wp2_with fail
    refine (H1.out _ HN.out).mono ?_
    rintro e w2 ⟨v2, u2, n2, rfl, r2, ru2, hb2⟩
    obtain ⟨fa2, fc2, ia2, ic2, rfl, hQV, hQN⟩ := r2.read
    obtain ⟨ua2, uc2, rfl, hU2, hl2⟩ := ru2.nums
    have hwsv : w.heap.size ≤ w2.heap.size := Nat.le_trans HW.out.size hb2.size
    obtain ⟨W2, hW2⟩ : ∃ W2, W2 = w2.alloc (.cells #[.slice fa2 SF.length fc2, .slice ia2 SI.length ic2, .int .i64 X, .int .i64 Y, .int .i64 Z, .int .i64 SL, .int .i64 SO] 31) := ⟨_, rfl⟩
    have hb22 : Below w2.heap.size w2 W2 := by rw [hW2]; exact (Below.refl _ _).alloc (Nat.le_refl _) _
    have HQ := Lib.hid (show Box7 W2 w2.heap.size 31 (.slice fa2 SF.length fc2) (.slice ia2 SI.length ic2) (.int .i64 X) (.int .i64 Y) (.int .i64 Z) (.int .i64 SL) (.int .i64 SO) from by rw [hW2]; exact Box7.new _ _ _ _ _ _ _ _ _)
    have hb12 := hb2.trans (hb22.mono hb2.size)
    have HN := Lib.hid (HN.out.below hb12)
    have HW := Lib.hid (HW.out.trans (hb12.mono HW.out.size))
    have HQV := Lib.hid (hQV.below hb22)
    have HQN := Lib.hid (hQN.below hb22)
    have HU2 := Lib.hid (hU2.below hb22)
    have HL2 := Lib.hid hl2
    clear r2 ru2 hb2 hb22 hb12 hQV hQN hU2 hl2
    go_upto_region 5 with (fail)
    rw [← hW2]
    clear hW2
    go_wp2_with fail
    refine (H2.out _ HN.out).mono ?_
    rintro e w3 ⟨v3, u3, n3, rfl, r3, ru3, hb3⟩
    obtain ⟨fa3, fc3, ia3, ic3, rfl, hRV, hRN⟩ := r3.read
    obtain ⟨ua3, uc3, rfl, hU3, hl3⟩ := ru3.nums
    obtain ⟨W3, hW3⟩ : ∃ W3, W3 = w3.alloc (.cells #[.slice fa3 SF.length fc3, .slice ia3 SI.length ic3, .int .i64 X, .int .i64 Y, .int .i64 Z, .int .i64 SL, .int .i64 SO] 31) := ⟨_, rfl⟩
    have hb33 : Below w3.heap.size w3 W3 := by rw [hW3]; exact (Below.refl _ _).alloc (Nat.le_refl _) _
    have HR := Lib.hid (show Box7 W3 w3.heap.size 31 (.slice fa3 SF.length fc3) (.slice ia3 SI.length ic3) (.int .i64 X) (.int .i64 Y) (.int .i64 Z) (.int .i64 SL) (.int .i64 SO) from by rw [hW3]; exact Box7.new _ _ _ _ _ _ _ _ _)
    have hb13 := hb3.trans (hb33.mono hb3.size)
    have HN := Lib.hid (HN.out.below hb13)
    have HQ := Lib.hid (HQ.out.call hb13)
    have HW := Lib.hid (HW.out.trans (hb13.mono HW.out.size))
    have HQV := Lib.hid (HQV.out.below hb13)
    have HQN := Lib.hid (HQN.out.below hb13)
    have HU2 := Lib.hid (HU2.out.below hb13)
    have HRV := Lib.hid (hRV.below hb33)
    have HRN := Lib.hid (hRN.below hb33)
    have HU3 := Lib.hid (hU3.below hb33)
    have HL3 := Lib.hid hl3
    clear r3 ru3 hb3 hb33 hb13 hRV hRN hU3 hl3 H1 H2
    go_upto_region 6 with (fail)
    rw [← hW3]
    clear hW3
    obtain ⟨q0, q1, q2, q3, q4, q5, q6⟩ := HQ.out.cells
    obtain ⟨r0, r1, r2, r3, r4, r5, r6⟩ := HR.out.cells
    go_wp2_with fail
    refine (waStacks_same _ _ _ _ _ _ _ _ _ _ _ _ _ _ _ SF SI _ HQV.out HQN.out HRV.out HRN.out).mono ?_
    rintro e w4 ⟨rfl, hb4⟩
    have HN := Lib.hid (HN.out.below hb4)
    have HQ := Lib.hid (HQ.out.call hb4)
    have HR := Lib.hid (HR.out.call hb4)
    have HW := Lib.hid (HW.out.trans (hb4.mono HW.out.size))
    have HQV := Lib.hid (HQV.out.below hb4)
    have HQN := Lib.hid (HQN.out.below hb4)
    have HU2 := Lib.hid (HU2.out.below hb4)
    have HRV := Lib.hid (HRV.out.below hb4)
    have HRN := Lib.hid (HRN.out.below hb4)
    have HU3 := Lib.hid (HU3.out.below hb4)
    clear hb4 q0 q1 q2 q3 q4 q5 q6 r0 r1 r2 r3 r4 r5 r6
    obtain ⟨q0, q1, q2, q3, q4, q5, q6⟩ := HQ.out.cells
    obtain ⟨r0, r1, r2, r3, r4, r5, r6⟩ := HR.out.cells
    cases b
    · skip
      go_wp2_with fail
      refine (waStacks_same _ _ _ _ _ _ _ _ _ _ _ _ _ _ _ SF SI _ HQV.out HQN.out HRV.out HRN.out).mono ?_
      rintro e w5 ⟨rfl, hb5⟩
      have HW := Lib.hid (HW.out.trans (hb5.mono HW.out.size))
      clear hb5
      go_wp2_with fail
      go_returns
      exact ⟨rfl, HW.out⟩
    · have hst : Agg.stAt k l m = ⟨SF, SI, ⟨X, Y, Z⟩, SL, SO⟩ := by rw [HS.out, Agg.runS_of HBB.out.symm, HLL.out]
      obtain ⟨c0, c1, c2, c3⟩ := Agg.cost_at k l m
      rw [hst] at c0 c1 c2 c3
      simp only at c0 c1 c2 c3
      have hple := Agg.pushes_le l m
      have HC := Lib.hid (show 0 ≤ SL ∧ SL + (Agg.pushes l m : Nat) ≤ (m : Nat) ∧ ((Agg.pushes l m : Nat) : Int) ≤ SO ∧ SO ≤ 2 * (Agg.pushes l m : Nat) ∧ Agg.pushes l m ≤ m from ⟨c0, c1, c2, by omega, hple⟩)
      clear c0 c1 c2 c3 hst hple HQV HQN HRV HRN HU2 HU3 HR r0 r1 r2 r3 r4 r5 r6
      go_wp2_with fail
      go_loopw [11, 12] (fun pv i wr => ∃ j : Nat, j ≤ m ∧ pv = .int .i64 (Agg.pushes l j : Nat) ∧ i = .int .i64 j ∧ Hid (wr = w4)) (fun _ i _ => m - (intOf i).toNat)
      case atStart => exact ⟨0, Nat.zero_le _, rfl, rfl, Lib.hid rfl⟩
      case round =>
        obtain ⟨j, hj, rfl, rfl, hwr⟩ := hrel
        have hwr2 := hwr.out
        clear hwr
        subst hwr2
        by_cases hlt : j < m
        · rcases HN.out.2.2.2 with h0 | ⟨b, off, rfl, hbw, hcs⟩
          · omega
          · have hck := (hcs j hlt).1
            clear hcs
            have hstep : Agg.pushes l (j + 1) = Agg.pushes l j + (if (Agg.opAt l j).1 then 1 else 0) := rfl
            have hopat : Agg.opAt l j = l[j]?.getD (false, 0) := rfl
            rw [← hopat] at hck
            obtain ⟨⟨p, x⟩, hpx⟩ : ∃ o, o = Agg.opAt l j := ⟨_, rfl⟩
            rw [← hpx] at hck hstep
            simp only at hck hstep
            have hpl := Agg.pushes_le l j
            obtain ⟨P, hP⟩ : ∃ P, P = Agg.pushes l j := ⟨_, rfl⟩
            rw [← hP] at hstep hpl ⊢
            have HST := Lib.hid hstep
            have HPX := Lib.hid hpx
            have hk0 : (0 : Int) ≤ (j : Int) := Int.natCast_nonneg _
            have hkn : (j : Int) < (m : Int) := by omega
            clear hstep hpx hopat hP q0 q1 q2 q3 q4 q5 q6
            cases p
            · go_wp2_with fail
              go_roundw
              case rel => exact ⟨j + 1, by omega, by rw [HST.out]; rfl, by go_num, Lib.hid (by first | rfl | trivial)⟩
              case measure => simp [intOf]; omega
            · go_wp2_with fail
              go_roundw
              case rel => exact ⟨j + 1, by omega, by rw [HST.out]; go_num, by go_num, Lib.hid (by first | rfl | trivial)⟩
              case measure => simp [intOf]; omega
        · obtain rfl : j = m := by omega
          have hlt' : ¬ (j : Int) < (j : Int) := by omega
          obtain ⟨c0, c1, c2, c3, c4⟩ := HC.out
          obtain ⟨P, hP⟩ : ∃ P, P = Agg.pushes l j := ⟨_, rfl⟩
          rw [← hP] at c1 c2 c3 c4 ⊢
          have w1' : IntKind.i64.wrap (2 * (P : Int)) = 2 * (P : Int) := IntWalk.i64_in _ ⟨by omega, by omega⟩
          have w2' : IntKind.i64.wrap ((j : Int) - (P : Int)) = (j : Int) - (P : Int) := IntWalk.i64_in _ ⟨by omega, by omega⟩
          have d1 := decide_eq_true c3
          have d2 := decide_eq_true (show SL ≤ (j : Int) - (P : Int) by omega)
          have d3 := decide_eq_true c2
          clear hP c0 c1 c2 c3
          go_wp2_with fail
          go_returns
          exact ⟨by first | rfl | (simp; omega), HW.out⟩
  · go_enter Tryz.func4, Tryz.ntmps4
    go_wp2
    go_returns
    exact ⟨rfl, Below.refl _ _⟩
end Go.Proofs.YtikdjdoggjhmaaaGreat
