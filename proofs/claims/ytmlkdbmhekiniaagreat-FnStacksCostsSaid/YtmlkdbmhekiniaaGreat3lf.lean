/-
  The law FnStacksStep, walked.
-/
import Derived.Test.YtmlkdbmhekiniaaGreat3ld
import Derived.Test.YtmlkdbmhekiniaaGreat3va
import Derived.Deep.RegionHeld3
import Derived.Deep.DeepCutAuto
namespace Go.Proofs.YtmlkdbmhekiniaaGreat
set_option linter.unusedSimpArgs false
set_option linter.unusedVariables false
open Go.RowKit
namespace Agg
theorem opAt_r (l : List (Bool × Int)) {i j : Nat} (h : j < i) : opAt (l.take i) j = opAt l j := by simp [opAt, List.getElem?_take, h]
theorem winAt_r (l : List (Bool × Int)) (i : Nat) : ∀ j, j ≤ i → winAt (l.take i) j = winAt l j
  | 0, _ => rfl
  | j + 1, h => by simp only [winAt]; rw [winAt_r l i j (by omega), opAt_r l (by omega)]
theorem allOk_r (l : List (Bool × Int)) (i : Nat) : ∀ j, j ≤ i → allOk (l.take i) j = allOk l j
  | 0, _ => rfl
  | j + 1, h => by simp only [allOk]; rw [allOk_r l i j (by omega), opAt_r l (by omega)]
theorem fitTo_r (l : List (Bool × Int)) (i : Nat) : ∀ j, j ≤ i → fitTo (l.take i) j = fitTo l j
  | 0, _ => rfl
  | j + 1, h => by simp only [fitTo]; rw [fitTo_r l i j (by omega), opAt_r l (by omega), winAt_r l i j (by omega)]
theorem opsOk_r {l : List (Bool × Int)} (h : opsOk l = true) {i : Nat} (hi : i ≤ l.length) : opsOk (l.take i) = true := by
  obtain ⟨h1, h2, h3⟩ := opsOk_parts h
  have hl : (l.take i).length = i := by simp; omega
  simp only [opsOk, hl, Bool.and_eq_true, decide_eq_true_eq]
  exact ⟨⟨by omega, by rw [allOk_r l i i (Nat.le_refl _)]; exact allOk_down hi h2⟩, by rw [fitTo_r l i i (Nat.le_refl _)]; exact fitTo_down hi h3⟩
theorem stAt_r (k : Int) (l : List (Bool × Int)) (i : Nat) : ∀ j, j ≤ i → stAt k (l.take i) j = stAt k l j
  | 0, _ => rfl
  | j + 1, h => by simp only [stAt]; rw [stAt_r k l i j (by omega), opAt_r l (by omega)]
/-- A run of the first changes. -/
theorem run_r {k : Int} {l : List (Bool × Int)} (h : runOk k l = true) {i : Nat} (hi : i ≤ l.length) : runOk k (l.take i) = true ∧ runS k (l.take i) = stAt k l i := by
  obtain ⟨hk, ho⟩ := runOk_parts h
  have h2 : runOk k (l.take i) = true := by simp [runOk, hk, opsOk_r ho hi]
  refine ⟨h2, ?_⟩
  rw [runS_of h2, show (l.take i).length = i by simp; omega]
  exact stAt_r k l i i (Nat.le_refl _)
end Agg
theorem Ops.pre_r {w : World} {a : Option Addr} {n cap : Nat} {l : List (Bool × Int)} (h : Ops w a n cap l) {i : Nat} (hi : i ≤ n) : Ops w a i cap (l.take i) := by
  obtain ⟨h1, h2, h3, h4⟩ := h
  refine ⟨by simp; omega, by omega, h3, ?_⟩
  rcases h4 with h4 | ⟨b, off, ha, hb, hc⟩
  · exact .inl (by omega)
  · exact .inr ⟨b, off, ha, hb, fun j hj => by rw [List.getElem?_take, if_pos hj]; exact hc j (by omega)⟩
set_option maxRecDepth 8000 in
set_option maxHeartbeats 8000000 in
theorem law_FnStacksStep (a : Option Addr) (n cap : Nat) (zs : List Int) (w : World) (hrow : IsRow .u8 w a n cap zs) :
    Calls Tryz.prog 12 #[.slice a n cap] w fun e w' => e = .returned (.bool true) ∧ Below w.heap.size w w' := by
  have HB := Lib.hid (Bytes.of_row hrow)
  have hm : cap ≤ 9223372036854775807 := HB.out.2.1
  have hnc : n ≤ cap := HB.out.1
  clear hrow
  by_cases hn : n ≤ 1048576
  · go_enter Tryz.func12, Tryz.ntmps12
    go_wp2_with fail
    refine (drawStacksRun_any _ _ _ _ _ HB.out).mono ?_
    rintro e w1 ⟨k, v0, m, l, rfl, hO, hm100, -, -, hb1⟩
    obtain ⟨oa, oc, rfl, hOp⟩ := hO.ops
    have hml : m ≤ oc := hOp.2.1
    have hmc : oc ≤ 9223372036854775807 := by have := hOp.2.2.1; unfold maxLen at this; omega
    have HLL := Lib.hid (show l.length = m from hOp.1)
    have HN := Lib.hid hOp
    have HW := Lib.hid hb1
    clear hO hOp hb1
    have h1 := fun w h => stacksRun_any k oa m oc l w h
    have h2 := fun w h => s_stacksRun_any k oa m oc l w h
    obtain ⟨⟨SF, SI, ⟨X, Y, Z⟩, SL, SO⟩, hS⟩ : ∃ S, S = Agg.runS k l := ⟨_, rfl⟩
    obtain ⟨NL, hNL⟩ : ∃ N, N = Agg.runN k l := ⟨_, rfl⟩
    obtain ⟨b, hb⟩ : ∃ b, b = Agg.runOk k l := ⟨_, rfl⟩
    rw [← hS, ← hNL, ← hb] at h1 h2
    have H1 := Lib.hid h1
    have H2 := Lib.hid h2
    have HS := Lib.hid hS
    have HNL := Lib.hid hNL
    have HBB := Lib.hid hb
    clear h1 h2 hS hNL hb
    go_wp2_with fail
    refine (H1.out _ HN.out).mono ?_
    rintro e w2 ⟨v2, u2, n2, rfl, r2, ru2, hb2⟩
    obtain ⟨fa2, fc2, ia2, ic2, rfl, hQV, hQN⟩ := r2.read
    obtain ⟨ua2, uc2, rfl, hU2, hl2⟩ := ru2.nums
    have hwsv : w.heap.size ≤ w2.heap.size := Nat.le_trans HW.out.size hb2.size
    obtain ⟨W2, hW2⟩ : ∃ W2, W2 = w2.alloc (.cells #[.slice fa2 SF.length fc2, .slice ia2 SI.length ic2, .int .i64 X, .int .i64 Y, .int .i64 Z, .int .i64 SL, .int .i64 SO] 59) := ⟨_, rfl⟩
    have hb22 : Below w2.heap.size w2 W2 := by rw [hW2]; exact (Below.refl _ _).alloc (Nat.le_refl _) _
    have HQ := Lib.hid (show Box7 W2 w2.heap.size 59 (.slice fa2 SF.length fc2) (.slice ia2 SI.length ic2) (.int .i64 X) (.int .i64 Y) (.int .i64 Z) (.int .i64 SL) (.int .i64 SO) from by rw [hW2]; exact Box7.new _ _ _ _ _ _ _ _ _)
    have hb12 := hb2.trans (hb22.mono hb2.size)
    have HN := Lib.hid (HN.out.below hb12)
    have HW := Lib.hid (HW.out.trans (hb12.mono HW.out.size))
    have HQV := Lib.hid (hQV.below hb22)
    have HQN := Lib.hid (hQN.below hb22)
    have HU2 := Lib.hid (hU2.below hb22)
    have HL2 := Lib.hid hl2
    clear r2 ru2 hb2 hb22 hb12 hQV hQN hU2 hl2
    go_upto_region 5 with (fail)
    rw [← hW2]
    clear hW2
    go_wp2_with fail
    refine (H2.out _ HN.out).mono ?_
    rintro e w3 ⟨v3, u3, n3, rfl, r3, ru3, hb3⟩
    obtain ⟨fa3, fc3, ia3, ic3, rfl, hRV, hRN⟩ := r3.read
    obtain ⟨ua3, uc3, rfl, hU3, hl3⟩ := ru3.nums
    obtain ⟨W3, hW3⟩ : ∃ W3, W3 = w3.alloc (.cells #[.slice fa3 SF.length fc3, .slice ia3 SI.length ic3, .int .i64 X, .int .i64 Y, .int .i64 Z, .int .i64 SL, .int .i64 SO] 59) := ⟨_, rfl⟩
    have hb33 : Below w3.heap.size w3 W3 := by rw [hW3]; exact (Below.refl _ _).alloc (Nat.le_refl _) _
    have HR := Lib.hid (show Box7 W3 w3.heap.size 59 (.slice fa3 SF.length fc3) (.slice ia3 SI.length ic3) (.int .i64 X) (.int .i64 Y) (.int .i64 Z) (.int .i64 SL) (.int .i64 SO) from by rw [hW3]; exact Box7.new _ _ _ _ _ _ _ _ _)
    have hb13 := hb3.trans (hb33.mono hb3.size)
    have HN := Lib.hid (HN.out.below hb13)
    have HQ := Lib.hid (HQ.out.call hb13)
    have HW := Lib.hid (HW.out.trans (hb13.mono HW.out.size))
    have HQV := Lib.hid (HQV.out.below hb13)
    have HQN := Lib.hid (HQN.out.below hb13)
    have HU2 := Lib.hid (HU2.out.below hb13)
    have HRV := Lib.hid (hRV.below hb33)
    have HRN := Lib.hid (hRN.below hb33)
    have HU3 := Lib.hid (hU3.below hb33)
    have HL3 := Lib.hid hl3
    clear r3 ru3 hb3 hb33 hb13 hRV hRN hU3 hl3 H1 H2
    go_upto_region 6 with (fail)
    rw [← hW3]
    clear hW3
    obtain ⟨q0, q1, q2, q3, q4, q5, q6⟩ := HQ.out.cells
    obtain ⟨r0, r1, r2, r3, r4, r5, r6⟩ := HR.out.cells
    go_wp2_with fail
    refine (waStacks_same _ _ _ _ _ _ _ _ _ _ _ _ _ _ _ SF SI _ HQV.out HQN.out HRV.out HRN.out).mono ?_
    rintro e w4 ⟨rfl, hb4⟩
    have HN := Lib.hid (HN.out.below hb4)
    have HQ := Lib.hid (HQ.out.call hb4)
    have HR := Lib.hid (HR.out.call hb4)
    have HW := Lib.hid (HW.out.trans (hb4.mono HW.out.size))
    have HQV := Lib.hid (HQV.out.below hb4)
    have HQN := Lib.hid (HQN.out.below hb4)
    have HU2 := Lib.hid (HU2.out.below hb4)
    have HRV := Lib.hid (HRV.out.below hb4)
    have HRN := Lib.hid (HRN.out.below hb4)
    have HU3 := Lib.hid (HU3.out.below hb4)
    clear hb4 q0 q1 q2 q3 q4 q5 q6 r0 r1 r2 r3 r4 r5 r6
    obtain ⟨q0, q1, q2, q3, q4, q5, q6⟩ := HQ.out.cells
    obtain ⟨r0, r1, r2, r3, r4, r5, r6⟩ := HR.out.cells
    cases b
    · skip
      go_wp2_with fail
      refine (waStacks_same _ _ _ _ _ _ _ _ _ _ _ _ _ _ _ SF SI _ HQV.out HQN.out HRV.out HRN.out).mono ?_
      rintro e w5 ⟨rfl, hb5⟩
      have HW := Lib.hid (HW.out.trans (hb5.mono HW.out.size))
      clear hb5
      go_wp2_with fail
      go_returns
      exact ⟨rfl, HW.out⟩
    · by_cases hm0 : m = 0
      · have hm0I : (m : Int) = 0 := by omega
        clear hm0
        go_wp2_with fail
        refine (waStacks_same _ _ _ _ _ _ _ _ _ _ _ _ _ _ _ SF SI _ HQV.out HQN.out HRV.out HRN.out).mono ?_
        rintro e w5 ⟨rfl, hb5⟩
        have HW := Lib.hid (HW.out.trans (hb5.mono HW.out.size))
        clear hb5
        go_wp2_with fail
        go_returns
        exact ⟨rfl, HW.out⟩
      · obtain ⟨M, hM⟩ : ∃ M, M = m - 1 := ⟨_, rfl⟩
        have hMm : M < m := by omega
        have HM := Lib.hid (show m = M + 1 by omega)
        have hm0I : ¬ (m : Int) = 0 := by omega
        have hlast : (0 : Int) ≤ (M : Int) := Int.natCast_nonneg _
        have hsub : (m : Int) - 1 = (M : Int) := by omega
        have hlt1 : (M : Int) ≤ (oc : Int) := by omega
        have hkn : (M : Int) < (m : Int) := by omega
        have hll := HLL.out
        obtain ⟨g1, g2⟩ := Agg.run_r HBB.out.symm (i := M) (by omega)
        obtain ⟨hk, ho⟩ := Agg.runOk_parts HBB.out.symm
        have g3 := (Agg.run_step2 hk ho (j := M) (by omega)).1
        have h60 := Agg.run60 hk ho (j := M) (by omega)
        have hfin : Agg.stAt k l (M + 1) = ⟨SF, SI, ⟨X, Y, Z⟩, SL, SO⟩ := by rw [HS.out, Agg.runS_of HBB.out.symm, hll, HM.out]
        have hrun := fun w h => stacksRun_any k oa M oc (l.take M) w h
        rw [g1, g2] at hrun
        have hstep := fun fa fc ia ic w h h' => stacksStep_any k fa (Agg.stAt k l M).front.length fc ia (Agg.stAt k l M).items.length ic (Agg.stAt k l M).back.x (Agg.stAt k l M).back.y (Agg.stAt k l M).back.z (Agg.stAt k l M).flips (Agg.stAt k l M).cost (Agg.stAt k l M).front (Agg.stAt k l M).items (Agg.opAt l M).1 (Agg.opAt l M).2 w h h' (by omega) (by omega)
        rw [show Agg.stepOk k ⟨(Agg.stAt k l M).front, (Agg.stAt k l M).items, ⟨(Agg.stAt k l M).back.x, (Agg.stAt k l M).back.y, (Agg.stAt k l M).back.z⟩, (Agg.stAt k l M).flips, (Agg.stAt k l M).cost⟩ ((Agg.opAt l M).1, (Agg.opAt l M).2) = true from g3,
          show Agg.aStep k ⟨(Agg.stAt k l M).front, (Agg.stAt k l M).items, ⟨(Agg.stAt k l M).back.x, (Agg.stAt k l M).back.y, (Agg.stAt k l M).back.z⟩, (Agg.stAt k l M).flips, (Agg.stAt k l M).cost⟩ ((Agg.opAt l M).1, (Agg.opAt l M).2) = ⟨SF, SI, ⟨X, Y, Z⟩, SL, SO⟩ from by rw [← hfin]; exact Agg.aStep_of g3] at hstep
        obtain ⟨⟨p, x⟩, hpx⟩ : ∃ o, o = Agg.opAt l M := ⟨_, rfl⟩
        rw [← hpx] at hstep
        obtain ⟨PS, hPS⟩ : ∃ PS, PS = Agg.stAt k l M := ⟨_, rfl⟩
        rw [← hPS] at hrun hstep
        obtain ⟨PF, PI, ⟨PX, PY, PZ⟩, PL, PO⟩ := PS
        simp only at hstep
        have hstep2 : ∀ (fa5 : Option Addr) (fc5 : Nat) (ia5 : Option Addr) (ic5 : Nat) (w : World), Vals w fa5 PF.length fc5 PF → Nums .i64 w ia5 PI.length ic5 PI → Calls Tryz.prog 50 #[.int .i64 k, .agg #[.slice fa5 PF.length fc5, .slice ia5 PI.length ic5, .int .i64 PX, .int .i64 PY, .int .i64 PZ, .int .i64 PL, .int .i64 PO], .agg #[.bool p, .int .i64 x]] w (StepOut true ⟨SF, SI, ⟨X, Y, Z⟩, SL, SO⟩ w) := hstep
        have HRUN := Lib.hid hrun
        have HSTP0 := Lib.hid hstep2
        rcases HN.out.2.2.2 with h0 | ⟨ob, off, rfl, hbw, hcs⟩
        · omega
        · have hck := (hcs M hMm).1
          have hcl := (hcs M hMm).2
          clear hcs
          have hopat : Agg.opAt l M = l[M]?.getD (false, 0) := rfl
          rw [← hopat, ← hpx] at hck hcl
          have HCK := Lib.hid (And.intro hck hcl)
          have HBW := Lib.hid hbw
          clear hrun hstep hstep2 hck hcl hopat hpx hPS hfin g1 g2 g3 hk ho h60 hll hM hbw hMm HRV HRN HU2 HU3 HR r0 r1 r2 r3 r4 r5 r6
          go_wp2_with fail
          refine (HRUN.out _ (Ops.pre_r HN.out (by have := HM.out; omega))).mono ?_
          rintro e w5 ⟨v5, u5, n5, rfl, r5, ru5, hb5⟩
          obtain ⟨fa5, fc5, ia5, ic5, rfl, hPV, hPN⟩ := r5.read
          obtain ⟨ua5, uc5, rfl, -, -⟩ := ru5.nums
          obtain ⟨W5, hW5⟩ : ∃ W5, W5 = w5.alloc (.cells #[.slice fa5 PF.length fc5, .slice ia5 PI.length ic5, .int .i64 PX, .int .i64 PY, .int .i64 PZ, .int .i64 PL, .int .i64 PO] 59) := ⟨_, rfl⟩
          have hb55 : Below w5.heap.size w5 W5 := by rw [hW5]; exact (Below.refl _ _).alloc (Nat.le_refl _) _
          have HP := Lib.hid (show Box7 W5 w5.heap.size 59 (.slice fa5 PF.length fc5) (.slice ia5 PI.length ic5) (.int .i64 PX) (.int .i64 PY) (.int .i64 PZ) (.int .i64 PL) (.int .i64 PO) from by rw [hW5]; exact Box7.new _ _ _ _ _ _ _ _ _)
          have hb15 := hb5.trans (hb55.mono hb5.size)
          have HQ := Lib.hid (HQ.out.call hb15)
          have HW := Lib.hid (HW.out.trans (hb15.mono HW.out.size))
          have HQV := Lib.hid (HQV.out.below hb15)
          have HQN := Lib.hid (HQN.out.below hb15)
          have HPV := Lib.hid (hPV.below hb55)
          have HPN := Lib.hid (hPN.below hb55)
          have HCK := Lib.hid (show W5.cell? ⟨ob, off + M * 2, none⟩ = some (.bool p) ∧ W5.cell? ⟨ob, off + M * 2 + 1, none⟩ = some (.int .i64 x) from ⟨(hb15.cell (p := ⟨ob, off + M * 2, none⟩) HBW.out).trans HCK.out.1, (hb15.cell (p := ⟨ob, off + M * 2 + 1, none⟩) HBW.out).trans HCK.out.2⟩)
          have HBW := Lib.hid (Nat.lt_of_lt_of_le HBW.out hb15.size)
          clear r5 ru5 hb5 hb55 hb15 hPV hPN q0 q1 q2 q3 q4 q5 q6 HRUN
          go_upto_region 10 with (fail)
          rw [← hW5]
          clear hW5
          have sq5 : ∀ X, Snc W5 X → (X.cell? ⟨w5.heap.size, 0, none⟩ = some (.slice fa5 PF.length fc5) ∧ X.cell? ⟨w5.heap.size, 1, none⟩ = some (.slice ia5 PI.length ic5) ∧ X.cell? ⟨w5.heap.size, 2, none⟩ = some (.int .i64 PX) ∧ X.cell? ⟨w5.heap.size, 3, none⟩ = some (.int .i64 PY) ∧ X.cell? ⟨w5.heap.size, 4, none⟩ = some (.int .i64 PZ) ∧ X.cell? ⟨w5.heap.size, 5, none⟩ = some (.int .i64 PL) ∧ X.cell? ⟨w5.heap.size, 6, none⟩ = some (.int .i64 PO)) ∧ X.cell? ⟨ob, off + M * 2, none⟩ = some (.bool p) ∧ X.cell? ⟨ob, off + M * 2 + 1, none⟩ = some (.int .i64 x) := fun X h => ⟨(HP.out.call h.1).cells, h.cell HCK.out.1 HBW.out, h.cell HCK.out.2 HBW.out⟩
          have SQ5 := Lib.hid sq5
          have HSTP := Lib.hid (fun w h h' => HSTP0.out fa5 fc5 ia5 ic5 w h h')
          clear sq5 HSTP0
          go_cut [15, 16] (fun s s' wx => ∃ c : Nat, s = .pointer (some ⟨c, 0, none⟩) ∧ s' = .bool true ∧ StkAns W5.heap.size wx.heap.size wx c ⟨SF, SI, ⟨X, Y, Z⟩, SL, SO⟩ ∧ Snc W5 wx)
          case first =>
            refine wp_region_held_drew (S := (fun X => (X.cell? ⟨w5.heap.size, 0, none⟩ = some (.slice fa5 PF.length fc5) ∧ X.cell? ⟨w5.heap.size, 1, none⟩ = some (.slice ia5 PI.length ic5) ∧ X.cell? ⟨w5.heap.size, 2, none⟩ = some (.int .i64 PX) ∧ X.cell? ⟨w5.heap.size, 3, none⟩ = some (.int .i64 PY) ∧ X.cell? ⟨w5.heap.size, 4, none⟩ = some (.int .i64 PZ) ∧ X.cell? ⟨w5.heap.size, 5, none⟩ = some (.int .i64 PL) ∧ X.cell? ⟨w5.heap.size, 6, none⟩ = some (.int .i64 PO)) ∧ X.cell? ⟨ob, off + M * 2, none⟩ = some (.bool p) ∧ X.cell? ⟨ob, off + M * 2 + 1, none⟩ = some (.int .i64 x))) (by kernel_rfl) (by exact SQ5.out _ (Snc.refl W5).drew) (fun hHeld => ?_)
            have HT := Lib.hid (Snc.refl W5).drew
            first | (refine wpAnyH_take (i := 0) (v := ?_) rfl (by kernel_rfl) (by kernel_rfl) (by kernel_rfl) (fun _ _ _ h => h) (Or.inl ⟨by rfl, ?_⟩) (by assumption) ?_; rotate_left; (intro X hSw; (try dsimp only at hSw); go_simp; (try with_reducible rfl)); (try simp only [Act.put, List.setIfInBounds_toArray, List.set_cons_zero, List.set_cons_succ, List.getElem_toArray, List.getElem_cons_zero, List.getElem_cons_succ])) | fail "take 0"
            first | (refine wpAnyH_take (i := 1) (v := ?_) rfl (by kernel_rfl) (by kernel_rfl) (by kernel_rfl) (fun _ _ _ h => h) (Or.inl ⟨by rfl, ?_⟩) (by assumption) ?_; rotate_left; (intro X hSw; (try dsimp only at hSw); go_simp; (try with_reducible rfl)); (try simp only [Act.put, List.setIfInBounds_toArray, List.set_cons_zero, List.set_cons_succ, List.getElem_toArray, List.getElem_cons_zero, List.getElem_cons_succ])) | fail "take 1"
            first | (refine wpAnyH_take (i := 2) (v := ?_) rfl (by kernel_rfl) (by kernel_rfl) (by kernel_rfl) (fun _ _ _ h => h) (Or.inl ⟨by rfl, ?_⟩) (by assumption) ?_; rotate_left; (intro X hSw; (try dsimp only at hSw); go_simp; (try with_reducible rfl)); (try simp only [Act.put, List.setIfInBounds_toArray, List.set_cons_zero, List.set_cons_succ, List.getElem_toArray, List.getElem_cons_zero, List.getElem_cons_succ])) | fail "take 2"
            first | (refine wpAnyH_take (i := 3) (v := ?_) rfl (by kernel_rfl) (by kernel_rfl) (by kernel_rfl) (fun _ _ _ h => h) (Or.inl ⟨by rfl, ?_⟩) (by assumption) ?_; rotate_left; (intro X hSw; (try dsimp only at hSw); go_simp; (try with_reducible rfl)); (try simp only [Act.put, List.setIfInBounds_toArray, List.set_cons_zero, List.set_cons_succ, List.getElem_toArray, List.getElem_cons_zero, List.getElem_cons_succ])) | fail "take 3"
            first | (refine wpAnyH_take (i := 4) (v := ?_) rfl (by kernel_rfl) (by kernel_rfl) (by kernel_rfl) (fun _ _ _ h => h) (Or.inl ⟨by rfl, ?_⟩) (by assumption) ?_; rotate_left; (intro X hSw; (try dsimp only at hSw); go_simp; (try with_reducible rfl)); (try simp only [Act.put, List.setIfInBounds_toArray, List.set_cons_zero, List.set_cons_succ, List.getElem_toArray, List.getElem_cons_zero, List.getElem_cons_succ])) | fail "take 4"
            first | (refine wpAnyH_take (i := 5) (v := ?_) rfl (by kernel_rfl) (by kernel_rfl) (by kernel_rfl) (fun _ _ _ h => h) (Or.inl ⟨by rfl, ?_⟩) (by assumption) ?_; rotate_left; (intro X hSw; (try dsimp only at hSw); go_simp; (try with_reducible rfl)); (try simp only [Act.put, List.setIfInBounds_toArray, List.set_cons_zero, List.set_cons_succ, List.getElem_toArray, List.getElem_cons_zero, List.getElem_cons_succ])) | fail "take 5"
            refine wpAnyH_ready (rs := [6, 10]) (by kernel_rfl) (by simp) ?_
            refine AllReadyH.cons rfl (fun K hK => ?_) (AllReadyH.cons rfl (fun K hK => ?_) AllReadyH.nil)
            · go_simp
              refine (HSTP.out _ (HPV.out.below HT.out.1) (HPN.out.below HT.out.1)).mono ?_
              rintro e v1 ⟨vv, rfl, rr, hbb⟩
              obtain ⟨fa9, fc9, ia9, ic9, rfl, -, -⟩ := rr.read
              have HO := Lib.hid rr
              have hloL := HT.out.2
              have hloH := hbb.size
              have HT := Lib.hid (HT.out.call hbb)
              clear hbb rr
              (try dsimp only)
              refine hK.out _ _ (by exact SQ5.out _ HT.out) (fun hHeld => ?_)
              clear hK K
              (try simp only [Act.put, List.setIfInBounds_toArray, List.set_cons_zero, List.set_cons_succ, List.getElem_toArray, List.getElem_cons_zero, List.getElem_cons_succ])
              first | (refine wpAnyH_take (i := 7) (v := ?_) rfl (by kernel_rfl) (by kernel_rfl) (by kernel_rfl) (fun _ _ _ h => h) (Or.inl ⟨by rfl, ?_⟩) (by assumption) ?_; rotate_left; (intro X hSw; (try dsimp only at hSw); go_simp; (try with_reducible rfl)); (try simp only [Act.put, List.setIfInBounds_toArray, List.set_cons_zero, List.set_cons_succ, List.getElem_toArray, List.getElem_cons_zero, List.getElem_cons_succ])) | fail "take 7"
              first | (refine wpAnyH_take (i := 8) (v := ?_) rfl (by kernel_rfl) (by kernel_rfl) (by kernel_rfl) (fun _ _ _ h => h) (Or.inl ⟨by rfl, ?_⟩) (by assumption) ?_; rotate_left; (intro X hSw; (try dsimp only at hSw); go_simp; (try with_reducible rfl)); (try simp only [Act.put, List.setIfInBounds_toArray, List.set_cons_zero, List.set_cons_succ, List.getElem_toArray, List.getElem_cons_zero, List.getElem_cons_succ])) | fail "take 8"
              first | (refine wpAnyH_take (i := 9) (v := ?_) rfl (by kernel_rfl) (by kernel_rfl) (by kernel_rfl) (fun _ _ _ h => h) (Or.inl ⟨by rfl, ?_⟩) (by assumption) ?_; rotate_left; (intro X hSw; (try dsimp only at hSw); go_simp; (try with_reducible rfl)); (try simp only [Act.put, List.setIfInBounds_toArray, List.set_cons_zero, List.set_cons_succ, List.getElem_toArray, List.getElem_cons_zero, List.getElem_cons_succ])) | fail "take 9"
              refine wpAnyH_ready (rs := [10]) (by kernel_rfl) (by simp) ?_
              refine AllReadyH.cons rfl (fun K hK => ?_) AllReadyH.nil
              go_simp
              (try dsimp only)
              refine hK.out _ _ (by exact SQ5.out _ (HT.out.alloc _)) (fun hHeld => ?_)
              clear hK K
              (try simp only [Act.put, List.setIfInBounds_toArray, List.set_cons_zero, List.set_cons_succ, List.getElem_toArray, List.getElem_cons_zero, List.getElem_cons_succ])
              refine wpAnyH_ready (rs := [11]) (by kernel_rfl) (by simp) ?_
              refine AllReadyH.cons rfl (fun K hK => ?_) AllReadyH.nil
              go_simp
              (try dsimp only)
              refine hK.out _ _ (by exact SQ5.out _ (HT.out.alloc _)) (fun hHeld => ?_)
              clear hK K
              (try simp only [Act.put, List.setIfInBounds_toArray, List.set_cons_zero, List.set_cons_succ, List.getElem_toArray, List.getElem_cons_zero, List.getElem_cons_succ])
              first | (refine wpAnyH_take (i := 12) (v := ?_) rfl (by kernel_rfl) (by kernel_rfl) (by kernel_rfl) (fun _ _ _ h => h) (Or.inl ⟨by rfl, ?_⟩) (by assumption) ?_; rotate_left; (intro X hSw; (try dsimp only at hSw); go_simp; (try with_reducible rfl)); (try simp only [Act.put, List.setIfInBounds_toArray, List.set_cons_zero, List.set_cons_succ, List.getElem_toArray, List.getElem_cons_zero, List.getElem_cons_succ])) | fail "take 12"
              refine wpAnyH_done (by kernel_rfl) ?_ _
              go_wp2_with fail
              go_meet
              exact ⟨_, rfl, rfl, StkAns.new (s := ⟨SF, SI, ⟨X, Y, Z⟩, SL, SO⟩) hloL hloH (Nat.le_refl _) HO.out, HT.out.alloc _⟩
            · go_simp
              obtain ⟨YY, hY⟩ : ∃ YY, YY = (W5.alloc (.cells #[.slice none 0 0, .slice none 0 0, .int .i64 0, .int .i64 0, .int .i64 0, .int .i64 0, .int .i64 0] 59)).drew := ⟨_, rfl⟩
              have HN9 := Lib.hid (show Box7 YY W5.heap.size 59 (.slice none 0 0) (.slice none 0 0) (.int .i64 0) (.int .i64 0) (.int .i64 0) (.int .i64 0) (.int .i64 0) from by rw [hY]; exact Box7.new _ _ _ _ _ _ _ _ _)
              have hYb : Below W5.heap.size W5 YY := by rw [hY]; exact ((Below.refl _ _).alloc (Nat.le_refl _) _).drew
              have hcW : W5.heap.size ≤ W5.heap.size := Nat.le_refl _
              have HT := Lib.hid (show Snc W5 YY from (Snc.refl W5).call hYb)
              have hcl : W5.heap.size < YY.heap.size := HN9.out.lt
              rw [← hY]
              clear hY hYb
              (try dsimp only)
              refine hK.out _ _ (by exact SQ5.out _ HT.out) (fun hHeld => ?_)
              clear hK K
              (try simp only [Act.put, List.setIfInBounds_toArray, List.set_cons_zero, List.set_cons_succ, List.getElem_toArray, List.getElem_cons_zero, List.getElem_cons_succ])
              refine wpAnyH_ready (rs := [6]) (by kernel_rfl) (by simp) ?_
              refine AllReadyH.cons rfl (fun K hK => ?_) AllReadyH.nil
              go_simp
              refine (HSTP.out _ (HPV.out.below HT.out.1) (HPN.out.below HT.out.1)).mono ?_
              rintro e v1 ⟨vv, rfl, rr, hbb⟩
              obtain ⟨fa9, fc9, ia9, ic9, rfl, -, -⟩ := rr.read
              have HO := Lib.hid rr
              have hloL := HT.out.2
              have hloH := hbb.size
              have HT := Lib.hid (HT.out.call hbb)
              have HN9 := Lib.hid (HN9.out.call hbb)
              clear hbb rr
              (try dsimp only)
              refine hK.out _ _ (by exact SQ5.out _ HT.out) (fun hHeld => ?_)
              clear hK K
              (try simp only [Act.put, List.setIfInBounds_toArray, List.set_cons_zero, List.set_cons_succ, List.getElem_toArray, List.getElem_cons_zero, List.getElem_cons_succ])
              first | (refine wpAnyH_take (i := 7) (v := ?_) rfl (by kernel_rfl) (by kernel_rfl) (by kernel_rfl) (fun _ _ _ h => h) (Or.inl ⟨by rfl, ?_⟩) (by assumption) ?_; rotate_left; (intro X hSw; (try dsimp only at hSw); go_simp; (try with_reducible rfl)); (try simp only [Act.put, List.setIfInBounds_toArray, List.set_cons_zero, List.set_cons_succ, List.getElem_toArray, List.getElem_cons_zero, List.getElem_cons_succ])) | fail "take 7"
              first | (refine wpAnyH_take (i := 8) (v := ?_) rfl (by kernel_rfl) (by kernel_rfl) (by kernel_rfl) (fun _ _ _ h => h) (Or.inl ⟨by rfl, ?_⟩) (by assumption) ?_; rotate_left; (intro X hSw; (try dsimp only at hSw); go_simp; (try with_reducible rfl)); (try simp only [Act.put, List.setIfInBounds_toArray, List.set_cons_zero, List.set_cons_succ, List.getElem_toArray, List.getElem_cons_zero, List.getElem_cons_succ])) | fail "take 8"
              first | (refine wpAnyH_take (i := 9) (v := ?_) rfl (by kernel_rfl) (by kernel_rfl) (by kernel_rfl) (fun _ _ _ h => h) (Or.inl ⟨by rfl, ?_⟩) (by assumption) ?_; rotate_left; (intro X hSw; (try dsimp only at hSw); go_simp; (try with_reducible rfl)); (try simp only [Act.put, List.setIfInBounds_toArray, List.set_cons_zero, List.set_cons_succ, List.getElem_toArray, List.getElem_cons_zero, List.getElem_cons_succ])) | fail "take 9"
              obtain ⟨X9, hX9⟩ : ∃ X9, X9 = (((((((v1.setCell ⟨W5.heap.size, 0, none⟩ (.slice fa9 SF.length fc9)).setCell ⟨W5.heap.size, 1, none⟩ (.slice ia9 SI.length ic9)).setCell ⟨W5.heap.size, 2, none⟩ (.int .i64 X)).setCell ⟨W5.heap.size, 3, none⟩ (.int .i64 Y)).setCell ⟨W5.heap.size, 4, none⟩ (.int .i64 Z)).setCell ⟨W5.heap.size, 5, none⟩ (.int .i64 SL)).setCell ⟨W5.heap.size, 6, none⟩ (.int .i64 SO)) := ⟨_, rfl⟩
              have HTX := Lib.hid (show Snc W5 X9 from by rw [hX9]; exact (((((((HT.out.set hcW _ _).set hcW _ _).set hcW _ _).set hcW _ _).set hcW _ _).set hcW _ _).set hcW _ _))
              have HANS := Lib.hid (show StkAns W5.heap.size X9.heap.size X9 W5.heap.size ⟨SF, SI, ⟨X, Y, Z⟩, SL, SO⟩ from by rw [hX9]; exact StkAns.set (s := ⟨SF, SI, ⟨X, Y, Z⟩, SL, SO⟩) hcW hcl (Nat.le_refl _) HN9.out HO.out)
              obtain ⟨z0, z1, z2, z3, z4, z5, z6⟩ := HN9.out.cells
              have zf := HN9.out.free
              refine wpAnyH_ready (rs := [11]) (by kernel_rfl) (by simp) ?_
              refine AllReadyH.cons rfl (fun K hK => ?_) AllReadyH.nil
              go_simp
              rw [← hX9]
              (try dsimp only)
              refine hK.out _ _ (by exact SQ5.out _ HTX.out) (fun hHeld => ?_)
              clear hK K
              (try simp only [Act.put, List.setIfInBounds_toArray, List.set_cons_zero, List.set_cons_succ, List.getElem_toArray, List.getElem_cons_zero, List.getElem_cons_succ])
              clear hX9 z0 z1 z2 z3 z4 z5 z6 zf
              first | (refine wpAnyH_take (i := 12) (v := ?_) rfl (by kernel_rfl) (by kernel_rfl) (by kernel_rfl) (fun _ _ _ h => h) (Or.inl ⟨by rfl, ?_⟩) (by assumption) ?_; rotate_left; (intro X hSw; (try dsimp only at hSw); go_simp; (try with_reducible rfl)); (try simp only [Act.put, List.setIfInBounds_toArray, List.set_cons_zero, List.set_cons_succ, List.getElem_toArray, List.getElem_cons_zero, List.getElem_cons_succ])) | fail "take 12"
              refine wpAnyH_done (by kernel_rfl) ?_ _
              go_wp2_with fail
              go_meet
              exact ⟨_, rfl, rfl, HANS.out, HTX.out⟩
          case rest =>
            obtain ⟨c0, rfl, rfl, hA0, hs0⟩ := hcut
            obtain ⟨lo0, hi0, fa6, fc6, ia6, ic6, -, -, -, -, -, -, hb6, ho6⟩ := hA0
            obtain ⟨aa, ac, ba, bc, ee, hv6, hn6⟩ := ho6.read
            simp only [Value.agg.injEq, Array.mk.injEq, List.cons.injEq, Value.slice.injEq, true_and, and_true] at ee
            obtain ⟨⟨rfl, rfl⟩, rfl, rfl⟩ := ee
            have HX := Lib.hid hb6
            have HXV := Lib.hid hv6
            have HXN := Lib.hid hn6
            have HQ := Lib.hid (HQ.out.call hs0.1)
            have HW := Lib.hid (HW.out.trans (hs0.1.mono HW.out.size))
            have HQV := Lib.hid (HQV.out.below hs0.1)
            have HQN := Lib.hid (HQN.out.below hs0.1)
            clear hb6 ho6 hv6 hn6 hs0 SQ5 HSTP HPV HPN HP
            obtain ⟨q0, q1, q2, q3, q4, q5, q6⟩ := HQ.out.cells
            obtain ⟨r0, r1, r2, r3, r4, r5, r6⟩ := HX.out.cells
            go_wp2_with fail
            refine (waStacks_same _ _ _ _ _ _ _ _ _ _ _ _ _ _ _ SF SI _ HXV.out HXN.out HQV.out HQN.out).mono ?_
            rintro e w8 ⟨rfl, hb8⟩
            have HW := Lib.hid (HW.out.trans (hb8.mono HW.out.size))
            clear hb8
            go_wp2_with fail
            go_returns
            exact ⟨rfl, HW.out⟩
  · go_enter Tryz.func12, Tryz.ntmps12
    go_wp2
    go_returns
    exact ⟨rfl, Below.refl _ _⟩
end Go.Proofs.YtmlkdbmhekiniaaGreat
