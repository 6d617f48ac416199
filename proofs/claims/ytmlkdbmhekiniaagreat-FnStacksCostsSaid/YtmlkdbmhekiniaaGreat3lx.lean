/-
  The law FnStacksCosts, walked.
-/
import Derived.Test.YtmlkdbmhekiniaaGreat3xa
import Derived.Test.YtmlkdbmhekiniaaGreat3lf
namespace Go.Proofs.YtmlkdbmhekiniaaGreat
set_option linter.unusedSimpArgs false
set_option linter.unusedVariables false
open Go.RowKit
theorem Agg.costs_at {k : Int} {l : List (Bool × Int)} (h : Agg.runOk k l = true) {j : Nat} (hj : j < l.length) : (Agg.costsN k l)[j]?.getD 0 = (Agg.stAt k l (j + 1)).cost - (Agg.stAt k l j).cost := by
  simp [Agg.costsN, h, Agg.stDiff, hj]
/-- A push costs one combination; a removal none, or as many as there are items. -/
theorem Agg.cost_each {k : Int} {l : List (Bool × Int)} (h : Agg.runOk k l = true) {j : Nat} (hj : j < l.length) :
    ((Agg.opAt l j).1 = true → (Agg.costsN k l)[j]?.getD 0 = 1) ∧ ((Agg.opAt l j).1 = false → (Agg.costsN k l)[j]?.getD 0 = 0 ∨ (Agg.costsN k l)[j]?.getD 0 = ((Agg.winAt l j).length : Int)) := by
  rw [Agg.costs_at h hj]
  obtain ⟨hk, ho⟩ := Agg.runOk_parts h
  simp only [Agg.opsOk, Bool.and_eq_true, decide_eq_true_eq] at ho
  have hs := (Agg.stands_at hk j (Agg.fitTo_down (by omega) ho.2)).size
  have e : Agg.stAt k l (j + 1) = Agg.stepS k (Agg.stAt k l j) (Agg.opAt l j) := rfl
  rw [e]
  simp only [Agg.S.size] at hs
  constructor
  · intro hp
    simp only [Agg.stepS, hp, if_true, Agg.pushS]
    omega
  · intro hp
    simp only [Agg.stepS, hp, Bool.false_eq_true, if_false, Agg.popS, Agg.readyS]
    split
    · rename_i h0
      simp only [Agg.flipS]
      omega
    · omega
theorem drawStacksCosts_any (a : Option Addr) (n cap : Nat) (l : List Int) (w : World) (h : Bytes w a n cap l) :
    Calls Tryz.prog 20 #[.slice a n cap] w (CaseDrawn w) := by
  have H := Lib.hid (l2Case_any a n cap l w h)
  go_enter Tryz.func20, Tryz.ntmps20
  go_wp2_with fail
  refine H.out.mono ?_
  rintro e w1 ⟨k, v, m, l', rfl, hO, hm, hk1, hk2, hb1⟩
  have HO := Lib.hid hO
  have HB := Lib.hid hb1
  clear hO hb1
  go_wp2
  go_returns
  exact ⟨k, v, m, l', rfl, HO.out, hm, hk1, hk2, HB.out⟩
set_option maxRecDepth 8000 in
set_option maxHeartbeats 4000000 in
theorem law_FnStacksCosts (a : Option Addr) (n cap : Nat) (zs : List Int) (w : World) (hrow : IsRow .u8 w a n cap zs) :
    Calls Tryz.prog 5 #[.slice a n cap] w fun e w' => e = .returned (.bool true) ∧ Below w.heap.size w w' := by
  have HB := Lib.hid (Bytes.of_row hrow)
  have hm : cap ≤ 9223372036854775807 := HB.out.2.1
  have hnc : n ≤ cap := HB.out.1
  clear hrow
  by_cases hn : n ≤ 1048576
  · go_enter Tryz.func5, Tryz.ntmps5
    go_wp2_with fail
    refine (drawStacksCosts_any _ _ _ _ _ HB.out).mono ?_
    rintro e w1 ⟨k, v0, m, l, rfl, hO, hm100, -, -, hb1⟩
    obtain ⟨oa, oc, rfl, hOp⟩ := hO.ops
    have hml : m ≤ oc := hOp.2.1
    have hmc : oc ≤ 9223372036854775807 := by have := hOp.2.2.1; unfold maxLen at this; omega
    have HLL := Lib.hid (show l.length = m from hOp.1)
    have HN := Lib.hid hOp
    have HW := Lib.hid hb1
    clear hO hOp hb1
    have h1 := fun w h => stacksCosts_any k oa m oc l w h
    have h2 := fun w h => s_stacksCosts_any k oa m oc l w h
    obtain ⟨NL, hNL⟩ : ∃ N, N = Agg.costsN k l := ⟨_, rfl⟩
    obtain ⟨b, hb⟩ : ∃ b, b = Agg.runOk k l := ⟨_, rfl⟩
    rw [← hNL, ← hb] at h1 h2
    have H1 := Lib.hid h1
    have H2 := Lib.hid h2
    have HNL := Lib.hid hNL
    have HBB := Lib.hid hb
    clear h1 h2 hNL hb
    go_wp2_with fail
    refine (H1.out _ HN.out).mono ?_
    rintro e w2 ⟨u2, n2, rfl, ru2, hb2⟩
    obtain ⟨ua2, uc2, rfl, hU2, hl2⟩ := ru2.nums
    have HN := Lib.hid (HN.out.below hb2)
    have HW := Lib.hid (HW.out.trans (hb2.mono HW.out.size))
    have HU2 := Lib.hid hU2
    have HL2 := Lib.hid hl2
    clear ru2 hb2 hU2 hl2
    go_wp2_with fail
    refine (H2.out _ HN.out).mono ?_
    rintro e w3 ⟨u3, n3, rfl, ru3, hb3⟩
    obtain ⟨ua3, uc3, rfl, hU3, hl3⟩ := ru3.nums
    have HN := Lib.hid (HN.out.below hb3)
    have HW := Lib.hid (HW.out.trans (hb3.mono HW.out.size))
    have HU2 := Lib.hid (HU2.out.below hb3)
    have HU3 := Lib.hid hU3
    clear ru3 hb3 hU3 hl3 H1 H2
    go_wp2_with fail
    refine (waInts_eq _ _ _ _ _ _ NL _ HU2.out HU3.out).mono ?_
    rintro e w4 ⟨rfl, hb4⟩
    have HN := Lib.hid (HN.out.below hb4)
    have HW := Lib.hid (HW.out.trans (hb4.mono HW.out.size))
    have HU2 := Lib.hid (HU2.out.below hb4)
    have HU3 := Lib.hid (HU3.out.below hb4)
    clear hb4
    cases b
    · go_wp2_with fail
      refine (waInts_eq _ _ _ _ _ _ NL _ HU2.out HU3.out).mono ?_
      rintro e w5 ⟨rfl, hb5⟩
      have HW := Lib.hid (HW.out.trans (hb5.mono HW.out.size))
      clear hb5
      go_wp2_with fail
      go_returns
      exact ⟨rfl, HW.out⟩
    · have hn2 : n2 = m := by
        have h1 := HL2.out
        rw [HNL.out] at h1
        simp only [Agg.costsN, ← HBB.out, if_true, Agg.stDiff_len] at h1
        have := HLL.out
        omega
      subst hn2
      have HCE := Lib.hid (fun j (hj : j < l.length) => Agg.cost_each (k := k) (l := l) HBB.out.symm hj)
      have HO := Lib.hid (Agg.runOk_parts HBB.out.symm).2
      go_wp2_with fail
      go_loopw [9] (fun i wr => ∃ (j : Nat), j ≤ n2 ∧ i = .int .i64 j ∧ Hid (Below w4.heap.size w4 wr)) (fun i _ => n2 - (intOf i).toNat)
      case atStart => exact ⟨0, Nat.zero_le _, rfl, Below.refl _ _⟩
      case round =>
        obtain ⟨j, hj, rfl, hw⟩ := hrel
        have HW := Lib.hid (HW.out.trans (hw.out.mono HW.out.size))
        have HN := Lib.hid (HN.out.below hw.out)
        have HU2 := Lib.hid (HU2.out.below hw.out)
        by_cases hlt : j < n2
        · have hwin := fun w h => windowAfter_any oa j oc (l.take j) w h
          have ho2 : Agg.opsOk (l.take j) = true := Agg.opsOk_r HO.out (by have := HLL.out; omega)
          have hwo : Agg.winOut (l.take j) = Agg.winAt l j := by
            have hl : (l.take j).length = j := by have := HLL.out; simp; omega
            simp only [Agg.winOut, ho2, if_true, hl]
            exact Agg.winAt_r l j j (Nat.le_refl _)
          rw [ho2, hwo] at hwin
          obtain ⟨c1, c2⟩ := HCE.out j (by have := HLL.out; omega)
          rw [← HNL.out] at c1 c2
          obtain ⟨WL, hWL⟩ : ∃ WL, WL = Agg.winAt l j := ⟨_, rfl⟩
          rw [← hWL] at hwin c2
          have HWI := Lib.hid hwin
          have HC1 := Lib.hid c1
          have HC2 := Lib.hid c2
          clear hwin hwo ho2 c1 c2 hWL
          have hk0 : (0 : Int) ≤ (j : Int) := Int.natCast_nonneg _
          have hkn : (j : Int) < (n2 : Int) := by omega
          have hko : (j : Int) ≤ (oc : Int) := by omega
          go_wp2_with fail
          refine (HWI.out _ (Ops.pre_r HN.out (by omega))).mono ?_
          rintro e w5 ⟨v5, n5, rfl, ro5, hb5⟩
          obtain ⟨ua5, uc5, rfl, hU5, hl5⟩ := ro5.nums
          have HN5 := Lib.hid (HN.out.below hb5)
          have HW5 := Lib.hid (HW.out.trans (hb5.mono HW.out.size))
          have HU5 := Lib.hid (HU2.out.below hb5)
          have hw5 := Lib.hid (hw.out.trans (hb5.mono hw.out.size))
          have HL5 := Lib.hid hl5
          clear ro5 hb5 hU5 HWI hl5
          rcases HN5.out.2.2.2 with h0 | ⟨ob, off, rfl, hbw, hcs⟩
          · omega
          · have hck := (hcs j hlt).1
            clear hcs
            rcases HU5.out.2.2.2 with h0 | ⟨ub, uo, rfl, hub, huc⟩
            · omega
            · have hcu := huc j hlt
              clear huc
              have hopat : Agg.opAt l j = l[j]?.getD (false, 0) := rfl
              rw [← hopat] at hck
              obtain ⟨⟨p, x⟩, hpx⟩ : ∃ o, o = Agg.opAt l j := ⟨_, rfl⟩
              rw [← hpx] at hck HC1 HC2
              obtain ⟨y, hy⟩ : ∃ y, y = NL[j]?.getD 0 := ⟨_, rfl⟩
              rw [← hy] at hcu HC1 HC2
              clear hopat hpx hy
              simp only at hck
              cases p
              · by_cases hy0 : y = 0
                · subst hy0
                  go_wp2_with fail
                  go_roundw
                  case rel => exact ⟨j + 1, by omega, by go_num, hw5⟩
                  case measure => simp [intOf]; omega
                · have hyn : y = (n5 : Int) := by have := HC2.out rfl; have := HL5.out; omega
                  subst hyn
                  go_wp2_with fail
                  go_roundw
                  case rel => exact ⟨j + 1, by omega, by go_num, hw5⟩
                  case measure => simp [intOf]; omega
              · obtain rfl : y = 1 := HC1.out rfl
                go_wp2_with fail
                go_roundw
                case rel => exact ⟨j + 1, by omega, by go_num, hw5⟩
                case measure => simp [intOf]; omega
        · obtain rfl : j = n2 := by omega
          have hlt2 : ¬ ((j : Int) < (j : Int)) := by omega
          go_wp2_with fail
          go_returns
          exact ⟨rfl, HW.out⟩
  · go_enter Tryz.func5, Tryz.ntmps5
    go_wp2
    go_returns
    exact ⟨rfl, Below.refl _ _⟩
end Go.Proofs.YtmlkdbmhekiniaaGreat
