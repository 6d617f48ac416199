/-
  The law FnStacksFront, walked.
-/
import Derived.Test.YtikdjdoggjhmaaaGreat3ld
import Derived.Deep.RegionHeld3
import Derived.Deep.DeepCutAuto
namespace Go.Proofs.YtikdjdoggjhmaaaGreat
set_option linter.unusedSimpArgs false
set_option linter.unusedVariables false
open Go.RowKit
/-- The fronts of a run are the aggregates of the last items of what stands in front. -/
theorem Agg.run_front {k : Int} {l : List (Bool × Int)} (h : Agg.runOk k l = true) :
    (Agg.runS k l).front.length ≤ (Agg.winOut l).length ∧ (Agg.runS k l).items = (Agg.winOut l).drop (Agg.runS k l).front.length ∧
    ∀ j, j < (Agg.runS k l).front.length → (Agg.runS k l).front[j]?.getD Agg.zero = Agg.fold k (((Agg.winOut l).drop ((Agg.runS k l).front.length - 1 - j)).take (j + 1)) ∧ Agg.itemsOk (((Agg.winOut l).drop ((Agg.runS k l).front.length - 1 - j)).take (j + 1)) = true := by
  obtain ⟨hk, ho⟩ := Agg.runOk_parts h
  obtain ⟨h1, hall, hfit⟩ := Agg.opsOk_parts ho
  have e1 := Agg.runS_of h
  obtain ⟨f, hw, hfr, hb⟩ := Agg.stands_at hk l.length hfit
  rw [← e1] at hw hfr hb
  have e2 : Agg.winOut l = f ++ (Agg.runS k l).items := by simp [Agg.winOut, ho, hw]
  have hit : Agg.itemsOk (Agg.winOut l) = true := by simp only [Agg.winOut, ho, if_true]; exact Agg.items_at hall hfit
  have hfl : (Agg.runS k l).front.length = f.length := by rw [hfr, Agg.sufs_length]
  refine ⟨by rw [e2, hfl]; simp, by rw [hfl, e2]; simp, fun j hj => ?_⟩
  have hok := Agg.items_take (Agg.items_drop hit ((Agg.runS k l).front.length - 1 - j)) (j + 1)
  refine ⟨?_, hok⟩
  rw [hfl] at hj ⊢
  rw [hfr]
  have e3 : (f ++ (Agg.runS k l).items).drop (f.length - 1 - j) = f.drop (f.length - 1 - j) ++ (Agg.runS k l).items := by
    rw [List.drop_append_of_le_length (by omega)]
  have e4 : (f.drop (f.length - 1 - j)).length = j + 1 := by simp; omega
  rw [e2, e3, List.take_append_of_le_length (by omega), List.take_of_length_le (by omega)]
  simp only [Agg.sufs]
  rw [List.getElem?_map, List.getElem?_range hj]
  simp only [Option.map_some, Option.getD_some, Agg.sufAt]
  rw [show f.length - (j + 1) = f.length - 1 - j by omega]
set_option maxRecDepth 8000 in
set_option maxHeartbeats 8000000 in
theorem law_FnStacksFront (a : Option Addr) (n cap : Nat) (zs : List Int) (w : World) (hrow : IsRow .u8 w a n cap zs) :
    Calls Tryz.prog 6 #[.slice a n cap] w fun e w' => e = .returned (.bool true) ∧ Below w.heap.size w w' := by
  have HB := Lib.hid (Bytes.of_row hrow)
  have hm : cap ≤ 9223372036854775807 := HB.out.2.1
  have hnc : n ≤ cap := HB.out.1
  clear hrow
  by_cases hn : n ≤ 1048576
  · go_enter Tryz.func6, Tryz.ntmps6
    go_wp2_with fail
    refine (drawStacksRun_any _ _ _ _ _ HB.out).mono ?_
    rintro e w1 ⟨k, v0, m, l, rfl, hO, hm100, -, -, hb1⟩
    obtain ⟨oa, oc, rfl, hOp⟩ := hO.ops
    have hml : m ≤ oc := hOp.2.1
    have hmc : oc ≤ 9223372036854775807 := by have := hOp.2.2.1; unfold maxLen at this; omega
    have HLL := Lib.hid (show l.length = m from hOp.1)
    have HN := Lib.hid hOp
    have HW := Lib.hid hb1
    clear hO hOp hb1
    have h1 := fun w h => stacksRun_any k oa m oc l w h
    have h2 := fun w h => s_stacksRun_any k oa m oc l w h
    obtain ⟨⟨SF, SI, ⟨X, Y, Z⟩, SL, SO⟩, hS⟩ : ∃ S, S = Agg.runS k l := ⟨_, rfl⟩
    obtain ⟨NL, hNL⟩ : ∃ N, N = Agg.runN k l := ⟨_, rfl⟩
    obtain ⟨b, hb⟩ : ∃ b, b = Agg.runOk k l := ⟨_, rfl⟩
    rw [← hS, ← hNL, ← hb] at h1 h2
    have H1 := Lib.hid h1
    have H2 := Lib.hid h2
    have HS := Lib.hid hS
    have HNL := Lib.hid hNL
    have HBB := Lib.hid hb
    clear h1 h2 hS hNL hb
    go_wp2_with fail
    refine (H1.out _ HN.out).mono ?_
    rintro e w2 ⟨v2, u2, n2, rfl, r2, ru2, hb2⟩
    obtain ⟨fa2, fc2, ia2, ic2, rfl, hQV, hQN⟩ := r2.read
    obtain ⟨ua2, uc2, rfl, hU2, hl2⟩ := ru2.nums
    have hwsv : w.heap.size ≤ w2.heap.size := Nat.le_trans HW.out.size hb2.size
    obtain ⟨W2, hW2⟩ : ∃ W2, W2 = w2.alloc (.cells #[.slice fa2 SF.length fc2, .slice ia2 SI.length ic2, .int .i64 X, .int .i64 Y, .int .i64 Z, .int .i64 SL, .int .i64 SO] 31) := ⟨_, rfl⟩
    have hb22 : Below w2.heap.size w2 W2 := by rw [hW2]; exact (Below.refl _ _).alloc (Nat.le_refl _) _
    have HQ := Lib.hid (show Box7 W2 w2.heap.size 31 (.slice fa2 SF.length fc2) (.slice ia2 SI.length ic2) (.int .i64 X) (.int .i64 Y) (.int .i64 Z) (.int .i64 SL) (.int .i64 SO) from by rw [hW2]; exact Box7.new _ _ _ _ _ _ _ _ _)
    have hb12 := hb2.trans (hb22.mono hb2.size)
    have HN := Lib.hid (HN.out.below hb12)
    have HW := Lib.hid (HW.out.trans (hb12.mono HW.out.size))
    have HQV := Lib.hid (hQV.below hb22)
    have HQN := Lib.hid (hQN.below hb22)
    have HU2 := Lib.hid (hU2.below hb22)
    have HL2 := Lib.hid hl2
    clear r2 ru2 hb2 hb22 hb12 hQV hQN hU2 hl2
    go_upto_region 5 with (fail)
    rw [← hW2]
    clear hW2
    go_wp2_with fail
    refine (H2.out _ HN.out).mono ?_
    rintro e w3 ⟨v3, u3, n3, rfl, r3, ru3, hb3⟩
    obtain ⟨fa3, fc3, ia3, ic3, rfl, hRV, hRN⟩ := r3.read
    obtain ⟨ua3, uc3, rfl, hU3, hl3⟩ := ru3.nums
    obtain ⟨W3, hW3⟩ : ∃ W3, W3 = w3.alloc (.cells #[.slice fa3 SF.length fc3, .slice ia3 SI.length ic3, .int .i64 X, .int .i64 Y, .int .i64 Z, .int .i64 SL, .int .i64 SO] 31) := ⟨_, rfl⟩
    have hb33 : Below w3.heap.size w3 W3 := by rw [hW3]; exact (Below.refl _ _).alloc (Nat.le_refl _) _
    have HR := Lib.hid (show Box7 W3 w3.heap.size 31 (.slice fa3 SF.length fc3) (.slice ia3 SI.length ic3) (.int .i64 X) (.int .i64 Y) (.int .i64 Z) (.int .i64 SL) (.int .i64 SO) from by rw [hW3]; exact Box7.new _ _ _ _ _ _ _ _ _)
    have hb13 := hb3.trans (hb33.mono hb3.size)
    have HN := Lib.hid (HN.out.below hb13)
    have HQ := Lib.hid (HQ.out.call hb13)
    have HW := Lib.hid (HW.out.trans (hb13.mono HW.out.size))
    have HQV := Lib.hid (HQV.out.below hb13)
    have HQN := Lib.hid (HQN.out.below hb13)
    have HU2 := Lib.hid (HU2.out.below hb13)
    have HRV := Lib.hid (hRV.below hb33)
    have HRN := Lib.hid (hRN.below hb33)
    have HU3 := Lib.hid (hU3.below hb33)
    have HL3 := Lib.hid hl3
    clear r3 ru3 hb3 hb33 hb13 hRV hRN hU3 hl3 H1 H2
    go_upto_region 6 with (fail)
    rw [← hW3]
    clear hW3
    obtain ⟨q0, q1, q2, q3, q4, q5, q6⟩ := HQ.out.cells
    obtain ⟨r0, r1, r2, r3, r4, r5, r6⟩ := HR.out.cells
    go_wp2_with fail
    refine (waStacks_same _ _ _ _ _ _ _ _ _ _ _ _ _ _ _ SF SI _ HQV.out HQN.out HRV.out HRN.out).mono ?_
    rintro e w4 ⟨rfl, hb4⟩
    have HN := Lib.hid (HN.out.below hb4)
    have HQ := Lib.hid (HQ.out.call hb4)
    have HR := Lib.hid (HR.out.call hb4)
    have HW := Lib.hid (HW.out.trans (hb4.mono HW.out.size))
    have HQV := Lib.hid (HQV.out.below hb4)
    have HQN := Lib.hid (HQN.out.below hb4)
    have HU2 := Lib.hid (HU2.out.below hb4)
    have HRV := Lib.hid (HRV.out.below hb4)
    have HRN := Lib.hid (HRN.out.below hb4)
    have HU3 := Lib.hid (HU3.out.below hb4)
    clear hb4 q0 q1 q2 q3 q4 q5 q6 r0 r1 r2 r3 r4 r5 r6
    obtain ⟨q0, q1, q2, q3, q4, q5, q6⟩ := HQ.out.cells
    obtain ⟨r0, r1, r2, r3, r4, r5, r6⟩ := HR.out.cells
    cases b
    · skip
      go_wp2_with fail
      refine (waStacks_same _ _ _ _ _ _ _ _ _ _ _ _ _ _ _ SF SI _ HQV.out HQN.out HRV.out HRN.out).mono ?_
      rintro e w5 ⟨rfl, hb5⟩
      have HW := Lib.hid (HW.out.trans (hb5.mono HW.out.size))
      clear hb5
      go_wp2_with fail
      go_returns
      exact ⟨rfl, HW.out⟩
    · by_cases hf0 : SF.length = 0
      · have hf0I : (SF.length : Int) = 0 := by omega
        clear hf0
        go_wp2_with fail
        refine (waStacks_same _ _ _ _ _ _ _ _ _ _ _ _ _ _ _ SF SI _ HQV.out HQN.out HRV.out HRN.out).mono ?_
        rintro e w5 ⟨rfl, hb5⟩
        have HW := Lib.hid (HW.out.trans (hb5.mono HW.out.size))
        clear hb5
        go_wp2_with fail
        go_returns
        exact ⟨rfl, HW.out⟩
      · have hf0I : ¬ (SF.length : Int) = 0 := by omega
        obtain ⟨g1, g2, g3⟩ := Agg.run_front HBB.out.symm
        obtain ⟨hk, ho⟩ := Agg.runOk_parts HBB.out.symm
        rw [← HS.out] at g1 g2 g3
        simp only at g1 g2 g3
        have hwin := fun w h => windowAfter_any oa m oc l w h
        rw [ho] at hwin
        have hWl := Agg.winOut_len l
        obtain ⟨WL, hWL⟩ : ∃ WL, WL = Agg.winOut l := ⟨_, rfl⟩
        rw [← hWL] at hwin hWl g1 g2 g3
        have HWI := Lib.hid hwin
        have HG := Lib.hid g3
        have HG2 := Lib.hid g2
        have HK := Lib.hid hk
        have hg1 : SF.length ≤ WL.length := g1
        clear g1 g2 g3 hk ho hwin hWL HRV HRN HU2 HU3 HR r0 r1 r2 r3 r4 r5 r6
        go_wp2_with fail
        refine (HWI.out _ HN.out).mono ?_
        rintro e w6 ⟨v6, n6, rfl, ro6, hb6⟩
        obtain ⟨ua6, uc6, rfl, hU6, hl6⟩ := ro6.nums
        have HQ := Lib.hid (HQ.out.call hb6)
        have HW := Lib.hid (HW.out.trans (hb6.mono HW.out.size))
        have HQV := Lib.hid (HQV.out.below hb6)
        have HQN := Lib.hid (HQN.out.below hb6)
        have HU6 := Lib.hid hU6
        have hn6 : SF.length ≤ n6 := by omega
        have hn60 : n6 ≤ 60 := by omega
        have hc6 : n6 ≤ uc6 := hU6.2.1
        have hc7 : uc6 ≤ 9223372036854775807 := by have := hU6.2.2.1; unfold maxLen at this; omega
        have HL6 := Lib.hid hl6
        clear hb6 ro6 hU6 hl6 HWI q0 q1 q2 q3 q4 q5 q6 hg1 hWl
        obtain ⟨q0, q1, q2, q3, q4, q5, q6⟩ := HQ.out.cells
        go_wp2_with fail
        go_loopw [13] (fun i wr => ∃ (j : Nat), j ≤ SF.length ∧ i = .int .i64 j ∧ Hid (Below w6.heap.size w6 wr)) (fun i _ => SF.length - (intOf i).toNat)
        case atStart => exact ⟨0, Nat.zero_le _, rfl, Below.refl _ _⟩
        case round =>
          obtain ⟨j, hj, rfl, hw⟩ := hrel
          have HQ := Lib.hid (HQ.out.call hw.out)
          have HW := Lib.hid (HW.out.trans (hw.out.mono HW.out.size))
          have HQV := Lib.hid (HQV.out.below hw.out)
          have HQN := Lib.hid (HQN.out.below hw.out)
          have HU6 := Lib.hid (HU6.out.below hw.out)
          clear q0 q1 q2 q3 q4 q5 q6
          obtain ⟨q0, q1, q2, q3, q4, q5, q6⟩ := HQ.out.cells
          by_cases hlt : j < SF.length
          · obtain ⟨g1, g2⟩ := HG.out j hlt
            rcases HU6.out.2.2.2 with h0 | ⟨ub, uo, rfl, hub, huc⟩
            · omega
            · clear huc
              rcases HQV.out.2.2.2 with h0 | ⟨fb, fo, rfl, hfb, hfc⟩
              · omega
              · obtain ⟨f0, f1, f2⟩ := hfc j hlt
                clear hfc
                have hP := Nums.part (i := SF.length - 1 - j) (s := j + 1) HU6.out (by omega)
                obtain ⟨lo, hlo⟩ : ∃ lo, lo = SF.length - 1 - j := ⟨_, rfl⟩
                have e5 : j + 1 = SF.length - lo := by omega
                rw [← hlo, e5] at hP g1 g2
                have hF := fun w h => foldItems_any k (some ⟨ub, uo + lo, none⟩) (SF.length - lo) (uc6 - lo) ((WL.drop lo).take (SF.length - lo)) w h
                rw [Agg.aFold_of HK.out g2, ← g1] at hF
                obtain ⟨⟨vx, vy, vz⟩, hV⟩ : ∃ V, V = SF[j]?.getD Agg.zero := ⟨_, rfl⟩
                rw [← hV] at hF f0 f1 f2
                simp only at hF f0 f1 f2
                have HF := Lib.hid hF
                have HP := Lib.hid hP
                have w1' : IntKind.i64.wrap ((SF.length : Int) - 1) = (SF.length : Int) - 1 := IntWalk.i64_in _ ⟨by omega, by omega⟩
                have hsub : (SF.length : Int) - 1 - (j : Int) = (lo : Int) := by omega
                have w2' : IntKind.i64.wrap (lo : Int) = (lo : Int) := IntWalk.i64_in _ ⟨by omega, by omega⟩
                have l1 : (lo : Int) < (SF.length : Int) := by omega
                have l2 : (SF.length : Int) ≤ (uc6 : Int) := by omega
                have l3 : (0 : Int) ≤ (lo : Int) := Int.natCast_nonneg _
                have hkn : (j : Int) < (SF.length : Int) := by omega
                have hk0 : (0 : Int) ≤ (j : Int) := Int.natCast_nonneg _
                have hwr := hw.out.size
                clear g1 g2 hP hF hV hlo e5
                go_wp2_with fail
                refine (HF.out _ HP.out).mono ?_
                rintro e w8 ⟨rfl, hb8⟩
                have HQ8 := Lib.hid (HQ.out.call hb8)
                have f0 := (hb8.cell (p := ⟨fb, fo + j * 3, none⟩) hfb).trans f0
                have f1 := (hb8.cell (p := ⟨fb, fo + j * 3 + 1, none⟩) hfb).trans f1
                have f2 := (hb8.cell (p := ⟨fb, fo + j * 3 + 2, none⟩) hfb).trans f2
                have hw8 := hw.out.trans (hb8.mono hwr)
                have hfb8 := Nat.lt_of_lt_of_le hfb hb8.size
                clear q0 q1 q2 q3 q4 q5 q6 hb8
                obtain ⟨W9, hW9⟩ : ∃ W9, W9 = w8.alloc (.cells #[.int .i64 vx, .int .i64 vy, .int .i64 vz] 29) := ⟨_, rfl⟩
                have hbn : Below w8.heap.size w8 W9 := by rw [hW9]; exact (Below.refl _ _).alloc (Nat.le_refl _) _
                have HX9 := Lib.hid (show Box W9 w8.heap.size 29 vx vy vz from by rw [hW9]; exact Box.new w8 _ _ _ _)
                have HQ9 := Lib.hid (HQ8.out.call hbn)
                have f0 := (hbn.cell (p := ⟨fb, fo + j * 3, none⟩) hfb8).trans f0
                have f1 := (hbn.cell (p := ⟨fb, fo + j * 3 + 1, none⟩) hfb8).trans f1
                have f2 := (hbn.cell (p := ⟨fb, fo + j * 3 + 2, none⟩) hfb8).trans f2
                have HW9 := Lib.hid (hw8.trans (hbn.mono hw8.size))
                clear hbn hw8 hfb8 HQ8
                go_upto_region 13 with (fail)
                rw [← hW9]
                clear hW9
                obtain ⟨q0, q1, q2, q3, q4, q5, q6⟩ := HQ9.out.cells
                obtain ⟨x0, x1, x2⟩ := HX9.out.cells
                refine wp_region_held_drew (S := (fun U => (U.cell? ⟨w2.heap.size, 0, none⟩ = some (.slice (some ⟨fb, fo, none⟩) SF.length fc2)) ∧ (U.cell? ⟨fb, fo + j * 3, none⟩ = some (.int .i64 vx) ∧ U.cell? ⟨fb, fo + j * 3 + 1, none⟩ = some (.int .i64 vy) ∧ U.cell? ⟨fb, fo + j * 3 + 2, none⟩ = some (.int .i64 vz)) ∧ (U.cell? ⟨w8.heap.size, 0, none⟩ = some (.int .i64 vx) ∧ U.cell? ⟨w8.heap.size, 1, none⟩ = some (.int .i64 vy) ∧ U.cell? ⟨w8.heap.size, 2, none⟩ = some (.int .i64 vz)))) (by kernel_rfl) (by refine ⟨?_, ⟨?_, ?_, ?_⟩, ?_, ?_, ?_⟩ <;> assumption) (fun hHeld => ?_)
                first | (refine wpAnyH_take (i := 0) (v := ?_) rfl (by kernel_rfl) (by kernel_rfl) (by kernel_rfl) (fun _ _ _ h => h) (Or.inl ⟨by rfl, ?_⟩) (by assumption) ?_; rotate_left; (intro X hSw; (try dsimp only at hSw); go_simp; (try with_reducible rfl)); (try simp only [Act.put, List.setIfInBounds_toArray, List.set_cons_zero, List.set_cons_succ, List.getElem_toArray, List.getElem_cons_zero, List.getElem_cons_succ])) | fail "take 0"
                first | (refine wpAnyH_take (i := 1) (v := ?_) rfl (by kernel_rfl) (by kernel_rfl) (by kernel_rfl) (fun _ _ _ h => h) (Or.inl ⟨by rfl, ?_⟩) (by assumption) ?_; rotate_left; (intro X hSw; (try dsimp only at hSw); go_simp; (try with_reducible rfl)); (try simp only [Act.put, List.setIfInBounds_toArray, List.set_cons_zero, List.set_cons_succ, List.getElem_toArray, List.getElem_cons_zero, List.getElem_cons_succ])) | fail "take 1"
                first | (refine wpAnyH_take (i := 2) (v := ?_) rfl (by kernel_rfl) (by kernel_rfl) (by kernel_rfl) (fun _ _ _ h => h) (Or.inl ⟨by rfl, ?_⟩) (by assumption) ?_; rotate_left; (intro X hSw; (try dsimp only at hSw); go_simp; (try with_reducible rfl)); (try simp only [Act.put, List.setIfInBounds_toArray, List.set_cons_zero, List.set_cons_succ, List.getElem_toArray, List.getElem_cons_zero, List.getElem_cons_succ])) | fail "take 2"
                first | (refine wpAnyH_take (i := 3) (v := ?_) rfl (by kernel_rfl) (by kernel_rfl) (by kernel_rfl) (fun _ _ _ h => h) (Or.inl ⟨by rfl, ?_⟩) (by assumption) ?_; rotate_left; (intro X hSw; (try dsimp only at hSw); go_simp; (try with_reducible rfl)); (try simp only [Act.put, List.setIfInBounds_toArray, List.set_cons_zero, List.set_cons_succ, List.getElem_toArray, List.getElem_cons_zero, List.getElem_cons_succ])) | fail "take 3"
                first | (refine wpAnyH_take (i := 4) (v := ?_) rfl (by kernel_rfl) (by kernel_rfl) (by kernel_rfl) (fun _ _ _ h => h) (Or.inl ⟨by rfl, ?_⟩) (by assumption) ?_; rotate_left; (intro X hSw; (try dsimp only at hSw); go_simp; (try with_reducible rfl)); (try simp only [Act.put, List.setIfInBounds_toArray, List.set_cons_zero, List.set_cons_succ, List.getElem_toArray, List.getElem_cons_zero, List.getElem_cons_succ])) | fail "take 4"
                first | (refine wpAnyH_take (i := 5) (v := ?_) rfl (by kernel_rfl) (by kernel_rfl) (by kernel_rfl) (fun _ _ _ h => h) (Or.inl ⟨by rfl, ?_⟩) (by assumption) ?_; rotate_left; (intro X hSw; (try dsimp only at hSw); go_simp; (try with_reducible rfl)); (try simp only [Act.put, List.setIfInBounds_toArray, List.set_cons_zero, List.set_cons_succ, List.getElem_toArray, List.getElem_cons_zero, List.getElem_cons_succ])) | fail "take 5"
                first | (refine wpAnyH_take (i := 6) (v := ?_) rfl (by kernel_rfl) (by kernel_rfl) (by kernel_rfl) (fun _ _ _ h => h) (Or.inl ⟨by rfl, ?_⟩) (by assumption) ?_; rotate_left; (intro X hSw; (try dsimp only at hSw); go_simp; (try with_reducible rfl)); (try simp only [Act.put, List.setIfInBounds_toArray, List.set_cons_zero, List.set_cons_succ, List.getElem_toArray, List.getElem_cons_zero, List.getElem_cons_succ])) | fail "take 6"
                first | (refine wpAnyH_take (i := 7) (v := ?_) rfl (by kernel_rfl) (by kernel_rfl) (by kernel_rfl) (fun _ _ _ h => h) (Or.inl ⟨by rfl, ?_⟩) (by assumption) ?_; rotate_left; (intro X hSw; (try dsimp only at hSw); go_simp; (try with_reducible rfl)); (try simp only [Act.put, List.setIfInBounds_toArray, List.set_cons_zero, List.set_cons_succ, List.getElem_toArray, List.getElem_cons_zero, List.getElem_cons_succ])) | fail "take 7"
                first | (refine wpAnyH_take (i := 8) (v := ?_) rfl (by kernel_rfl) (by kernel_rfl) (by kernel_rfl) (fun _ _ _ h => h) (Or.inl ⟨by rfl, ?_⟩) (by assumption) ?_; rotate_left; (intro X hSw; (try dsimp only at hSw); go_simp; (try with_reducible rfl)); (try simp only [Act.put, List.setIfInBounds_toArray, List.set_cons_zero, List.set_cons_succ, List.getElem_toArray, List.getElem_cons_zero, List.getElem_cons_succ])) | fail "take 8"
                first | (refine wpAnyH_take (i := 9) (v := ?_) rfl (by kernel_rfl) (by kernel_rfl) (by kernel_rfl) (fun _ _ _ h => h) (Or.inl ⟨by rfl, ?_⟩) (by assumption) ?_; rotate_left; (intro X hSw; (try dsimp only at hSw); go_simp; (try with_reducible rfl)); (try simp only [Act.put, List.setIfInBounds_toArray, List.set_cons_zero, List.set_cons_succ, List.getElem_toArray, List.getElem_cons_zero, List.getElem_cons_succ])) | fail "take 9"
                first | (refine wpAnyH_take (i := 10) (v := ?_) rfl (by kernel_rfl) (by kernel_rfl) (by kernel_rfl) (fun _ _ _ h => h) (Or.inl ⟨by rfl, ?_⟩) (by assumption) ?_; rotate_left; (intro X hSw; (try dsimp only at hSw); go_simp; (try with_reducible rfl)); (try simp only [Act.put, List.setIfInBounds_toArray, List.set_cons_zero, List.set_cons_succ, List.getElem_toArray, List.getElem_cons_zero, List.getElem_cons_succ])) | fail "take 10"
                refine wpAnyH_done (by kernel_rfl) ?_ _
                go_wp2_with fail
                go_roundw
                case rel => exact ⟨j + 1, by omega, by go_num, Lib.hid HW9.out.drew⟩
                case measure => simp [intOf]; omega
          · obtain rfl : j = SF.length := by omega
            have hlt' : ¬ (SF.length : Int) < (SF.length : Int) := by omega
            have hsi : SI = WL.drop SF.length := HG2.out
            rcases HU6.out.2.2.2 with h0 | ⟨ub, uo, rfl, hub, huc⟩
            · omega
            · clear huc
              have hPt := Nums.part (i := SF.length) (s := n6 - SF.length) HU6.out (by omega)
              rw [List.take_of_length_le (by have := HL6.out; simp; omega), ← hsi] at hPt
              have HPT := Lib.hid hPt
              have l1 : (0 : Int) ≤ (SF.length : Int) := Int.natCast_nonneg _
              have l2 : (SF.length : Int) ≤ (n6 : Int) := by omega
              have l3 : (n6 : Int) ≤ (uc6 : Int) := by omega
              clear hPt hsi
              have HT2 := Lib.hid (fun (X : World) (h : Below wr.heap.size wr X) => show Nums .i64 X (if uc6 = SF.length then some ⟨ub, uo, none⟩ else some ⟨ub, uo + SF.length, none⟩) (n6 - SF.length) (uc6 - SF.length) SI from by
                by_cases hc1 : uc6 = SF.length
                · rw [if_pos hc1]
                  exact ⟨HPT.out.1, by omega, by unfold maxLen; omega, .inl (by omega)⟩
                · rw [if_neg hc1]
                  exact HPT.out.below h)
              clear HPT
              go_upto_region 15 with (fail)
              refine wp_region_held_drew (S := (fun U => U.cell? ⟨w2.heap.size, 0, none⟩ = some (.slice fa2 SF.length fc2) ∧ U.cell? ⟨w2.heap.size, 1, none⟩ = some (.slice ia2 SI.length ic2))) (by kernel_rfl) (by refine ⟨?_, ?_⟩ <;> assumption) (fun hHeld => ?_)
              first | (refine wpAnyH_take (i := 0) (v := ?_) rfl (by kernel_rfl) (by kernel_rfl) (by kernel_rfl) (fun _ _ _ h => h) (Or.inl ⟨by rfl, ?_⟩) (by assumption) ?_; rotate_left; (intro X hSw; (try dsimp only at hSw); go_simp; (try with_reducible rfl)); (try simp only [Act.put, List.setIfInBounds_toArray, List.set_cons_zero, List.set_cons_succ, List.getElem_toArray, List.getElem_cons_zero, List.getElem_cons_succ])) | fail "take 0"
              first | (refine wpAnyH_take (i := 1) (v := ?_) rfl (by kernel_rfl) (by kernel_rfl) (by kernel_rfl) (fun _ _ _ h => h) (Or.inl ⟨by rfl, ?_⟩) (by assumption) ?_; rotate_left; (intro X hSw; (try dsimp only at hSw); go_simp; (try with_reducible rfl)); (try simp only [Act.put, List.setIfInBounds_toArray, List.set_cons_zero, List.set_cons_succ, List.getElem_toArray, List.getElem_cons_zero, List.getElem_cons_succ])) | fail "take 1"
              first | (refine wpAnyH_take (i := 2) (v := ?_) rfl (by kernel_rfl) (by kernel_rfl) (by kernel_rfl) (fun _ _ _ h => h) (Or.inl ⟨by rfl, ?_⟩) (by assumption) ?_; rotate_left; (intro X hSw; (try dsimp only at hSw); go_simp; (try with_reducible rfl)); (try simp only [Act.put, List.setIfInBounds_toArray, List.set_cons_zero, List.set_cons_succ, List.getElem_toArray, List.getElem_cons_zero, List.getElem_cons_succ])) | fail "take 2"
              first | (refine wpAnyH_take (i := 3) (v := ?_) rfl (by kernel_rfl) (by kernel_rfl) (by kernel_rfl) (fun _ _ _ h => h) (Or.inl ⟨by rfl, ?_⟩) (by assumption) ?_; rotate_left; (intro X hSw; (try dsimp only at hSw); go_simp; (try with_reducible rfl)); (try simp only [Act.put, List.setIfInBounds_toArray, List.set_cons_zero, List.set_cons_succ, List.getElem_toArray, List.getElem_cons_zero, List.getElem_cons_succ])) | fail "take 3"
              first | (refine wpAnyH_take (i := 4) (v := ?_) rfl (by kernel_rfl) (by kernel_rfl) (by kernel_rfl) (fun _ _ _ h => h) (Or.inl ⟨by rfl, ?_⟩) (by assumption) ?_; rotate_left; (intro X hSw; (try dsimp only at hSw); go_simp; (try with_reducible rfl)); (try simp only [Act.put, List.setIfInBounds_toArray, List.set_cons_zero, List.set_cons_succ, List.getElem_toArray, List.getElem_cons_zero, List.getElem_cons_succ])) | fail "take 4"
              first | (refine wpAnyH_take (i := 5) (v := ?_) rfl (by kernel_rfl) (by kernel_rfl) (by kernel_rfl) (fun _ _ _ h => h) (Or.inl ⟨by rfl, ?_⟩) (by assumption) ?_; rotate_left; (intro X hSw; (try dsimp only at hSw); go_simp; (try with_reducible rfl)); (try simp only [Act.put, List.setIfInBounds_toArray, List.set_cons_zero, List.set_cons_succ, List.getElem_toArray, List.getElem_cons_zero, List.getElem_cons_succ])) | fail "take 5"
              first | (refine wpAnyH_take (i := 6) (v := ?_) rfl (by kernel_rfl) (by kernel_rfl) (by kernel_rfl) (fun _ _ _ h => h) (Or.inl ⟨by rfl, ?_⟩) (by assumption) ?_; rotate_left; (intro X hSw; (try dsimp only at hSw); go_simp; (try with_reducible rfl)); (try simp only [Act.put, List.setIfInBounds_toArray, List.set_cons_zero, List.set_cons_succ, List.getElem_toArray, List.getElem_cons_zero, List.getElem_cons_succ])) | fail "take 6"
              refine wpAnyH_ready (rs := [7]) (by kernel_rfl) (by simp) ?_
              refine AllReadyH.cons rfl (fun K hK => ?_) AllReadyH.nil
              go_simp
              refine (waInts_eq _ _ _ _ _ _ SI _ (show Nums .i64 wr.drew _ _ _ _ from HQN.out) (HT2.out wr.drew (Below.refl _ _).drew)).mono ?_
              rintro e w9 ⟨rfl, hb9⟩
              have HW9 := Lib.hid (v_below_callD HW.out hb9)
              have q0 := (Below.cell (w := wr.drew) (p := ⟨w2.heap.size, 0, none⟩) hb9 (HQ.out.lt)).trans q0
              have q1 := (Below.cell (w := wr.drew) (p := ⟨w2.heap.size, 1, none⟩) hb9 (HQ.out.lt)).trans q1
              clear hb9
              (try dsimp only)
              refine hK.out _ _ (by refine ⟨?_, ?_⟩ <;> assumption) (fun hHeld => ?_)
              clear hK K
              (try simp only [Act.put, List.setIfInBounds_toArray, List.set_cons_zero, List.set_cons_succ, List.getElem_toArray, List.getElem_cons_zero, List.getElem_cons_succ])
              first | (refine wpAnyH_take (i := 8) (v := ?_) rfl (by kernel_rfl) (by kernel_rfl) (by kernel_rfl) (fun _ _ _ h => h) (Or.inl ⟨by rfl, ?_⟩) (by assumption) ?_; rotate_left; (intro X hSw; (try dsimp only at hSw); go_simp; (try with_reducible rfl)); (try simp only [Act.put, List.setIfInBounds_toArray, List.set_cons_zero, List.set_cons_succ, List.getElem_toArray, List.getElem_cons_zero, List.getElem_cons_succ])) | fail "take 8"
              refine wpAnyH_done (by kernel_rfl) ?_ _
              go_wp2_with fail
              all_goals
                refine bodyPost_ret (by simp [results, Tryz.results6, go_sem, *]; try rfl) rfl ?_
                exact ⟨rfl, HW9.out⟩
  · go_enter Tryz.func6, Tryz.ntmps6
    go_wp2
    go_returns
    exact ⟨rfl, Below.refl _ _⟩
end Go.Proofs.YtikdjdoggjhmaaaGreat
