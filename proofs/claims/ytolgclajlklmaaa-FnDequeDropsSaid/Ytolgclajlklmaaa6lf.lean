/-
  The law FnDequeDrops, walked.
-/
import Derived.Test.Ytolgclajlklmaaa6le
import Derived.Test.YtolgclajlklmaaaTb
namespace Go.Proofs.Ytolgclajlklmaaa
set_option linter.unusedSimpArgs false
set_option linter.unusedVariables false
open Go.RowKit
set_option maxRecDepth 8000 in
set_option maxHeartbeats 4000000 in
theorem law_FnDequeDrops (a : Option Addr) (n cap : Nat) (zs : List Int) (w : World) (hrow : IsRow .u8 w a n cap zs) :
    Calls Try.prog 7 #[.slice a n cap] w fun e w' => e = .returned (.bool true) ∧ Below w.heap.size w w' := by
  have HB := Lib.hid (Bytes.of_row hrow)
  have hm : cap ≤ 9223372036854775807 := HB.out.2.1
  have hnc : n ≤ cap := HB.out.1
  clear hrow
  by_cases hn : n ≤ 1048576
  · go_enter Try.func7, Try.ntmps7
    go_wp2_with fail
    refine (drawDequeRun_any _ _ _ _ _ HB.out).mono ?_
    rintro e w1 ⟨k, v0, m, l, rfl, hO, hm100, -, -, hb1⟩
    obtain ⟨oa, oc, rfl, hOp⟩ := hO.ops
    have hml : m ≤ oc := hOp.2.1
    have hmc : oc ≤ 9223372036854775807 := by have := hOp.2.2.1; unfold maxLen at this; omega
    have HLL := Lib.hid (show l.length = m from hOp.1)
    have HN := Lib.hid hOp
    have HW := Lib.hid hb1
    clear hO hOp hb1
    have h1 := fun w h => dequeRun_any k oa m oc l w h
    have h2 := fun w h => s_dequeRun_any k oa m oc l w h
    obtain ⟨⟨SI, SP, SF, SN, SD⟩, hS⟩ : ∃ S, S = Agg.dqRunS k l := ⟨_, rfl⟩
    obtain ⟨NL, hNL⟩ : ∃ N, N = Agg.dqRunN k l := ⟨_, rfl⟩
    obtain ⟨b, hb⟩ : ∃ b, b = Agg.dqRunOk k l := ⟨_, rfl⟩
    rw [← hS, ← hNL, ← hb] at h1 h2
    have H1 := Lib.hid h1
    have H2 := Lib.hid h2
    have HS := Lib.hid hS
    have HNL := Lib.hid hNL
    have HBB := Lib.hid hb
    clear h1 h2 hS hNL hb
    go_wp2_with fail
    refine (H1.out _ HN.out).mono ?_
    rintro e w2 ⟨v2, u2, n2, rfl, r2, ru2, hb2⟩
    obtain ⟨ia2, ic2, pa2, pc2, rfl, hQI, hQP⟩ := r2.read
    simp only at hQI hQP
    obtain ⟨ua2, uc2, rfl, hU2, hl2⟩ := ru2.nums
    have hwsv : w.heap.size ≤ w2.heap.size := Nat.le_trans HW.out.size hb2.size
    obtain ⟨W2, hW2⟩ : ∃ W2, W2 = w2.alloc (.cells #[.slice ia2 SI.length ic2, .slice pa2 SP.length pc2, .int .i64 SF, .int .i64 SN, .int .i64 SD] 26) := ⟨_, rfl⟩
    have hb22 : Below w2.heap.size w2 W2 := by rw [hW2]; exact (Below.refl _ _).alloc (Nat.le_refl _) _
    have HQ := Lib.hid (show Box5 W2 w2.heap.size 26 (.slice ia2 SI.length ic2) (.slice pa2 SP.length pc2) (.int .i64 SF) (.int .i64 SN) (.int .i64 SD) from by rw [hW2]; exact Box5.new _ _ _ _ _ _ _)
    have hb12 := hb2.trans (hb22.mono hb2.size)
    have HN := Lib.hid (HN.out.below hb12)
    have HW := Lib.hid (HW.out.trans (hb12.mono HW.out.size))
    have HQI := Lib.hid (hQI.below hb22)
    have HQP := Lib.hid (hQP.below hb22)
    have HU2 := Lib.hid (hU2.below hb22)
    have HL2 := Lib.hid hl2
    clear r2 ru2 hb2 hb22 hb12 hQI hQP hU2 hl2
    go_upto_region 5 with (fail)
    rw [← hW2]
    clear hW2
    go_wp2_with fail
    refine (H2.out _ HN.out).mono ?_
    rintro e w3 ⟨v3, u3, n3, rfl, r3, ru3, hb3⟩
    obtain ⟨ia3, ic3, pa3, pc3, rfl, hRI, hRP⟩ := r3.read
    simp only at hRI hRP
    obtain ⟨ua3, uc3, rfl, hU3, hl3⟩ := ru3.nums
    obtain ⟨W3, hW3⟩ : ∃ W3, W3 = w3.alloc (.cells #[.slice ia3 SI.length ic3, .slice pa3 SP.length pc3, .int .i64 SF, .int .i64 SN, .int .i64 SD] 26) := ⟨_, rfl⟩
    have hb33 : Below w3.heap.size w3 W3 := by rw [hW3]; exact (Below.refl _ _).alloc (Nat.le_refl _) _
    have HR := Lib.hid (show Box5 W3 w3.heap.size 26 (.slice ia3 SI.length ic3) (.slice pa3 SP.length pc3) (.int .i64 SF) (.int .i64 SN) (.int .i64 SD) from by rw [hW3]; exact Box5.new _ _ _ _ _ _ _)
    have hb13 := hb3.trans (hb33.mono hb3.size)
    have HN := Lib.hid (HN.out.below hb13)
    have HQ := Lib.hid (HQ.out.call hb13)
    have HW := Lib.hid (HW.out.trans (hb13.mono HW.out.size))
    have HQI := Lib.hid (HQI.out.below hb13)
    have HQP := Lib.hid (HQP.out.below hb13)
    have HU2 := Lib.hid (HU2.out.below hb13)
    have HRI := Lib.hid (hRI.below hb33)
    have HRP := Lib.hid (hRP.below hb33)
    have HU3 := Lib.hid (hU3.below hb33)
    have HL3 := Lib.hid hl3
    clear r3 ru3 hb3 hb33 hb13 hRI hRP hU3 hl3 H1 H2
    go_upto_region 6 with (fail)
    rw [← hW3]
    clear hW3
    obtain ⟨q0, q1, q2, q3, q4⟩ := HQ.out.cells
    obtain ⟨r0, r1, r2, r3, r4⟩ := HR.out.cells
    go_wp2_with fail
    refine (waDeque_same _ _ _ _ _ _ _ _ _ _ _ _ _ SI SP _ HQI.out HQP.out HRI.out HRP.out).mono ?_
    rintro e w4 ⟨rfl, hb4⟩
    have HN := Lib.hid (HN.out.below hb4)
    have HQ := Lib.hid (HQ.out.call hb4)
    have HR := Lib.hid (HR.out.call hb4)
    have HW := Lib.hid (HW.out.trans (hb4.mono HW.out.size))
    have HQI := Lib.hid (HQI.out.below hb4)
    have HQP := Lib.hid (HQP.out.below hb4)
    have HU2 := Lib.hid (HU2.out.below hb4)
    have HRI := Lib.hid (HRI.out.below hb4)
    have HRP := Lib.hid (HRP.out.below hb4)
    have HU3 := Lib.hid (HU3.out.below hb4)
    clear hb4 q0 q1 q2 q3 q4 r0 r1 r2 r3 r4
    obtain ⟨q0, q1, q2, q3, q4⟩ := HQ.out.cells
    obtain ⟨r0, r1, r2, r3, r4⟩ := HR.out.cells
    cases b
    · have HX := True.intro
      go_wp2_with fail
      refine (waDeque_same _ _ _ _ _ _ _ _ _ _ _ _ _ SI SP _ HQI.out HQP.out HRI.out HRP.out).mono ?_
      rintro e w4 ⟨rfl, hb4⟩
      have HN := Lib.hid (HN.out.below hb4)
      have HQ := Lib.hid (HQ.out.call hb4)
      have HR := Lib.hid (HR.out.call hb4)
      have HW := Lib.hid (HW.out.trans (hb4.mono HW.out.size))
      have HQI := Lib.hid (HQI.out.below hb4)
      have HQP := Lib.hid (HQP.out.below hb4)
      have HU2 := Lib.hid (HU2.out.below hb4)
      have HRI := Lib.hid (HRI.out.below hb4)
      have HRP := Lib.hid (HRP.out.below hb4)
      have HU3 := Lib.hid (HU3.out.below hb4)
      clear hb4 q0 q1 q2 q3 q4 r0 r1 r2 r3 r4
      obtain ⟨q0, q1, q2, q3, q4⟩ := HQ.out.cells
      obtain ⟨r0, r1, r2, r3, r4⟩ := HR.out.cells
      go_wp2_with fail
      go_returns
      exact ⟨rfl, HW.out⟩
    · obtain ⟨hk, ho, e1, e2, e3, e4⟩ := Agg.dqRun_end HBB.out.symm
      rw [← HS.out] at e3 e4
      obtain ⟨-, hit, hpl, hrng, hsz, -, -, -⟩ := Agg.dqOk_parts e3
      simp only at hit hpl hrng hsz
      have hwo : Agg.winOut l = Agg.winAt l l.length := by simp [Agg.winOut, ho]
      rw [← hwo] at e4
      obtain ⟨WL, hWL⟩ : ∃ WL, WL = Agg.winOut l := ⟨_, rfl⟩
      rw [← hWL] at e4
      have hat := fun (t : Nat) (ht : t < SI.length) => And.intro (e4.val.upTo ht) (e4.here t ht)
      have hsize := e4.size
      have hdrops := e4.drops
      simp only at hat hsize hdrops
      have hplen := hpl
      have hlen60 := Agg.items_len hit
      have HWA := Lib.hid (fun w h => windowAfter_any oa m oc l w h)
      rw [← hWL, ho] at HWA
      have HAT := Lib.hid hat
      have HSZ := Lib.hid hsize
      have HDR := Lib.hid hdrops
      have HRG := Lib.hid hrng
      have HPL := Lib.hid hplen
      have H60 := Lib.hid hlen60
      have hsl : SI.length ≤ ic2 := HQI.out.2.1
      have hcm : ic2 ≤ 9223372036854775807 := by have := HQI.out.2.2.1; unfold maxLen at this; omega
      have hslp : SP.length ≤ pc2 := HQP.out.2.1
      have hcmp : pc2 ≤ 9223372036854775807 := by have := HQP.out.2.2.1; unfold maxLen at this; omega
      clear hk ho e1 e2 e3 e4 hat hsize hdrops hpl hplen hit hrng hsz hwo hWL hlen60 HR HRI HRP HU2 HU3 r0 r1 r2 r3 r4
      go_wp2_with fail
      refine (HWA.out _ HN.out).mono ?_
      rintro e w5 ⟨v5, n5, rfl, ro5, hb5⟩
      obtain ⟨wa, wc, rfl, hWN, -⟩ := ro5.nums
      have HQ := Lib.hid (HQ.out.call hb5)
      have HW := Lib.hid (HW.out.trans (hb5.mono HW.out.size))
      have HQI := Lib.hid (HQI.out.below hb5)
      have HQP := Lib.hid (HQP.out.below hb5)
      have HWN := Lib.hid hWN
      have hwn : WL.length = n5 := hWN.1
      have hwnc : n5 ≤ wc := hWN.2.1
      have hwcm : wc ≤ 9223372036854775807 := by have := hWN.2.2.1; unfold maxLen at this; omega
      have HWL := Lib.hid hwn
      clear hb5 ro5 hWN HN HWA q0 q1 q2 q3 q4 hwn
      go_wp2_with fail
      go_loopw [13] (fun i wr => ∃ j : Nat, j ≤ SI.length ∧ i = .int .i64 j ∧ Hid (Box5 wr w2.heap.size 26 (.slice ia2 SI.length ic2) (.slice pa2 SP.length pc2) (.int .i64 SF) (.int .i64 SN) (.int .i64 SD)) ∧ Hid (Nums .i64 wr ia2 SI.length ic2 SI) ∧ Hid (Nums .i64 wr pa2 SP.length pc2 SP) ∧ Hid (Nums .i64 wr wa n5 wc WL) ∧ Hid (Below w.heap.size w wr)) (fun i _ => SI.length - (intOf i).toNat)
      case atStart => exact ⟨0, Nat.zero_le _, rfl, HQ, HQI, HQP, HWN, HW⟩
      case round =>
        obtain ⟨j, hj, rfl, hq, hqi, hqp, hwn, hw⟩ := hrel
        clear HQ HQI HQP HWN HW
        obtain ⟨q0, q1, q2, q3, q4⟩ := hq.out.cells
        have hk0 : (0 : Int) ≤ (j : Int) := Int.natCast_nonneg _
        by_cases hlt : j < SI.length
        · rcases id hqi.out.2.2.2 with h0 | ⟨ib, ioff, rfl, hib, hcsi⟩
          · omega
          · rcases id hqp.out.2.2.2 with h0 | ⟨pb, poff, rfl, hpb, hcsp⟩
            · have := HPL.out; omega
            · obtain ⟨⟨hu1, hu2⟩, hh⟩ := HAT.out j hlt
              have hcj := hcsi j hlt
              have hcp := hcsp j (by have := HPL.out; omega)
              clear hcsi hcsp
              obtain ⟨y, hy⟩ : ∃ y, y = SI[j]?.getD 0 := ⟨_, rfl⟩
              obtain ⟨pj, hpj⟩ : ∃ pj, pj = SP[j]?.getD 0 := ⟨_, rfl⟩
              rw [← hy] at hcj hh
              rw [← hpj] at hcp hu1 hu2 hh
              obtain ⟨t, ht⟩ : ∃ t : Nat, pj - SF = (t : Int) := ⟨(pj - SF).toNat, by omega⟩
              rw [ht] at hh
              simp only [Int.toNat_natCast] at hh
              have htn : t < n5 := by have := HSZ.out; have := HWL.out; omega
              rcases id hwn.out.2.2.2 with h0 | ⟨wb, woff, rfl, hwb, hcsw⟩
              · omega
              · have hcw := hcsw t htn
                rw [hh] at hcw
                clear hcsw
                have hrg := HRG.out
                have hw1 : IntKind.i64.wrap (pj - SF) = (t : Int) := by rw [ht]; exact IntWalk.i64_in _ ⟨by omega, by omega⟩
                have HT := Lib.hid ht
                have hjp : j < SP.length := by have := HPL.out; omega
                have hjpi : (j : Int) < (SP.length : Int) := by omega
                have hkn : (j : Int) < (SI.length : Int) := by omega
                have hkt : (0 : Int) ≤ (t : Int) := Int.natCast_nonneg _
                have htni : (t : Int) < (n5 : Int) := by omega
                have hd0 : decide ((t : Int) < 0) = false := decide_eq_false (by omega)
                have hd1 : decide ((n5 : Int) ≤ (t : Int)) = false := decide_eq_false (by omega)
                have hd2 : decide (n5 ≤ t) = false := decide_eq_false (by omega)
                clear ht hh hy hpj hu1 hu2 hrg
                go_wp2_with fail
                refine wp_region_held_drew (S := (fun X => X.cell? ⟨w2.heap.size, 1, none⟩ = some (.slice (some ⟨pb, poff, none⟩) SP.length pc2) ∧ X.cell? ⟨w2.heap.size, 2, none⟩ = some (.int .i64 SF) ∧ X.cell? ⟨pb, poff + j, none⟩ = some (.int .i64 pj))) (by kernel_rfl) (by exact ⟨by assumption, by assumption, by assumption⟩) (fun hHeld => ?_)
                first | (refine wpAnyH_take (i := 0) (v := ?_) rfl (by kernel_rfl) (by kernel_rfl) (by kernel_rfl) (fun _ _ _ h => h) (Or.inl ⟨by rfl, ?_⟩) (by assumption) ?_; rotate_left; (intro X hSw; (try dsimp only at hSw); go_simp; (try with_reducible rfl)); (try simp only [Act.put, List.setIfInBounds_toArray, List.set_cons_zero, List.set_cons_succ, List.getElem_toArray, List.getElem_cons_zero, List.getElem_cons_succ])) | fail "take 0"
                first | (refine wpAnyH_take (i := 1) (v := ?_) rfl (by kernel_rfl) (by kernel_rfl) (by kernel_rfl) (fun _ _ _ h => h) (Or.inl ⟨by rfl, ?_⟩) (by assumption) ?_; rotate_left; (intro X hSw; (try dsimp only at hSw); go_simp; (try with_reducible rfl)); (try simp only [Act.put, List.setIfInBounds_toArray, List.set_cons_zero, List.set_cons_succ, List.getElem_toArray, List.getElem_cons_zero, List.getElem_cons_succ])) | fail "take 1"
                first | (refine wpAnyH_take (i := 2) (v := ?_) rfl (by kernel_rfl) (by kernel_rfl) (by kernel_rfl) (fun _ _ _ h => h) (Or.inl ⟨by rfl, ?_⟩) (by assumption) ?_; rotate_left; (intro X hSw; (try dsimp only at hSw); go_simp; (try with_reducible rfl)); (try simp only [Act.put, List.setIfInBounds_toArray, List.set_cons_zero, List.set_cons_succ, List.getElem_toArray, List.getElem_cons_zero, List.getElem_cons_succ])) | fail "take 2"
                first | (refine wpAnyH_take (i := 3) (v := ?_) rfl (by kernel_rfl) (by kernel_rfl) (by kernel_rfl) (fun _ _ _ h => h) (Or.inl ⟨by rfl, ?_⟩) (by assumption) ?_; rotate_left; (intro X hSw; (try dsimp only at hSw); go_simp; (try with_reducible rfl)); (try simp only [Act.put, List.setIfInBounds_toArray, List.set_cons_zero, List.set_cons_succ, List.getElem_toArray, List.getElem_cons_zero, List.getElem_cons_succ])) | fail "take 3"
                first | (refine wpAnyH_take (i := 4) (v := ?_) rfl (by kernel_rfl) (by kernel_rfl) (by kernel_rfl) (fun _ _ _ h => h) (Or.inl ⟨by rfl, ?_⟩) (by assumption) ?_; rotate_left; (intro X hSw; (try dsimp only at hSw); go_simp; (try with_reducible rfl)); (try simp only [Act.put, List.setIfInBounds_toArray, List.set_cons_zero, List.set_cons_succ, List.getElem_toArray, List.getElem_cons_zero, List.getElem_cons_succ])) | fail "take 4"
                first | (refine wpAnyH_take (i := 5) (v := ?_) rfl (by kernel_rfl) (by kernel_rfl) (by kernel_rfl) (fun _ _ _ h => h) (Or.inl ⟨by rfl, ?_⟩) (by assumption) ?_; rotate_left; (intro X hSw; (try dsimp only at hSw); go_simp; (try with_reducible rfl)); (try simp only [Act.put, List.setIfInBounds_toArray, List.set_cons_zero, List.set_cons_succ, List.getElem_toArray, List.getElem_cons_zero, List.getElem_cons_succ])) | fail "take 5"
                first | (refine wpAnyH_take (i := 6) (v := ?_) rfl (by kernel_rfl) (by kernel_rfl) (by kernel_rfl) (fun _ _ _ h => h) (Or.inl ⟨by rfl, ?_⟩) (by assumption) ?_; rotate_left; (intro X hSw; (try dsimp only at hSw); go_simp; (try with_reducible rfl)); (try simp only [Act.put, List.setIfInBounds_toArray, List.set_cons_zero, List.set_cons_succ, List.getElem_toArray, List.getElem_cons_zero, List.getElem_cons_succ])) | fail "take 6"
                first | (refine wpAnyH_take (i := 7) (v := ?_) rfl (by kernel_rfl) (by kernel_rfl) (by kernel_rfl) (fun _ _ _ h => h) (Or.inl ⟨by rfl, ?_⟩) (by assumption) ?_; rotate_left; (intro X hSw; (try dsimp only at hSw); go_simp; (try with_reducible rfl)); (try simp only [Act.put, List.setIfInBounds_toArray, List.set_cons_zero, List.set_cons_succ, List.getElem_toArray, List.getElem_cons_zero, List.getElem_cons_succ])) | fail "take 7"
                first | (refine wpAnyH_take (i := 8) (v := ?_) rfl (by kernel_rfl) (by kernel_rfl) (by kernel_rfl) (fun _ _ _ h => h) (Or.inl ⟨by rfl, ?_⟩) (by assumption) ?_; rotate_left; (intro X hSw; (try dsimp only at hSw); go_simp; (try with_reducible rfl)); (try simp only [Act.put, List.setIfInBounds_toArray, List.set_cons_zero, List.set_cons_succ, List.getElem_toArray, List.getElem_cons_zero, List.getElem_cons_succ])) | fail "take 8"
                refine wpAnyH_done (by kernel_rfl) ?_ _
                go_wp2_with fail
                refine wp_region_held_drew (S := (fun X => X.cell? ⟨w2.heap.size, 0, none⟩ = some (.slice (some ⟨ib, ioff, none⟩) SI.length ic2) ∧ X.cell? ⟨ib, ioff + j, none⟩ = some (.int .i64 y) ∧ X.cell? ⟨wb, woff + t, none⟩ = some (.int .i64 y))) (by kernel_rfl) (by exact ⟨by assumption, by assumption, by assumption⟩) (fun hHeld => ?_)
                first | (refine wpAnyH_take (i := 0) (v := ?_) rfl (by kernel_rfl) (by kernel_rfl) (by kernel_rfl) (fun _ _ _ h => h) (Or.inl ⟨by rfl, ?_⟩) (by assumption) ?_; rotate_left; (intro X hSw; (try dsimp only at hSw); go_simp; (try with_reducible rfl)); (try simp only [Act.put, List.setIfInBounds_toArray, List.set_cons_zero, List.set_cons_succ, List.getElem_toArray, List.getElem_cons_zero, List.getElem_cons_succ])) | fail "take 0"
                first | (refine wpAnyH_take (i := 1) (v := ?_) rfl (by kernel_rfl) (by kernel_rfl) (by kernel_rfl) (fun _ _ _ h => h) (Or.inl ⟨by rfl, ?_⟩) (by assumption) ?_; rotate_left; (intro X hSw; (try dsimp only at hSw); go_simp; (try with_reducible rfl)); (try simp only [Act.put, List.setIfInBounds_toArray, List.set_cons_zero, List.set_cons_succ, List.getElem_toArray, List.getElem_cons_zero, List.getElem_cons_succ])) | fail "take 1"
                first | (refine wpAnyH_take (i := 2) (v := ?_) rfl (by kernel_rfl) (by kernel_rfl) (by kernel_rfl) (fun _ _ _ h => h) (Or.inl ⟨by rfl, ?_⟩) (by assumption) ?_; rotate_left; (intro X hSw; (try dsimp only at hSw); go_simp; (try with_reducible rfl)); (try simp only [Act.put, List.setIfInBounds_toArray, List.set_cons_zero, List.set_cons_succ, List.getElem_toArray, List.getElem_cons_zero, List.getElem_cons_succ])) | fail "take 2"
                first | (refine wpAnyH_take (i := 3) (v := ?_) rfl (by kernel_rfl) (by kernel_rfl) (by kernel_rfl) (fun _ _ _ h => h) (Or.inl ⟨by rfl, ?_⟩) (by assumption) ?_; rotate_left; (intro X hSw; (try dsimp only at hSw); go_simp; (try with_reducible rfl)); (try simp only [Act.put, List.setIfInBounds_toArray, List.set_cons_zero, List.set_cons_succ, List.getElem_toArray, List.getElem_cons_zero, List.getElem_cons_succ])) | fail "take 3"
                first | (refine wpAnyH_take (i := 4) (v := ?_) rfl (by kernel_rfl) (by kernel_rfl) (by kernel_rfl) (fun _ _ _ h => h) (Or.inl ⟨by rfl, ?_⟩) (by assumption) ?_; rotate_left; (intro X hSw; (try dsimp only at hSw); go_simp; (try with_reducible rfl)); (try simp only [Act.put, List.setIfInBounds_toArray, List.set_cons_zero, List.set_cons_succ, List.getElem_toArray, List.getElem_cons_zero, List.getElem_cons_succ])) | fail "take 4"
                first | (refine wpAnyH_take (i := 5) (v := ?_) rfl (by kernel_rfl) (by kernel_rfl) (by kernel_rfl) (fun _ _ _ h => h) (Or.inl ⟨by rfl, ?_⟩) (by assumption) ?_; rotate_left; (intro X hSw; (try dsimp only at hSw); go_simp; (try with_reducible rfl)); (try simp only [Act.put, List.setIfInBounds_toArray, List.set_cons_zero, List.set_cons_succ, List.getElem_toArray, List.getElem_cons_zero, List.getElem_cons_succ])) | fail "take 5"
                first | (refine wpAnyH_take (i := 6) (v := ?_) rfl (by kernel_rfl) (by kernel_rfl) (by kernel_rfl) (fun _ _ _ h => h) (Or.inl ⟨by rfl, ?_⟩) (by assumption) ?_; rotate_left; (intro X hSw; (try dsimp only at hSw); go_simp; (try with_reducible rfl)); (try simp only [Act.put, List.setIfInBounds_toArray, List.set_cons_zero, List.set_cons_succ, List.getElem_toArray, List.getElem_cons_zero, List.getElem_cons_succ])) | fail "take 6"
                first | (refine wpAnyH_take (i := 7) (v := ?_) rfl (by kernel_rfl) (by kernel_rfl) (by kernel_rfl) (fun _ _ _ h => h) (Or.inl ⟨by rfl, ?_⟩) (by assumption) ?_; rotate_left; (intro X hSw; (try dsimp only at hSw); go_simp; (try with_reducible rfl)); (try simp only [Act.put, List.setIfInBounds_toArray, List.set_cons_zero, List.set_cons_succ, List.getElem_toArray, List.getElem_cons_zero, List.getElem_cons_succ])) | fail "take 7"
                first | (refine wpAnyH_take (i := 8) (v := ?_) rfl (by kernel_rfl) (by kernel_rfl) (by kernel_rfl) (fun _ _ _ h => h) (Or.inl ⟨by rfl, ?_⟩) (by assumption) ?_; rotate_left; (intro X hSw; (try dsimp only at hSw); go_simp; (try with_reducible rfl)); (try simp only [Act.put, List.setIfInBounds_toArray, List.set_cons_zero, List.set_cons_succ, List.getElem_toArray, List.getElem_cons_zero, List.getElem_cons_succ])) | fail "take 8"
                first | (refine wpAnyH_take (i := 9) (v := ?_) rfl (by kernel_rfl) (by kernel_rfl) (by kernel_rfl) (fun _ _ _ h => h) (Or.inl ⟨by rfl, ?_⟩) (by assumption) ?_; rotate_left; (intro X hSw; (try dsimp only at hSw); go_simp; (try with_reducible rfl)); (try simp only [Act.put, List.setIfInBounds_toArray, List.set_cons_zero, List.set_cons_succ, List.getElem_toArray, List.getElem_cons_zero, List.getElem_cons_succ])) | fail "take 9"
                first | (refine wpAnyH_take (i := 10) (v := ?_) rfl (by kernel_rfl) (by kernel_rfl) (by kernel_rfl) (fun _ _ _ h => h) (Or.inl ⟨by rfl, ?_⟩) (by assumption) ?_; rotate_left; (intro X hSw; (try dsimp only at hSw); go_simp; (try with_reducible rfl)); (try simp only [Act.put, List.setIfInBounds_toArray, List.set_cons_zero, List.set_cons_succ, List.getElem_toArray, List.getElem_cons_zero, List.getElem_cons_succ])) | fail "take 10"
                first | (refine wpAnyH_take (i := 11) (v := ?_) rfl (by kernel_rfl) (by kernel_rfl) (by kernel_rfl) (fun _ _ _ h => h) (Or.inl ⟨by rfl, ?_⟩) (by assumption) ?_; rotate_left; (intro X hSw; (try dsimp only at hSw); go_simp; (try with_reducible rfl)); (try simp only [Act.put, List.setIfInBounds_toArray, List.set_cons_zero, List.set_cons_succ, List.getElem_toArray, List.getElem_cons_zero, List.getElem_cons_succ])) | fail "take 11"
                first | (refine wpAnyH_take (i := 12) (v := ?_) rfl (by kernel_rfl) (by kernel_rfl) (by kernel_rfl) (fun _ _ _ h => h) (Or.inl ⟨by rfl, ?_⟩) (by assumption) ?_; rotate_left; (intro X hSw; (try dsimp only at hSw); go_simp; (try with_reducible rfl)); (try simp only [Act.put, List.setIfInBounds_toArray, List.set_cons_zero, List.set_cons_succ, List.getElem_toArray, List.getElem_cons_zero, List.getElem_cons_succ])) | fail "take 12"
                first | (refine wpAnyH_take (i := 13) (v := ?_) rfl (by kernel_rfl) (by kernel_rfl) (by kernel_rfl) (fun _ _ _ h => h) (Or.inl ⟨by rfl, ?_⟩) (by assumption) ?_; rotate_left; (intro X hSw; (try dsimp only at hSw); go_simp; (try with_reducible rfl)); (try simp only [Act.put, List.setIfInBounds_toArray, List.set_cons_zero, List.set_cons_succ, List.getElem_toArray, List.getElem_cons_zero, List.getElem_cons_succ])) | fail "take 13"
                first | (refine wpAnyH_take (i := 14) (v := ?_) rfl (by kernel_rfl) (by kernel_rfl) (by kernel_rfl) (fun _ _ _ h => h) (Or.inl ⟨by rfl, ?_⟩) (by assumption) ?_; rotate_left; (intro X hSw; (try dsimp only at hSw); go_simp; (try with_reducible rfl)); (try simp only [Act.put, List.setIfInBounds_toArray, List.set_cons_zero, List.set_cons_succ, List.getElem_toArray, List.getElem_cons_zero, List.getElem_cons_succ])) | fail "take 14"
                first | (refine wpAnyH_take (i := 15) (v := ?_) rfl (by kernel_rfl) (by kernel_rfl) (by kernel_rfl) (fun _ _ _ h => h) (Or.inl ⟨by rfl, ?_⟩) (by assumption) ?_; rotate_left; (intro X hSw; (try dsimp only at hSw); go_simp; (try with_reducible rfl)); (try simp only [Act.put, List.setIfInBounds_toArray, List.set_cons_zero, List.set_cons_succ, List.getElem_toArray, List.getElem_cons_zero, List.getElem_cons_succ])) | fail "take 15"
                first | (refine wpAnyH_take (i := 16) (v := ?_) rfl (by kernel_rfl) (by kernel_rfl) (by kernel_rfl) (fun _ _ _ h => h) (Or.inl ⟨by rfl, ?_⟩) (by assumption) ?_; rotate_left; (intro X hSw; (try dsimp only at hSw); go_simp; (try with_reducible rfl)); (try simp only [Act.put, List.setIfInBounds_toArray, List.set_cons_zero, List.set_cons_succ, List.getElem_toArray, List.getElem_cons_zero, List.getElem_cons_succ])) | fail "take 16"
                first | (refine wpAnyH_take (i := 17) (v := ?_) rfl (by kernel_rfl) (by kernel_rfl) (by kernel_rfl) (fun _ _ _ h => h) (Or.inl ⟨by rfl, ?_⟩) (by assumption) ?_; rotate_left; (intro X hSw; (try dsimp only at hSw); go_simp; (try with_reducible rfl)); (try simp only [Act.put, List.setIfInBounds_toArray, List.set_cons_zero, List.set_cons_succ, List.getElem_toArray, List.getElem_cons_zero, List.getElem_cons_succ])) | fail "take 17"
                first | (refine wpAnyH_take (i := 18) (v := ?_) rfl (by kernel_rfl) (by kernel_rfl) (by kernel_rfl) (fun _ _ _ h => h) (Or.inl ⟨by rfl, ?_⟩) (by assumption) ?_; rotate_left; (intro X hSw; (try dsimp only at hSw); go_simp; (try with_reducible rfl)); (try simp only [Act.put, List.setIfInBounds_toArray, List.set_cons_zero, List.set_cons_succ, List.getElem_toArray, List.getElem_cons_zero, List.getElem_cons_succ])) | fail "take 18"
                first | (refine wpAnyH_take (i := 19) (v := ?_) rfl (by kernel_rfl) (by kernel_rfl) (by kernel_rfl) (fun _ _ _ h => h) (Or.inl ⟨by rfl, ?_⟩) (by assumption) ?_; rotate_left; (intro X hSw; (try dsimp only at hSw); go_simp; (try with_reducible rfl)); (try simp only [Act.put, List.setIfInBounds_toArray, List.set_cons_zero, List.set_cons_succ, List.getElem_toArray, List.getElem_cons_zero, List.getElem_cons_succ])) | fail "take 19"
                refine wpAnyH_done (by kernel_rfl) ?_ _
                go_wp2_with fail
                go_roundw
                case rel => exact ⟨j + 1, by omega, by go_num, Lib.hid hq.out, Lib.hid hqi.out, Lib.hid hqp.out, Lib.hid hwn.out, Lib.hid hw.out.drew.drew⟩
                case measure => simp [intOf]; omega
        · have hlt' : ¬ (j : Int) < (SI.length : Int) := by omega
          have hdr := HDR.out
          have h60 := H60.out
          have hrg := HRG.out
          have hle : SD + (SI.length : Int) ≤ SN := by omega
          have hw1 : IntKind.i64.wrap (SD + (SI.length : Int)) = SD + (SI.length : Int) := IntWalk.i64_in _ ⟨by omega, by omega⟩
          clear hdr h60 hrg
          go_wp2_with fail
          go_returns
          exact ⟨by simp [hle], hw.out⟩
  · go_enter Try.func7, Try.ntmps7
    go_wp2
    go_returns
    exact ⟨rfl, Below.refl _ _⟩
end Go.Proofs.Ytolgclajlklmaaa
