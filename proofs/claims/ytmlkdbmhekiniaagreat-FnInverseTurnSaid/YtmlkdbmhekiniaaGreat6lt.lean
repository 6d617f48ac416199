/-
  The law FnInverseTurn, walked.
-/
import Derived.Test.YtmlkdbmhekiniaaGreat6ls
import Derived.Test.YtmlkdbmhekiniaaGreatN
namespace Go.Proofs.YtmlkdbmhekiniaaGreat
set_option linter.unusedSimpArgs false
set_option linter.unusedVariables false
open Go.RowKit
/-- What is left of a list when j items have gone. -/
def Agg.ivLeft (k : Int) (l : List Int) (j : Nat) : Agg.Iv := ⟨l.drop j, Agg.fold k (l.drop j)⟩
theorem Agg.left_step {k : Int} {l : List Int} {j : Nat} (hr : Agg.removes k = true) (hi : Agg.itemsOk l = true) (hj : j < l.length) :
    Agg.ivCan k (Agg.ivLeft k l j) (false, 0) = true ∧ Agg.aIv k (Agg.ivLeft k l j) (false, 0) = Agg.ivLeft k l (j + 1) := by
  have h1 : Agg.ivCan k (Agg.ivLeft k l j) (false, 0) = true := by
    simp only [Agg.ivCan, Agg.ivOk, Agg.ivLeft, Bool.and_eq_true, decide_eq_true_eq]
    refine ⟨⟨⟨hr, Agg.items_drop hi _⟩, trivial⟩, ?_⟩
    simp [Agg.can, Agg.opOk]
    omega
  refine ⟨h1, ?_⟩
  have e : Agg.aIv k (Agg.ivLeft k l j) (false, 0) = Agg.ivStep k (Agg.ivLeft k l j).items (false, 0) := by simp [Agg.aIv, h1]
  rw [e]
  simp only [Agg.ivStep, Agg.ivLeft, Agg.stepW, Bool.false_eq_true, if_false]
  rw [← List.drop_one, List.drop_drop]
theorem Agg.left_push {k x : Int} {w : Agg.Iv} (h : Agg.ivCan k w (true, x) = true) : Agg.aIv k w (true, x) = Agg.ivLeft k (w.items ++ [x]) 0 ∧ Agg.removes k = true ∧ Agg.itemsOk (w.items ++ [x]) = true ∧ Agg.ivLeft k (w.items ++ [x]) w.items.length = ⟨[x], Agg.lift k x⟩ ∧ Agg.aLift k x = (Agg.lift k x, true) := by
  have e : Agg.aIv k w (true, x) = Agg.ivStep k w.items (true, x) := by simp [Agg.aIv, h]
  rw [e]
  simp only [Agg.ivCan, Bool.and_eq_true] at h
  obtain ⟨hr, hk, hit, -, -⟩ := Agg.ivOk_parts h.1
  obtain ⟨hx, -⟩ := Agg.can_push h.2
  have h2 := Agg.stepW_ok hit h.2
  refine ⟨rfl, hr, by simpa [Agg.stepW] using h2, ?_, by simp [Agg.aLift, Agg.give, hk, hx]⟩
  simp [Agg.ivLeft, Agg.fold_one hk hx]
set_option maxRecDepth 8000 in
set_option maxHeartbeats 8000000 in
theorem law_FnInverseTurn (a : Option Addr) (n cap : Nat) (zs : List Int) (w : World) (hrow : IsRow .u8 w a n cap zs) :
    Calls Tryz.prog 4 #[.slice a n cap] w fun e w' => e = .returned (.bool true) ∧ Below w.heap.size w w' := by
  have HY := Lib.hid (Bytes.of_row hrow)
  have hm : cap ≤ 9223372036854775807 := HY.out.2.1
  have hnc : n ≤ cap := HY.out.1
  clear hrow
  by_cases hn : n ≤ 1048576
  · go_enter Tryz.func4, Tryz.ntmps4
    go_wp2_with fail
    refine (drawInverseStep_any _ _ _ _ _ HY.out).mono ?_
    rintro e w1 ⟨k, v, ⟨I, ⟨ax, ay, az⟩⟩, p, x, rfl, hO, h61, hb1⟩
    obtain ⟨ia, ic, rfl, hI⟩ := hO.read
    simp only at hI h61
    obtain ⟨W, hW⟩ : ∃ W, W = (w1.alloc (.cells #[.slice ia I.length ic, .int .i64 ax, .int .i64 ay, .int .i64 az] 27)).alloc (.cells #[.bool p, .int .i64 x] 29) := ⟨_, rfl⟩
    have hbn : Below w1.heap.size w1 W := by rw [hW]; exact ((Below.refl _ _).alloc (Nat.le_refl _) _).alloc (by simp) _
    have HA := Lib.hid (show Box4 W w1.heap.size 27 (.slice ia I.length ic) (.int .i64 ax) (.int .i64 ay) (.int .i64 az) from by rw [hW]; exact (Box4.new w1 _ _ _ _ _).alloc _)
    have HP := Lib.hid (show Box2q W (w1.heap.size + 1) 29 (.bool p) (.int .i64 x) from by rw [hW]; exact Box2q.new1 _ _ _ (by simp))
    have HB := Lib.hid (hb1.trans (hbn.mono hb1.size))
    have HI := Lib.hid (hI.below hbn)
    have hic : ic ≤ 9223372036854775807 := by have := hI.2.2.1; unfold maxLen at this; omega
    have hnI : I.length ≤ ic := hI.2.1
    have haw1 : w.heap.size ≤ w1.heap.size := hb1.size
    have hpl : w1.heap.size + 1 < W.heap.size := HP.out.lt
    clear hb1 hbn hI hO HY
    go_upto_region 4 with (fail)
    rw [← hW]
    clear hW
    obtain ⟨aw, haw⟩ : ∃ aw, aw = w1.heap.size := ⟨_, rfl⟩
    rw [← haw] at HA HP haw1 hpl
    simp only [← haw]
    clear haw
    obtain ⟨S, hS⟩ : ∃ S, S = Agg.aIv k ⟨I, ⟨ax, ay, az⟩⟩ (p, x) := ⟨_, rfl⟩
    obtain ⟨b, hb⟩ : ∃ b, b = Agg.ivCan k ⟨I, ⟨ax, ay, az⟩⟩ (p, x) := ⟨_, rfl⟩
    have h1 := fun ia ic w hI => inverseStep_any k ia I.length ic ax ay az I p x w hI
    have h2 := fun ia ic w hI => s_inverseStep_any k ia I.length ic ax ay az I p x w hI
    rw [← hS, ← hb] at h1 h2
    have H1 := Lib.hid h1
    have H2 := Lib.hid h2
    have HS := Lib.hid hS
    have HBB := Lib.hid hb
    clear h1 h2 hS hb
    obtain ⟨SI, ⟨sx, sy, sz⟩⟩ := S
    obtain ⟨q0, q1, q2, q3⟩ := HA.out.cells
    obtain ⟨p0, p1⟩ := HP.out.cells
    go_wp2_with fail
    refine (H1.out _ _ _ HI.out).mono ?_
    rintro e w2 ⟨vv, rfl, rr, hbb⟩
    obtain ⟨ia0, ic0, rfl, hR⟩ := rr.read
    simp only at hR
    obtain ⟨W2, hW⟩ : ∃ W, W = w2.alloc (.cells #[.slice ia0 SI.length ic0, .int .i64 sx, .int .i64 sy, .int .i64 sz] 27) := ⟨_, rfl⟩
    have hbn : Below w2.heap.size w2 W2 := by rw [hW]; exact (Below.refl _ _).alloc (Nat.le_refl _) _
    have B0 := Lib.hid (show Box4 W2 w2.heap.size 27 (.slice ia0 SI.length ic0) (.int .i64 sx) (.int .i64 sy) (.int .i64 sz) from by rw [hW]; exact Box4.new _ _ _ _ _ _)
    have R0 := Lib.hid (hR.below hbn)
    have hbw := hbb.trans (hbn.mono hbb.size)
    have HA := Lib.hid (HA.out.call hbw)
    have HP := Lib.hid (HP.out.call hbw)
    have HI := Lib.hid (HI.out.below hbw)
    have HB := Lib.hid (HB.out.trans (hbw.mono HB.out.size))
    have hsw2 : W.heap.size ≤ w2.heap.size := hbb.size
    clear rr hbb hbn hbw hR q0 q1 q2 q3 p0 p1
    go_upto_region 5 with (fail)
    rw [← hW]
    clear hW
    obtain ⟨c0, hc0⟩ : ∃ c, c = w2.heap.size := ⟨_, rfl⟩
    rw [← hc0] at B0 hsw2
    simp only [← hc0]
    clear hc0
    obtain ⟨q0, q1, q2, q3⟩ := HA.out.cells
    obtain ⟨p0, p1⟩ := HP.out.cells
    go_wp2_with fail
    refine (H2.out _ _ _ HI.out).mono ?_
    rintro e w3 ⟨vv, rfl, rr, hbb⟩
    obtain ⟨ia1, ic1, rfl, hR⟩ := rr.read
    simp only at hR
    obtain ⟨W3, hW⟩ : ∃ W, W = w3.alloc (.cells #[.slice ia1 SI.length ic1, .int .i64 sx, .int .i64 sy, .int .i64 sz] 27) := ⟨_, rfl⟩
    have hbn : Below w3.heap.size w3 W3 := by rw [hW]; exact (Below.refl _ _).alloc (Nat.le_refl _) _
    have B1 := Lib.hid (show Box4 W3 w3.heap.size 27 (.slice ia1 SI.length ic1) (.int .i64 sx) (.int .i64 sy) (.int .i64 sz) from by rw [hW]; exact Box4.new _ _ _ _ _ _)
    have R1 := Lib.hid (hR.below hbn)
    have hbw := hbb.trans (hbn.mono hbb.size)
    have HA := Lib.hid (HA.out.call hbw)
    have HP := Lib.hid (HP.out.call hbw)
    have HI := Lib.hid (HI.out.below hbw)
    have B0 := Lib.hid (B0.out.call hbw)
    have R0 := Lib.hid (R0.out.below hbw)
    have HB := Lib.hid (HB.out.trans (hbw.mono HB.out.size))
    have hsw3 : W2.heap.size ≤ w3.heap.size := hbb.size
    clear rr hbb hbn hbw hR q0 q1 q2 q3 p0 p1
    go_upto_region 6 with (fail)
    rw [← hW]
    clear hW
    obtain ⟨c1, hc1⟩ : ∃ c, c = w3.heap.size := ⟨_, rfl⟩
    rw [← hc1] at B1 hsw3
    simp only [← hc1]
    clear hc1
    clear H1 H2
    have hca : aw ≠ c0 := by omega
    have hcp : aw + 1 ≠ c0 := by omega
    have hcw : w.heap.size ≤ c0 := by omega
    obtain ⟨r0, r1, r2, r3⟩ := B0.out.cells
    obtain ⟨g0, g1, g2, g3⟩ := B1.out.cells
    obtain ⟨p0, p1⟩ := HP.out.cells
    go_wp2_with fail
    refine (waInts_w _ _ _ _ _ _ SI _ R0.out R1.out).mono ?_
    rintro e w2 ⟨rfl, hb2⟩
    have HA := Lib.hid (HA.out.call hb2)
    have HP := Lib.hid (HP.out.call hb2)
    have B0 := Lib.hid (B0.out.call hb2)
    have B1 := Lib.hid (B1.out.call hb2)
    have R0 := Lib.hid (R0.out.below hb2)
    have R1 := Lib.hid (R1.out.below hb2)
    have HI := Lib.hid (HI.out.below hb2)
    have HB := Lib.hid (HB.out.trans (hb2.mono HB.out.size))
    clear hb2
    clear r0 r1 r2 r3 g0 g1 g2 g3
    clear p0 p1
    obtain ⟨r0, r1, r2, r3⟩ := B0.out.cells
    obtain ⟨g0, g1, g2, g3⟩ := B1.out.cells
    obtain ⟨p0, p1⟩ := HP.out.cells
    cases b
    · skip
      go_wp2_with fail
      refine (waInts_w _ _ _ _ _ _ SI _ R0.out R1.out).mono ?_
      rintro e w3 ⟨rfl, hb3⟩
      have HB := Lib.hid (HB.out.trans (hb3.mono HB.out.size))
      clear hb3
      go_wp2_with fail
      go_returns
      exact ⟨rfl, HB.out⟩
    · cases p
      · skip
        go_wp2_with fail
        refine (waInts_w _ _ _ _ _ _ SI _ R0.out R1.out).mono ?_
        rintro e w3 ⟨rfl, hb3⟩
        have HB := Lib.hid (HB.out.trans (hb3.mono HB.out.size))
        clear hb3
        go_wp2_with fail
        go_returns
        exact ⟨rfl, HB.out⟩
      · obtain ⟨f1, f2, f3, f4, f5⟩ := Agg.left_push HBB.out.symm
        rw [← HS.out] at f1
        simp only at f1 f3 f4
        obtain ⟨N, hN⟩ : ∃ N, N = I.length := ⟨_, rfl⟩
        obtain ⟨D, hD⟩ : ∃ D : Nat → Agg.Iv, D = Agg.ivLeft k (I ++ [x]) := ⟨_, rfl⟩
        have hstep := fun j (hj : j < I.length) => Agg.left_step (k := k) (l := I ++ [x]) (j := j) f2 f3 (by simp; omega)
        rw [← hD] at f1 f4
        simp only [← hD] at hstep
        have hm60 : I.length ≤ 60 := by have := Agg.items_len f3; simp at this; omega
        have HF1 := Lib.hid f1
        have HF4 := Lib.hid f4
        have HST := Lib.hid hstep
        have hL := fun w => liftItem_any k x w
        rw [f5] at hL
        have HL := Lib.hid hL
        clear f1 f2 f3 f4 f5 hstep hD hL
        have HB0 := Lib.hid (show Box4 w2 c0 27 (.slice ia0 (D 0).items.length ic0) (.int .i64 (D 0).agg.x) (.int .i64 (D 0).agg.y) (.int .i64 (D 0).agg.z) from by rw [← HF1.out]; exact B0.out)
        have HR0 := Lib.hid (show Nums .i64 w2 ia0 (D 0).items.length ic0 (D 0).items from by rw [← HF1.out]; exact R0.out)
        obtain ⟨q0, q1, q2, q3⟩ := HA.out.cells
        go_upto_region 9 with (fail)
        clear g0 g1 g2 g3 r0 r1 r2 r3 p0 p1
        go_loopw [10] (fun i wr => ∃ (j : Nat) (ja : Option Addr) (jc : Nat), j ≤ I.length ∧ i = .int .i64 j ∧ Hid (Box4 wr c0 27 (.slice ja (D j).items.length jc) (.int .i64 (D j).agg.x) (.int .i64 (D j).agg.y) (.int .i64 (D j).agg.z)) ∧ Hid (Nums .i64 wr ja (D j).items.length jc (D j).items) ∧ Hid (Box4 wr aw 27 (.slice ia I.length ic) (.int .i64 ax) (.int .i64 ay) (.int .i64 az)) ∧ Hid (Box2q wr (aw + 1) 29 (.bool true) (.int .i64 x)) ∧ Hid (Below w.heap.size w wr)) (fun i _ => I.length - (intOf i).toNat)
        case atStart => exact ⟨0, ia0, ic0, Nat.zero_le _, rfl, HB0, HR0, HA, HP, HB⟩
        case round =>
          obtain ⟨j, ja, jc, hj, rfl, hb0, hr0, hha, hhp, hbb0⟩ := hrel
          clear HB0 HR0 HA HP HB B0 B1 R0 R1 HI q0 q1 q2 q3
          obtain ⟨q0, q1, q2, q3⟩ := hha.out.cells
          have hk0 : (0 : Int) ≤ (j : Int) := Int.natCast_nonneg _
          by_cases hlt : j < I.length
          · have hkn : (j : Int) < (I.length : Int) := by omega
            obtain ⟨g1, g2⟩ := HST.out j hlt
            obtain ⟨S1, hS1⟩ : ∃ S1, S1 = D (j + 1) := ⟨_, rfl⟩
            rw [← hS1] at g2
            obtain ⟨S0, hS0⟩ : ∃ S0, S0 = D j := ⟨_, rfl⟩
            rw [← hS0] at g1 g2 hb0 hr0
            obtain ⟨TI, ⟨tx, ty, tz⟩⟩ := S0
            simp only at hb0 hr0
            have h1 := fun w hI => inverseStep_any k ja TI.length jc tx ty tz TI false 0 w hI
            rw [g1, g2] at h1
            have H1 := Lib.hid h1
            have HS1 := Lib.hid hS1
            have HB0 := hb0
            have HR0 := hr0
            have HHA := hha
            have HHP := hhp
            have HB := hbb0
            clear g1 g2 hS0 h1 hS1 hb0 hr0 hha hhp hbb0
            obtain ⟨t0, t1, t2, t3⟩ := HB0.out.cells
            go_wp2_with fail
            refine (H1.out _ HR0.out).mono ?_
            rintro e w5 ⟨vv, rfl, rr, hbb⟩
            obtain ⟨na, nc, rfl, -⟩ := id rr.read
            obtain ⟨UI, ⟨ux, uy, uz⟩⟩ := S1
            simp only at rr
            obtain ⟨W5, hW⟩ : ∃ W, W = w5.alloc (.cells #[.slice na UI.length nc, .int .i64 ux, .int .i64 uy, .int .i64 uz] 27) := ⟨_, rfl⟩
            have hbn : Below w5.heap.size w5 W5 := by rw [hW]; exact (Below.refl _ _).alloc (Nat.le_refl _) _
            have BN := Lib.hid (show Box4 W5 w5.heap.size 27 (.slice na UI.length nc) (.int .i64 ux) (.int .i64 uy) (.int .i64 uz) from by rw [hW]; exact Box4.new _ _ _ _ _ _)
            have RN := Lib.hid (rr.below hbn)
            have hbw := hbb.trans (hbn.mono hbb.size)
            have hc0 := HB0.out.lt
            have haw : aw + 1 < wr.heap.size := (Array.getElem?_eq_some_iff.1 HHP.out).1
            have hcn : wr.heap.size ≤ w5.heap.size := hbb.size
            have HHA := Lib.hid (HHA.out.call hbw)
            have HHP := Lib.hid (HHP.out.call hbw)
            have HB := Lib.hid (HB.out.trans (hbw.mono HB.out.size))
            have HB0 := Lib.hid (HB0.out.call hbw)
            clear rr hbb hbn hbw H1 HR0 t0 t1 t2 t3 q0 q1 q2 q3
            go_upto_region 12 with (fail)
            rw [← hW]
            clear hW
            obtain ⟨n0, n1, n2, n3⟩ := BN.out.cells
            obtain ⟨t0, t1, t2, t3⟩ := HB0.out.cells
            have tf := HB0.out.free
            have hne : c0 ≠ w5.heap.size := by omega
            have hne2 : w5.heap.size ≠ c0 := by omega
            go_wp2_with fail
            go_roundw
            case rel =>
              refine ⟨j + 1, na, nc, by omega, by go_num, ?_, ?_, ?_, ?_, ?_⟩
              · rw [← HS1.out]; exact Lib.hid ((((HB0.out.set0 _).set1 _).set2 _).set3 _)
              · rw [← HS1.out]; exact Lib.hid ((iv_set4 RN.out (.inl (by omega)) _ _ _ _).nums0)
              · exact Lib.hid ((((HHA.out.other hca _ _).other hca _ _).other hca _ _).other hca _ _)
              · exact Lib.hid ((((HHP.out.other hcp _ _).other hcp _ _).other hcp _ _).other hcp _ _)
              · exact Lib.hid (sets4 HB.out hcw _ _ _ _)
            case measure => simp [intOf]; omega
          · obtain rfl : j = I.length := by omega
            rw [HF4.out] at hb0 hr0
            simp only at hb0 hr0
            have hlt2 : ¬ ((I.length : Int) < (I.length : Int)) := by omega
            obtain ⟨p0, p1⟩ := hhp.out.cells
            have HHP := hhp
            have HB0 := hb0
            have HB := hbb0
            obtain ⟨⟨lx, ly, lz⟩, hlx⟩ : ∃ V, V = Agg.lift k x := ⟨_, rfl⟩
            rw [← hlx] at HB0 HL
            simp only at HB0 HL
            clear hlx hb0 hhp hbb0 hr0 hha
            go_wp2_with fail
            refine (HL.out _).mono ?_
            rintro e w5 ⟨rfl, hb5⟩
            obtain ⟨W5, hW⟩ : ∃ W, W = w5.alloc (.cells #[.int .i64 lx, .int .i64 ly, .int .i64 lz] 25) := ⟨_, rfl⟩
            have hbn : Below w5.heap.size w5 W5 := by rw [hW]; exact (Below.refl _ _).alloc (Nat.le_refl _) _
            have BV := Lib.hid (show Box W5 w5.heap.size 25 lx ly lz from by rw [hW]; exact Box.new _ _ _ _ _)
            have hbw := hb5.trans (hbn.mono hb5.size)
            have HB0 := Lib.hid (HB0.out.call hbw)
            have HB := Lib.hid (HB.out.trans (hbw.mono HB.out.size))
            clear hb5 hbn hbw p0 p1 q0 q1 q2 q3
            go_upto_region 16 with (fail)
            rw [← hW]
            clear hW
            obtain ⟨v0, v1, v2⟩ := BV.out.cells
            obtain ⟨t0, t1, t2, t3⟩ := HB0.out.cells
            go_wp2_with fail
            go_returns
            exact ⟨rfl, HB.out⟩
  · go_enter Tryz.func4, Tryz.ntmps4
    go_wp2
    go_returns
    exact ⟨rfl, Below.refl _ _⟩
end Go.Proofs.YtmlkdbmhekiniaaGreat
