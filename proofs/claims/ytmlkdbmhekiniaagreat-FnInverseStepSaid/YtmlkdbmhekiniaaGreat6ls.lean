/-
  The law FnInverseStep, walked.
-/
import Derived.Test.YtmlkdbmhekiniaaGreat6lj
import Derived.Test.YtmlkdbmhekiniaaGreatQd
import Derived.Test.YtmlkdbmhekiniaaGreatQb
import Derived.Test.YtmlkdbmhekiniaaGreatM
import Derived.Deep.Cut
namespace Go.Proofs.YtmlkdbmhekiniaaGreat
set_option linter.unusedSimpArgs false
set_option linter.unusedVariables false
open Go.RowKit
theorem IvOwn.nums0 {w : World} {lo hi m ic : Nat} {ia : Option Addr} {u0 u1 u2 : Value} {s : Agg.Iv} (h : IvOwn w lo hi (.agg #[.slice ia m ic, u0, u1, u2]) s) : Nums .i64 w ia m ic s.items := by
  obtain ⟨ia', ic', e, h2⟩ := h.read
  simp only [Value.agg.injEq, Array.mk.injEq, List.cons.injEq, Value.slice.injEq] at e
  obtain ⟨⟨rfl, rfl, rfl⟩, -⟩ := e
  exact h2
theorem iv_set4 {wr : World} {lo hi c : Nat} {v : Value} {s : Agg.Iv} (h : IvOwn wr lo hi v s) (hd : c < lo ∨ hi ≤ c) (u0 u1 u2 u3 : Value) : IvOwn ((((wr.setCell ⟨c, 0, none⟩ u0).setCell ⟨c, 1, none⟩ u1).setCell ⟨c, 2, none⟩ u2).setCell ⟨c, 3, none⟩ u3) lo hi v s := by
  obtain ⟨iv, hv, h2⟩ := h
  exact ⟨iv, hv, (((h2.set1 hd).set1 hd).set1 hd).set1 hd⟩
theorem Agg.iv_after {k : Int} {w : Agg.Iv} {o : Bool × Int} (h : Agg.ivCan k w o = true) : Agg.aFold k (Agg.aIv k w o).items = ((Agg.aIv k w o).agg, true) ∧ Agg.ivOk k (Agg.aIv k w o) = true ∧ Agg.ivOk k w = true := by
  have e : Agg.aIv k w o = Agg.ivStep k w.items o := by simp [Agg.aIv, h]
  rw [e]
  simp only [Agg.ivCan, Bool.and_eq_true] at h
  obtain ⟨hr, hk, hit, -, -⟩ := Agg.ivOk_parts h.1
  have h2 := Agg.stepW_ok hit h.2
  refine ⟨?_, ?_, h.1⟩
  · simp [Agg.aFold, Agg.give, Agg.ivStep, hk, h2]
  · simp [Agg.ivOk, Agg.ivStep, hr, h2]
set_option maxRecDepth 8000 in
set_option maxHeartbeats 8000000 in
theorem law_FnInverseStep (a : Option Addr) (n cap : Nat) (zs : List Int) (w : World) (hrow : IsRow .u8 w a n cap zs) :
    Calls Tryz.prog 3 #[.slice a n cap] w fun e w' => e = .returned (.bool true) ∧ Below w.heap.size w w' := by
  have HY := Lib.hid (Bytes.of_row hrow)
  have hm : cap ≤ 9223372036854775807 := HY.out.2.1
  have hnc : n ≤ cap := HY.out.1
  clear hrow
  by_cases hn : n ≤ 1048576
  · go_enter Tryz.func3, Tryz.ntmps3
    go_wp2_with fail
    refine (drawInverseStep_any _ _ _ _ _ HY.out).mono ?_
    rintro e w1 ⟨k, v, ⟨I, ⟨ax, ay, az⟩⟩, p, x, rfl, hO, h61, hb1⟩
    obtain ⟨ia, ic, rfl, hI⟩ := hO.read
    simp only at hI h61
    obtain ⟨W, hW⟩ : ∃ W, W = (w1.alloc (.cells #[.slice ia I.length ic, .int .i64 ax, .int .i64 ay, .int .i64 az] 27)).alloc (.cells #[.bool p, .int .i64 x] 29) := ⟨_, rfl⟩
    have hbn : Below w1.heap.size w1 W := by rw [hW]; exact ((Below.refl _ _).alloc (Nat.le_refl _) _).alloc (by simp) _
    have HA := Lib.hid (show Box4 W w1.heap.size 27 (.slice ia I.length ic) (.int .i64 ax) (.int .i64 ay) (.int .i64 az) from by rw [hW]; exact (Box4.new w1 _ _ _ _ _).alloc _)
    have HP := Lib.hid (show Box2q W (w1.heap.size + 1) 29 (.bool p) (.int .i64 x) from by rw [hW]; exact Box2q.new1 _ _ _ (by simp))
    have HB := Lib.hid (hb1.trans (hbn.mono hb1.size))
    have HI := Lib.hid (hI.below hbn)
    have hic : ic ≤ 9223372036854775807 := by have := hI.2.2.1; unfold maxLen at this; omega
    have hnI : I.length ≤ ic := hI.2.1
    have haw1 : w.heap.size ≤ w1.heap.size := hb1.size
    have hpl : w1.heap.size + 1 < W.heap.size := HP.out.lt
    clear hb1 hbn hI hO HY
    go_upto_region 4 with (fail)
    rw [← hW]
    clear hW
    obtain ⟨aw, haw⟩ : ∃ aw, aw = w1.heap.size := ⟨_, rfl⟩
    rw [← haw] at HA HP haw1 hpl
    simp only [← haw]
    clear haw
    obtain ⟨S, hS⟩ : ∃ S, S = Agg.aIv k ⟨I, ⟨ax, ay, az⟩⟩ (p, x) := ⟨_, rfl⟩
    obtain ⟨b, hb⟩ : ∃ b, b = Agg.ivCan k ⟨I, ⟨ax, ay, az⟩⟩ (p, x) := ⟨_, rfl⟩
    have h1 := fun ia ic w hI => inverseStep_any k ia I.length ic ax ay az I p x w hI
    have h2 := fun ia ic w hI => s_inverseStep_any k ia I.length ic ax ay az I p x w hI
    rw [← hS, ← hb] at h1 h2
    have H1 := Lib.hid h1
    have H2 := Lib.hid h2
    have HS := Lib.hid hS
    have HBB := Lib.hid hb
    clear h1 h2 hS hb
    obtain ⟨SI, ⟨sx, sy, sz⟩⟩ := S
    obtain ⟨q0, q1, q2, q3⟩ := HA.out.cells
    obtain ⟨p0, p1⟩ := HP.out.cells
    go_wp2_with fail
    refine (H1.out _ _ _ HI.out).mono ?_
    rintro e w2 ⟨vv, rfl, rr, hbb⟩
    obtain ⟨ia0, ic0, rfl, hR⟩ := rr.read
    simp only at hR
    obtain ⟨W2, hW⟩ : ∃ W, W = w2.alloc (.cells #[.slice ia0 SI.length ic0, .int .i64 sx, .int .i64 sy, .int .i64 sz] 27) := ⟨_, rfl⟩
    have hbn : Below w2.heap.size w2 W2 := by rw [hW]; exact (Below.refl _ _).alloc (Nat.le_refl _) _
    have B0 := Lib.hid (show Box4 W2 w2.heap.size 27 (.slice ia0 SI.length ic0) (.int .i64 sx) (.int .i64 sy) (.int .i64 sz) from by rw [hW]; exact Box4.new _ _ _ _ _ _)
    have R0 := Lib.hid (hR.below hbn)
    have hbw := hbb.trans (hbn.mono hbb.size)
    have HA := Lib.hid (HA.out.call hbw)
    have HP := Lib.hid (HP.out.call hbw)
    have HI := Lib.hid (HI.out.below hbw)
    have HB := Lib.hid (HB.out.trans (hbw.mono HB.out.size))
    have hsw2 : W.heap.size ≤ w2.heap.size := hbb.size
    clear rr hbb hbn hbw hR q0 q1 q2 q3 p0 p1
    go_upto_region 5 with (fail)
    rw [← hW]
    clear hW
    obtain ⟨c0, hc0⟩ : ∃ c, c = w2.heap.size := ⟨_, rfl⟩
    rw [← hc0] at B0 hsw2
    simp only [← hc0]
    clear hc0
    obtain ⟨q0, q1, q2, q3⟩ := HA.out.cells
    obtain ⟨p0, p1⟩ := HP.out.cells
    go_wp2_with fail
    refine (H2.out _ _ _ HI.out).mono ?_
    rintro e w3 ⟨vv, rfl, rr, hbb⟩
    obtain ⟨ia1, ic1, rfl, hR⟩ := rr.read
    simp only at hR
    obtain ⟨W3, hW⟩ : ∃ W, W = w3.alloc (.cells #[.slice ia1 SI.length ic1, .int .i64 sx, .int .i64 sy, .int .i64 sz] 27) := ⟨_, rfl⟩
    have hbn : Below w3.heap.size w3 W3 := by rw [hW]; exact (Below.refl _ _).alloc (Nat.le_refl _) _
    have B1 := Lib.hid (show Box4 W3 w3.heap.size 27 (.slice ia1 SI.length ic1) (.int .i64 sx) (.int .i64 sy) (.int .i64 sz) from by rw [hW]; exact Box4.new _ _ _ _ _ _)
    have R1 := Lib.hid (hR.below hbn)
    have hbw := hbb.trans (hbn.mono hbb.size)
    have HA := Lib.hid (HA.out.call hbw)
    have HP := Lib.hid (HP.out.call hbw)
    have HI := Lib.hid (HI.out.below hbw)
    have B0 := Lib.hid (B0.out.call hbw)
    have R0 := Lib.hid (R0.out.below hbw)
    have HB := Lib.hid (HB.out.trans (hbw.mono HB.out.size))
    have hsw3 : W2.heap.size ≤ w3.heap.size := hbb.size
    clear rr hbb hbn hbw hR q0 q1 q2 q3 p0 p1
    go_upto_region 6 with (fail)
    rw [← hW]
    clear hW
    obtain ⟨c1, hc1⟩ : ∃ c, c = w3.heap.size := ⟨_, rfl⟩
    rw [← hc1] at B1 hsw3
    simp only [← hc1]
    clear hc1
    clear H1 H2
    have k0 : 0 ≤ SI.length := Nat.zero_le _
    obtain ⟨r0, r1, r2, r3⟩ := B0.out.cells
    obtain ⟨g0, g1, g2, g3⟩ := B1.out.cells
    go_wp2_with fail
    refine (waInts_w _ _ _ _ _ _ SI _ R0.out R1.out).mono ?_
    rintro e w2 ⟨rfl, hb2⟩
    have HA := Lib.hid (HA.out.call hb2)
    have HP := Lib.hid (HP.out.call hb2)
    have B0 := Lib.hid (B0.out.call hb2)
    have B1 := Lib.hid (B1.out.call hb2)
    have R0 := Lib.hid (R0.out.below hb2)
    have R1 := Lib.hid (R1.out.below hb2)
    have HI := Lib.hid (HI.out.below hb2)
    have HB := Lib.hid (HB.out.trans (hb2.mono HB.out.size))
    clear hb2
    clear r0 r1 r2 r3 g0 g1 g2 g3
    obtain ⟨r0, r1, r2, r3⟩ := B0.out.cells
    obtain ⟨g0, g1, g2, g3⟩ := B1.out.cells
    cases b
    · skip
      go_wp2_with fail
      refine (waInts_w _ _ _ _ _ _ SI _ R0.out R1.out).mono ?_
      rintro e w3 ⟨rfl, hb3⟩
      have B0 := Lib.hid (B0.out.call hb3)
      have B1 := Lib.hid (B1.out.call hb3)
      have HB := Lib.hid (HB.out.trans (hb3.mono HB.out.size))
      clear hb3
      clear r0 r1 r2 r3 g0 g1 g2 g3
      obtain ⟨r0, r1, r2, r3⟩ := B0.out.cells
      obtain ⟨g0, g1, g2, g3⟩ := B1.out.cells
      go_wp2_with fail
      go_returns
      exact ⟨rfl, HB.out⟩
    · obtain ⟨f1, f2, f3⟩ := Agg.iv_after HBB.out.symm
      rw [← HS.out] at f1 f2
      have hF := fun w h => foldItems_any k ia0 SI.length ic0 SI w h
      simp only at f1 f2
      rw [f1] at hF
      have HF := Lib.hid hF
      have hv1 := fun w h => inverseValid_any k ia I.length ic ax ay az I w h
      rw [f3] at hv1
      have HV1 := Lib.hid hv1
      have hv2 := fun w h => inverseValid_any k ia0 SI.length ic0 sx sy sz SI w h
      rw [f2] at hv2
      have HV2 := Lib.hid hv2
      clear f1 f2 f3 hF hv1 hv2
      go_wp2_with fail
      refine (HF.out _ R0.out).mono ?_
      rintro e w5 ⟨rfl, hb5⟩
      obtain ⟨W5, hW⟩ : ∃ W, W = w5.alloc (.cells #[.int .i64 sx, .int .i64 sy, .int .i64 sz] 25) := ⟨_, rfl⟩
      have hbn : Below w5.heap.size w5 W5 := by rw [hW]; exact (Below.refl _ _).alloc (Nat.le_refl _) _
      have BV := Lib.hid (show Box W5 w5.heap.size 25 sx sy sz from by rw [hW]; exact Box.new _ _ _ _ _)
      have hbw := hb5.trans (hbn.mono hb5.size)
      have HA := Lib.hid (HA.out.call hbw)
      have B0 := Lib.hid (B0.out.call hbw)
      have R0 := Lib.hid (R0.out.below hbw)
      have HI := Lib.hid (HI.out.below hbw)
      have HB := Lib.hid (HB.out.trans (hbw.mono HB.out.size))
      clear hb5 hbn hbw r0 r1 r2 r3 g0 g1 g2 g3 HF
      go_upto_region 9 with (fail)
      rw [← hW]
      clear hW
      obtain ⟨q0, q1, q2, q3⟩ := HA.out.cells
      go_wp2_with fail
      refine (HV1.out _ HI.out).mono ?_
      rintro e w9 ⟨rfl, hb9⟩
      have B0 := Lib.hid (B0.out.call hb9)
      have R0 := Lib.hid (R0.out.below hb9)
      have HB := Lib.hid (HB.out.trans (hb9.mono HB.out.size))
      have BV := Lib.hid (BV.out.call hb9)
      clear hb9
      clear q0 q1 q2 q3
      obtain ⟨r0, r1, r2, r3⟩ := B0.out.cells
      go_wp2_with fail
      refine (HV2.out _ R0.out).mono ?_
      rintro e w10 ⟨rfl, hb10⟩
      have B0 := Lib.hid (B0.out.call hb10)
      have HB := Lib.hid (HB.out.trans (hb10.mono HB.out.size))
      have BV := Lib.hid (BV.out.call hb10)
      clear hb10
      clear r0 r1 r2 r3
      obtain ⟨r0, r1, r2, r3⟩ := B0.out.cells
      obtain ⟨v0, v1, v2⟩ := BV.out.cells
      go_wp2_with fail
      go_returns
      exact ⟨rfl, HB.out⟩
  · go_enter Tryz.func3, Tryz.ntmps3
    go_wp2
    go_returns
    exact ⟨rfl, Below.refl _ _⟩
end Go.Proofs.YtmlkdbmhekiniaaGreat
