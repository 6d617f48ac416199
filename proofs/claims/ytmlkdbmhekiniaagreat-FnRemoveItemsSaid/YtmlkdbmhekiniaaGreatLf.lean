/-
  The law that inverses are of items, walked.
-/
import Derived.Test.YtmlkdbmhekiniaaGreatLd
import Derived.Test.YtmlkdbmhekiniaaGreatO
namespace Go.Proofs.YtmlkdbmhekiniaaGreat
set_option linter.unusedSimpArgs false
set_option linter.unusedVariables false
open Go.RowKit
theorem Agg.removes_not {k : Int} (h : Agg.removes k = false) : k ≠ 1 ∧ k ≠ 2 ∧ k ≠ 7 ∧ k ≠ 8 := by
  simp only [Agg.removes, decide_eq_false_iff_not] at h
  omega
set_option maxRecDepth 20000 in
set_option maxHeartbeats 8000000 in
theorem law_FnRemoveItems (a : Option Addr) (n cap : Nat) (zs : List Int) (a2 : Option Addr) (n2 cap2 : Nat) (zs2 : List Int) (w : World) (hrow : IsRow .u8 w a n cap zs) (hrow2 : IsRow .u8 w a2 n2 cap2 zs2) :
    Calls Tryz.prog 7 #[.slice a n cap, .slice a2 n2 cap2] w fun e w' => e = .returned (.bool true) ∧ Below w.heap.size w w' := by
  have HB := Lib.hid (Bytes.of_row hrow)
  have hm : cap ≤ 9223372036854775807 := HB.out.2.1
  have hnc : n ≤ cap := HB.out.1
  have HB' := Lib.hid (Bytes.of_row hrow2)
  have hm' : cap2 ≤ 9223372036854775807 := HB'.out.2.1
  have hnc' : n2 ≤ cap2 := HB'.out.1
  clear hrow hrow2
  by_cases hn : n ≤ 1048576
  · by_cases hn2 : n2 ≤ 1048576
    · go_enter Tryz.func7, Tryz.ntmps7
      go_wp2_with fail
      refine (drawFoldItems_any _ _ _ _ _ HB.out).mono ?_
      rintro e w1 ⟨k, b, m, mc, l, rfl, hN, hm1000, hB1⟩
      have hs1 := hB1.size
      have hml : m ≤ mc := hN.2.1
      have hmc : mc ≤ 9223372036854775807 := by have := hN.2.2.1; unfold maxLen at this; omega
      have hll : l.length = m := hN.1
      have HN := Lib.hid hN; clear hN
      obtain ⟨⟨⟨x, y, z⟩, o⟩, ho⟩ : ∃ p, p = Agg.aFold k l := ⟨_, rfl⟩
      have h1 := fun a n cap w => foldItems_any k a n cap l w
      have h2 := fun a n cap w => s_foldItems_any k a n cap l w
      rw [← ho] at h1 h2
      have H1 := Lib.hid h1
      have H2 := Lib.hid h2
      have HO := Lib.hid ho.symm
      clear h1 h2 ho
      (try go_wp2_with fail)
      refine (H1.out _ _ _ _ HN.out).mono ?_
      rintro e w2 ⟨rfl, hb2⟩
      obtain ⟨hc2, hf2⟩ := bcell hb2
      have hq2 := hb2.size
      (try simp at hq2)
      have hB2 : Below w.heap.size w w2 := Below.trans (by go_grown) (hb2.mono (by first | (simp; done) | omega | (simp; omega)))
      have hs2 := hB2.size
      (try have hy2_0_0 : w.heap.size < w2.heap.size := by omega)
      (try have hy2_0_1 : w.heap.size + 1 < w2.heap.size := by omega)
      (try have hy2_0_2 : w.heap.size + 1 + 1 < w2.heap.size := by omega)
      (try have hy2_0_3 : w.heap.size + 1 + 1 + 1 < w2.heap.size := by omega)
      (try have hy2_0_4 : w.heap.size + 1 + 1 + 1 + 1 < w2.heap.size := by omega)
      (try have hy2_0_5 : w.heap.size + 1 + 1 + 1 + 1 + 1 < w2.heap.size := by omega)
      (try have hx2_0_1 : w.heap.size < w2.heap.size + 1 := by omega)
      (try have hx2_0_2 : w.heap.size < w2.heap.size + 1 + 1 := by omega)
      (try have hy2_1_0 : w1.heap.size < w2.heap.size := by omega)
      (try have hy2_1_1 : w1.heap.size + 1 < w2.heap.size := by omega)
      (try have hy2_1_2 : w1.heap.size + 1 + 1 < w2.heap.size := by omega)
      (try have hy2_1_3 : w1.heap.size + 1 + 1 + 1 < w2.heap.size := by omega)
      (try have hy2_1_4 : w1.heap.size + 1 + 1 + 1 + 1 < w2.heap.size := by omega)
      (try have hy2_1_5 : w1.heap.size + 1 + 1 + 1 + 1 + 1 < w2.heap.size := by omega)
      (try have hx2_1_1 : w1.heap.size < w2.heap.size + 1 := by omega)
      (try have hx2_1_2 : w1.heap.size < w2.heap.size + 1 + 1 := by omega)
      have HN2 := Lib.hid (HN.out.below hb2)
      clear hb2 hq2
      (try go_wp2_with fail)
      refine (H2.out _ _ _ _ (HN2.out.below (by go_grown))).mono ?_
      rintro e w3 ⟨rfl, hb3⟩
      obtain ⟨hc3, hf3⟩ := bcell hb3
      have hq3 := hb3.size
      (try simp at hq3)
      have hB3 : Below w.heap.size w w3 := Below.trans (by go_grown) (hb3.mono (by first | (simp; done) | omega | (simp; omega)))
      have hs3 := hB3.size
      (try have hy3_0_0 : w.heap.size < w3.heap.size := by omega)
      (try have hy3_0_1 : w.heap.size + 1 < w3.heap.size := by omega)
      (try have hy3_0_2 : w.heap.size + 1 + 1 < w3.heap.size := by omega)
      (try have hy3_0_3 : w.heap.size + 1 + 1 + 1 < w3.heap.size := by omega)
      (try have hy3_0_4 : w.heap.size + 1 + 1 + 1 + 1 < w3.heap.size := by omega)
      (try have hy3_0_5 : w.heap.size + 1 + 1 + 1 + 1 + 1 < w3.heap.size := by omega)
      (try have hx3_0_1 : w.heap.size < w3.heap.size + 1 := by omega)
      (try have hx3_0_2 : w.heap.size < w3.heap.size + 1 + 1 := by omega)
      (try have hy3_1_0 : w1.heap.size < w3.heap.size := by omega)
      (try have hy3_1_1 : w1.heap.size + 1 < w3.heap.size := by omega)
      (try have hy3_1_2 : w1.heap.size + 1 + 1 < w3.heap.size := by omega)
      (try have hy3_1_3 : w1.heap.size + 1 + 1 + 1 < w3.heap.size := by omega)
      (try have hy3_1_4 : w1.heap.size + 1 + 1 + 1 + 1 < w3.heap.size := by omega)
      (try have hy3_1_5 : w1.heap.size + 1 + 1 + 1 + 1 + 1 < w3.heap.size := by omega)
      (try have hx3_1_1 : w1.heap.size < w3.heap.size + 1 := by omega)
      (try have hx3_1_2 : w1.heap.size < w3.heap.size + 1 + 1 := by omega)
      (try have hy3_2_0 : w2.heap.size < w3.heap.size := by omega)
      (try have hy3_2_1 : w2.heap.size + 1 < w3.heap.size := by omega)
      (try have hy3_2_2 : w2.heap.size + 1 + 1 < w3.heap.size := by omega)
      (try have hy3_2_3 : w2.heap.size + 1 + 1 + 1 < w3.heap.size := by omega)
      (try have hy3_2_4 : w2.heap.size + 1 + 1 + 1 + 1 < w3.heap.size := by omega)
      (try have hy3_2_5 : w2.heap.size + 1 + 1 + 1 + 1 + 1 < w3.heap.size := by omega)
      (try have hx3_2_1 : w2.heap.size < w3.heap.size + 1 := by omega)
      (try have hx3_2_2 : w2.heap.size < w3.heap.size + 1 + 1 := by omega)
      have HN3 := Lib.hid ((HN2.out.below (by go_grown)).below hb3)
      clear hb3 hq3
      clear H1 H2 HN HN2
      cases o
      · go_wp2_with fail
        go_returns
        exact ⟨rfl, (by first | (go_grown; done) | (refine below_drewN ?_ _; go_grown; done) | (refine (below_drewN _ ?_); go_grown; done))⟩
      · by_cases hm0 : m = 0
        · subst hm0
          go_wp2_with fail
          go_returns
          exact ⟨rfl, (by first | (go_grown; done) | (refine below_drewN ?_ _; go_grown; done) | (refine (below_drewN _ ?_); go_grown; done))⟩
        · obtain ⟨c, hc⟩ : ∃ c : Nat, (n2 : Int) % (m : Int) = (c : Int) := Int.eq_ofNat_of_zero_le (Int.emod_nonneg _ (by omega))
          have hcm : c < m := by have := Int.emod_lt_of_pos (n2 : Int) (show 0 < (m : Int) by omega); omega
          obtain ⟨p1, p2, p3⟩ := Agg.aFold_parts HO.out c
          have p4 := fun h => Agg.aRest_items HO.out c h
          obtain ⟨⟨tx, ty, tz⟩, hT⟩ : ∃ V, V = Agg.fold k (l.take c) := ⟨_, rfl⟩
          obtain ⟨⟨dx, dy, dz⟩, hD⟩ : ∃ V, V = Agg.fold k (l.drop c) := ⟨_, rfl⟩
          rw [← hT] at p1 p4
          rw [← hD] at p2 p4
          have h5 := fun a n cap w => foldItems_any k a n cap (l.take c) w
          have h6 := fun a n cap w => foldItems_any k a n cap (l.drop c) w
          have h7 := fun w => removeFirst_any k tx ty tz x y z w
          rw [p1] at h5
          rw [p2] at h6
          have H5 := Lib.hid h5
          have H6 := Lib.hid h6
          clear h5 h6 p1 p2 p3 hT hD
          have hcm1 : (c : Int) ≤ (m : Int) := by omega
          have hcm2 : (c : Int) < (mc : Int) := by omega
          have hcm3 : c < mc := by omega
          have hcm4 : ¬ (mc - c = 0) := by omega
          have hc0 : (0 : Int) ≤ (c : Int) := by omega
          have hm00 : ¬ ((m : Int) = 0) := by omega
          have hcm5 : (c : Int) ≤ (mc : Int) := by omega
          (try go_wp2_with fail)
          refine (H5.out _ _ _ _ ((HN3.out.below (by go_grown)).take (by omega))).mono ?_
          rintro e w4 ⟨rfl, hb4⟩
          obtain ⟨hc4, hf4⟩ := bcell hb4
          have hq4 := hb4.size
          (try simp at hq4)
          have hB4 : Below w.heap.size w w4 := Below.trans (by go_grown) (hb4.mono (by first | (simp; done) | omega | (simp; omega)))
          have hs4 := hB4.size
          (try have hy4_0_0 : w.heap.size < w4.heap.size := by omega)
          (try have hy4_0_1 : w.heap.size + 1 < w4.heap.size := by omega)
          (try have hy4_0_2 : w.heap.size + 1 + 1 < w4.heap.size := by omega)
          (try have hy4_0_3 : w.heap.size + 1 + 1 + 1 < w4.heap.size := by omega)
          (try have hy4_0_4 : w.heap.size + 1 + 1 + 1 + 1 < w4.heap.size := by omega)
          (try have hy4_0_5 : w.heap.size + 1 + 1 + 1 + 1 + 1 < w4.heap.size := by omega)
          (try have hx4_0_1 : w.heap.size < w4.heap.size + 1 := by omega)
          (try have hx4_0_2 : w.heap.size < w4.heap.size + 1 + 1 := by omega)
          (try have hy4_1_0 : w1.heap.size < w4.heap.size := by omega)
          (try have hy4_1_1 : w1.heap.size + 1 < w4.heap.size := by omega)
          (try have hy4_1_2 : w1.heap.size + 1 + 1 < w4.heap.size := by omega)
          (try have hy4_1_3 : w1.heap.size + 1 + 1 + 1 < w4.heap.size := by omega)
          (try have hy4_1_4 : w1.heap.size + 1 + 1 + 1 + 1 < w4.heap.size := by omega)
          (try have hy4_1_5 : w1.heap.size + 1 + 1 + 1 + 1 + 1 < w4.heap.size := by omega)
          (try have hx4_1_1 : w1.heap.size < w4.heap.size + 1 := by omega)
          (try have hx4_1_2 : w1.heap.size < w4.heap.size + 1 + 1 := by omega)
          (try have hy4_2_0 : w2.heap.size < w4.heap.size := by omega)
          (try have hy4_2_1 : w2.heap.size + 1 < w4.heap.size := by omega)
          (try have hy4_2_2 : w2.heap.size + 1 + 1 < w4.heap.size := by omega)
          (try have hy4_2_3 : w2.heap.size + 1 + 1 + 1 < w4.heap.size := by omega)
          (try have hy4_2_4 : w2.heap.size + 1 + 1 + 1 + 1 < w4.heap.size := by omega)
          (try have hy4_2_5 : w2.heap.size + 1 + 1 + 1 + 1 + 1 < w4.heap.size := by omega)
          (try have hx4_2_1 : w2.heap.size < w4.heap.size + 1 := by omega)
          (try have hx4_2_2 : w2.heap.size < w4.heap.size + 1 + 1 := by omega)
          (try have hy4_3_0 : w3.heap.size < w4.heap.size := by omega)
          (try have hy4_3_1 : w3.heap.size + 1 < w4.heap.size := by omega)
          (try have hy4_3_2 : w3.heap.size + 1 + 1 < w4.heap.size := by omega)
          (try have hy4_3_3 : w3.heap.size + 1 + 1 + 1 < w4.heap.size := by omega)
          (try have hy4_3_4 : w3.heap.size + 1 + 1 + 1 + 1 < w4.heap.size := by omega)
          (try have hy4_3_5 : w3.heap.size + 1 + 1 + 1 + 1 + 1 < w4.heap.size := by omega)
          (try have hx4_3_1 : w3.heap.size < w4.heap.size + 1 := by omega)
          (try have hx4_3_2 : w3.heap.size < w4.heap.size + 1 + 1 := by omega)
          have HN4 := Lib.hid ((HN3.out.below (by go_grown)).below hb4)
          clear hb4 hq4
          go_wp2_with fail
          have HDR := Lib.hid (Nums.drop (i := c) (HN4.out.below ((Below.refl w4.heap.size w4).alloc (Nat.le_refl _) (.cells #[.int .i64 tx, .int .i64 ty, .int .i64 tz] 25))) (by omega))
          (try go_wp2_with fail)
          refine (H6.out _ _ _ _ (by simpa using HDR.out)).mono ?_
          rintro e w5 ⟨rfl, hb5⟩
          obtain ⟨hc5, hf5⟩ := bcell hb5
          have hq5 := hb5.size
          (try simp at hq5)
          have hB5 : Below w.heap.size w w5 := Below.trans (by go_grown) (hb5.mono (by first | (simp; done) | omega | (simp; omega)))
          have hs5 := hB5.size
          (try have hy5_0_0 : w.heap.size < w5.heap.size := by omega)
          (try have hy5_0_1 : w.heap.size + 1 < w5.heap.size := by omega)
          (try have hy5_0_2 : w.heap.size + 1 + 1 < w5.heap.size := by omega)
          (try have hy5_0_3 : w.heap.size + 1 + 1 + 1 < w5.heap.size := by omega)
          (try have hy5_0_4 : w.heap.size + 1 + 1 + 1 + 1 < w5.heap.size := by omega)
          (try have hy5_0_5 : w.heap.size + 1 + 1 + 1 + 1 + 1 < w5.heap.size := by omega)
          (try have hx5_0_1 : w.heap.size < w5.heap.size + 1 := by omega)
          (try have hx5_0_2 : w.heap.size < w5.heap.size + 1 + 1 := by omega)
          (try have hy5_1_0 : w1.heap.size < w5.heap.size := by omega)
          (try have hy5_1_1 : w1.heap.size + 1 < w5.heap.size := by omega)
          (try have hy5_1_2 : w1.heap.size + 1 + 1 < w5.heap.size := by omega)
          (try have hy5_1_3 : w1.heap.size + 1 + 1 + 1 < w5.heap.size := by omega)
          (try have hy5_1_4 : w1.heap.size + 1 + 1 + 1 + 1 < w5.heap.size := by omega)
          (try have hy5_1_5 : w1.heap.size + 1 + 1 + 1 + 1 + 1 < w5.heap.size := by omega)
          (try have hx5_1_1 : w1.heap.size < w5.heap.size + 1 := by omega)
          (try have hx5_1_2 : w1.heap.size < w5.heap.size + 1 + 1 := by omega)
          (try have hy5_2_0 : w2.heap.size < w5.heap.size := by omega)
          (try have hy5_2_1 : w2.heap.size + 1 < w5.heap.size := by omega)
          (try have hy5_2_2 : w2.heap.size + 1 + 1 < w5.heap.size := by omega)
          (try have hy5_2_3 : w2.heap.size + 1 + 1 + 1 < w5.heap.size := by omega)
          (try have hy5_2_4 : w2.heap.size + 1 + 1 + 1 + 1 < w5.heap.size := by omega)
          (try have hy5_2_5 : w2.heap.size + 1 + 1 + 1 + 1 + 1 < w5.heap.size := by omega)
          (try have hx5_2_1 : w2.heap.size < w5.heap.size + 1 := by omega)
          (try have hx5_2_2 : w2.heap.size < w5.heap.size + 1 + 1 := by omega)
          (try have hy5_3_0 : w3.heap.size < w5.heap.size := by omega)
          (try have hy5_3_1 : w3.heap.size + 1 < w5.heap.size := by omega)
          (try have hy5_3_2 : w3.heap.size + 1 + 1 < w5.heap.size := by omega)
          (try have hy5_3_3 : w3.heap.size + 1 + 1 + 1 < w5.heap.size := by omega)
          (try have hy5_3_4 : w3.heap.size + 1 + 1 + 1 + 1 < w5.heap.size := by omega)
          (try have hy5_3_5 : w3.heap.size + 1 + 1 + 1 + 1 + 1 < w5.heap.size := by omega)
          (try have hx5_3_1 : w3.heap.size < w5.heap.size + 1 := by omega)
          (try have hx5_3_2 : w3.heap.size < w5.heap.size + 1 + 1 := by omega)
          (try have hy5_4_0 : w4.heap.size < w5.heap.size := by omega)
          (try have hy5_4_1 : w4.heap.size + 1 < w5.heap.size := by omega)
          (try have hy5_4_2 : w4.heap.size + 1 + 1 < w5.heap.size := by omega)
          (try have hy5_4_3 : w4.heap.size + 1 + 1 + 1 < w5.heap.size := by omega)
          (try have hy5_4_4 : w4.heap.size + 1 + 1 + 1 + 1 < w5.heap.size := by omega)
          (try have hy5_4_5 : w4.heap.size + 1 + 1 + 1 + 1 + 1 < w5.heap.size := by omega)
          (try have hx5_4_1 : w4.heap.size < w5.heap.size + 1 := by omega)
          (try have hx5_4_2 : w4.heap.size < w5.heap.size + 1 + 1 := by omega)
          clear hb5 hq5
          clear HDR
          cases hr : Agg.removes k
          · have e : Agg.aRest k ⟨tx, ty, tz⟩ ⟨x, y, z⟩ = (Agg.zero, false) := Agg.aRest_none hr
            rw [e] at h7
            have H7 := Lib.hid h7
            obtain ⟨k1, k2, k7, k8⟩ := Agg.removes_not hr
            clear h7 e hr p4
            (try go_wp2_with fail)
            refine (H7.out _).mono ?_
            rintro e w6 ⟨rfl, hb6⟩
            obtain ⟨hc6, hf6⟩ := bcell hb6
            have hq6 := hb6.size
            (try simp at hq6)
            have hB6 : Below w.heap.size w w6 := Below.trans (by go_grown) (hb6.mono (by first | (simp; done) | omega | (simp; omega)))
            have hs6 := hB6.size
            (try have hy6_0_0 : w.heap.size < w6.heap.size := by omega)
            (try have hy6_0_1 : w.heap.size + 1 < w6.heap.size := by omega)
            (try have hy6_0_2 : w.heap.size + 1 + 1 < w6.heap.size := by omega)
            (try have hy6_0_3 : w.heap.size + 1 + 1 + 1 < w6.heap.size := by omega)
            (try have hy6_0_4 : w.heap.size + 1 + 1 + 1 + 1 < w6.heap.size := by omega)
            (try have hy6_0_5 : w.heap.size + 1 + 1 + 1 + 1 + 1 < w6.heap.size := by omega)
            (try have hx6_0_1 : w.heap.size < w6.heap.size + 1 := by omega)
            (try have hx6_0_2 : w.heap.size < w6.heap.size + 1 + 1 := by omega)
            (try have hy6_1_0 : w1.heap.size < w6.heap.size := by omega)
            (try have hy6_1_1 : w1.heap.size + 1 < w6.heap.size := by omega)
            (try have hy6_1_2 : w1.heap.size + 1 + 1 < w6.heap.size := by omega)
            (try have hy6_1_3 : w1.heap.size + 1 + 1 + 1 < w6.heap.size := by omega)
            (try have hy6_1_4 : w1.heap.size + 1 + 1 + 1 + 1 < w6.heap.size := by omega)
            (try have hy6_1_5 : w1.heap.size + 1 + 1 + 1 + 1 + 1 < w6.heap.size := by omega)
            (try have hx6_1_1 : w1.heap.size < w6.heap.size + 1 := by omega)
            (try have hx6_1_2 : w1.heap.size < w6.heap.size + 1 + 1 := by omega)
            (try have hy6_2_0 : w2.heap.size < w6.heap.size := by omega)
            (try have hy6_2_1 : w2.heap.size + 1 < w6.heap.size := by omega)
            (try have hy6_2_2 : w2.heap.size + 1 + 1 < w6.heap.size := by omega)
            (try have hy6_2_3 : w2.heap.size + 1 + 1 + 1 < w6.heap.size := by omega)
            (try have hy6_2_4 : w2.heap.size + 1 + 1 + 1 + 1 < w6.heap.size := by omega)
            (try have hy6_2_5 : w2.heap.size + 1 + 1 + 1 + 1 + 1 < w6.heap.size := by omega)
            (try have hx6_2_1 : w2.heap.size < w6.heap.size + 1 := by omega)
            (try have hx6_2_2 : w2.heap.size < w6.heap.size + 1 + 1 := by omega)
            (try have hy6_3_0 : w3.heap.size < w6.heap.size := by omega)
            (try have hy6_3_1 : w3.heap.size + 1 < w6.heap.size := by omega)
            (try have hy6_3_2 : w3.heap.size + 1 + 1 < w6.heap.size := by omega)
            (try have hy6_3_3 : w3.heap.size + 1 + 1 + 1 < w6.heap.size := by omega)
            (try have hy6_3_4 : w3.heap.size + 1 + 1 + 1 + 1 < w6.heap.size := by omega)
            (try have hy6_3_5 : w3.heap.size + 1 + 1 + 1 + 1 + 1 < w6.heap.size := by omega)
            (try have hx6_3_1 : w3.heap.size < w6.heap.size + 1 := by omega)
            (try have hx6_3_2 : w3.heap.size < w6.heap.size + 1 + 1 := by omega)
            (try have hy6_4_0 : w4.heap.size < w6.heap.size := by omega)
            (try have hy6_4_1 : w4.heap.size + 1 < w6.heap.size := by omega)
            (try have hy6_4_2 : w4.heap.size + 1 + 1 < w6.heap.size := by omega)
            (try have hy6_4_3 : w4.heap.size + 1 + 1 + 1 < w6.heap.size := by omega)
            (try have hy6_4_4 : w4.heap.size + 1 + 1 + 1 + 1 < w6.heap.size := by omega)
            (try have hy6_4_5 : w4.heap.size + 1 + 1 + 1 + 1 + 1 < w6.heap.size := by omega)
            (try have hx6_4_1 : w4.heap.size < w6.heap.size + 1 := by omega)
            (try have hx6_4_2 : w4.heap.size < w6.heap.size + 1 + 1 := by omega)
            (try have hy6_5_0 : w5.heap.size < w6.heap.size := by omega)
            (try have hy6_5_1 : w5.heap.size + 1 < w6.heap.size := by omega)
            (try have hy6_5_2 : w5.heap.size + 1 + 1 < w6.heap.size := by omega)
            (try have hy6_5_3 : w5.heap.size + 1 + 1 + 1 < w6.heap.size := by omega)
            (try have hy6_5_4 : w5.heap.size + 1 + 1 + 1 + 1 < w6.heap.size := by omega)
            (try have hy6_5_5 : w5.heap.size + 1 + 1 + 1 + 1 + 1 < w6.heap.size := by omega)
            (try have hx6_5_1 : w5.heap.size < w6.heap.size + 1 := by omega)
            (try have hx6_5_2 : w5.heap.size < w6.heap.size + 1 + 1 := by omega)
            clear hb6 hq6
            go_wp2_with fail
            go_returns
            exact ⟨ret_bool (by simp [k1, k2, k7, k8]), (by first | (go_grown; done) | (refine below_drewN ?_ _; go_grown; done) | (refine (below_drewN _ ?_); go_grown; done))⟩
          · rw [p4 hr] at h7
            have H7 := Lib.hid h7
            clear h7 hr p4
            (try go_wp2_with fail)
            refine (H7.out _).mono ?_
            rintro e w6 ⟨rfl, hb6⟩
            obtain ⟨hc6, hf6⟩ := bcell hb6
            have hq6 := hb6.size
            (try simp at hq6)
            have hB6 : Below w.heap.size w w6 := Below.trans (by go_grown) (hb6.mono (by first | (simp; done) | omega | (simp; omega)))
            have hs6 := hB6.size
            (try have hy6_0_0 : w.heap.size < w6.heap.size := by omega)
            (try have hy6_0_1 : w.heap.size + 1 < w6.heap.size := by omega)
            (try have hy6_0_2 : w.heap.size + 1 + 1 < w6.heap.size := by omega)
            (try have hy6_0_3 : w.heap.size + 1 + 1 + 1 < w6.heap.size := by omega)
            (try have hy6_0_4 : w.heap.size + 1 + 1 + 1 + 1 < w6.heap.size := by omega)
            (try have hy6_0_5 : w.heap.size + 1 + 1 + 1 + 1 + 1 < w6.heap.size := by omega)
            (try have hx6_0_1 : w.heap.size < w6.heap.size + 1 := by omega)
            (try have hx6_0_2 : w.heap.size < w6.heap.size + 1 + 1 := by omega)
            (try have hy6_1_0 : w1.heap.size < w6.heap.size := by omega)
            (try have hy6_1_1 : w1.heap.size + 1 < w6.heap.size := by omega)
            (try have hy6_1_2 : w1.heap.size + 1 + 1 < w6.heap.size := by omega)
            (try have hy6_1_3 : w1.heap.size + 1 + 1 + 1 < w6.heap.size := by omega)
            (try have hy6_1_4 : w1.heap.size + 1 + 1 + 1 + 1 < w6.heap.size := by omega)
            (try have hy6_1_5 : w1.heap.size + 1 + 1 + 1 + 1 + 1 < w6.heap.size := by omega)
            (try have hx6_1_1 : w1.heap.size < w6.heap.size + 1 := by omega)
            (try have hx6_1_2 : w1.heap.size < w6.heap.size + 1 + 1 := by omega)
            (try have hy6_2_0 : w2.heap.size < w6.heap.size := by omega)
            (try have hy6_2_1 : w2.heap.size + 1 < w6.heap.size := by omega)
            (try have hy6_2_2 : w2.heap.size + 1 + 1 < w6.heap.size := by omega)
            (try have hy6_2_3 : w2.heap.size + 1 + 1 + 1 < w6.heap.size := by omega)
            (try have hy6_2_4 : w2.heap.size + 1 + 1 + 1 + 1 < w6.heap.size := by omega)
            (try have hy6_2_5 : w2.heap.size + 1 + 1 + 1 + 1 + 1 < w6.heap.size := by omega)
            (try have hx6_2_1 : w2.heap.size < w6.heap.size + 1 := by omega)
            (try have hx6_2_2 : w2.heap.size < w6.heap.size + 1 + 1 := by omega)
            (try have hy6_3_0 : w3.heap.size < w6.heap.size := by omega)
            (try have hy6_3_1 : w3.heap.size + 1 < w6.heap.size := by omega)
            (try have hy6_3_2 : w3.heap.size + 1 + 1 < w6.heap.size := by omega)
            (try have hy6_3_3 : w3.heap.size + 1 + 1 + 1 < w6.heap.size := by omega)
            (try have hy6_3_4 : w3.heap.size + 1 + 1 + 1 + 1 < w6.heap.size := by omega)
            (try have hy6_3_5 : w3.heap.size + 1 + 1 + 1 + 1 + 1 < w6.heap.size := by omega)
            (try have hx6_3_1 : w3.heap.size < w6.heap.size + 1 := by omega)
            (try have hx6_3_2 : w3.heap.size < w6.heap.size + 1 + 1 := by omega)
            (try have hy6_4_0 : w4.heap.size < w6.heap.size := by omega)
            (try have hy6_4_1 : w4.heap.size + 1 < w6.heap.size := by omega)
            (try have hy6_4_2 : w4.heap.size + 1 + 1 < w6.heap.size := by omega)
            (try have hy6_4_3 : w4.heap.size + 1 + 1 + 1 < w6.heap.size := by omega)
            (try have hy6_4_4 : w4.heap.size + 1 + 1 + 1 + 1 < w6.heap.size := by omega)
            (try have hy6_4_5 : w4.heap.size + 1 + 1 + 1 + 1 + 1 < w6.heap.size := by omega)
            (try have hx6_4_1 : w4.heap.size < w6.heap.size + 1 := by omega)
            (try have hx6_4_2 : w4.heap.size < w6.heap.size + 1 + 1 := by omega)
            (try have hy6_5_0 : w5.heap.size < w6.heap.size := by omega)
            (try have hy6_5_1 : w5.heap.size + 1 < w6.heap.size := by omega)
            (try have hy6_5_2 : w5.heap.size + 1 + 1 < w6.heap.size := by omega)
            (try have hy6_5_3 : w5.heap.size + 1 + 1 + 1 < w6.heap.size := by omega)
            (try have hy6_5_4 : w5.heap.size + 1 + 1 + 1 + 1 < w6.heap.size := by omega)
            (try have hy6_5_5 : w5.heap.size + 1 + 1 + 1 + 1 + 1 < w6.heap.size := by omega)
            (try have hx6_5_1 : w5.heap.size < w6.heap.size + 1 := by omega)
            (try have hx6_5_2 : w5.heap.size < w6.heap.size + 1 + 1 := by omega)
            clear hb6 hq6
            go_wp2_with fail
            go_returns
            exact ⟨rfl, (by first | (go_grown; done) | (refine below_drewN ?_ _; go_grown; done) | (refine (below_drewN _ ?_); go_grown; done))⟩
    · go_enter Tryz.func7, Tryz.ntmps7
      go_wp2
      go_returns
      exact ⟨rfl, Below.refl _ _⟩
  · go_enter Tryz.func7, Tryz.ntmps7
    go_wp2
    go_returns
    exact ⟨rfl, Below.refl _ _⟩
end Go.Proofs.YtmlkdbmhekiniaaGreat
