/-
  Laws of chapter 1 about a list and its parts, walked: FnCombineValues.
-/
import Derived.Test.YtkiafgppooacdaaDw
import Derived.Test.YtkiafgppooacdaaM
import Derived.Test.YtkiafgppooacdaaN
namespace Go.Proofs.Ytkiafgppooacdaa
set_option linter.unusedSimpArgs false
set_option linter.unusedVariables false
open Go.RowKit
theorem Nums.take {k : IntKind} {w : World} {b off n cap : Nat} {l : List Int} (h : Nums k w (some ⟨b, off, none⟩) n cap l) {i : Nat} (hi : i ≤ n) : Nums k w (some ⟨b, off, none⟩) i cap (l.take i) := by
  obtain ⟨h1, h2, h3, h4⟩ := h
  refine ⟨by simp; omega, by omega, h3, ?_⟩
  rcases h4 with h4 | ⟨b', off', ha, hb, hc⟩
  · exact .inl (by omega)
  · refine .inr ⟨b', off', ha, hb, fun j hj => ?_⟩
    rw [hc j (by omega), List.getElem?_take, if_pos hj]
theorem Nums.drop {k : IntKind} {w : World} {b off n cap : Nat} {l : List Int} (h : Nums k w (some ⟨b, off, none⟩) n cap l) {i : Nat} (hi : i ≤ n) : Nums k w (some ⟨b, off + i, none⟩) (n - i) (cap - i) (l.drop i) := by
  obtain ⟨h1, h2, h3, h4⟩ := h
  refine ⟨by simp; omega, by omega, by omega, ?_⟩
  rcases h4 with h4 | ⟨b', off', ha, hb, hc⟩
  · exact .inl (by omega)
  · simp only [Option.some.injEq, Addr.mk.injEq, and_true] at ha
    obtain ⟨rfl, rfl⟩ := ha
    refine .inr ⟨b, off + i, rfl, hb, fun j hj => ?_⟩
    rw [Nat.add_assoc, hc (i + j) (by omega), List.getElem?_drop]
theorem Nums.nil {k : IntKind} {w : World} {a : Option Addr} {n cap : Nat} {l : List Int} (hl : l.length = n) (hn : n = 0) (hc : cap ≤ maxLen) : Nums k w a n cap l := ⟨hl, by omega, hc, .inl hn⟩
set_option maxRecDepth 20000 in
set_option maxHeartbeats 8000000 in
theorem law_FnCombineValues (a : Option Addr) (n cap : Nat) (zs : List Int) (w : World) (hrow : IsRow .u8 w a n cap zs) :
    Calls Try.prog 3 #[.slice a n cap] w fun e w' => e = .returned (.bool true) ∧ Below w.heap.size w w' := by
  have HB := Lib.hid (Bytes.of_row hrow)
  have hm : cap ≤ 9223372036854775807 := HB.out.2.1
  have hnc : n ≤ cap := HB.out.1
  clear hrow
  by_cases hn : n ≤ 1048576
  · go_enter Try.func3, Try.ntmps3
    go_wp2_with fail
    refine (drawFoldItems_any _ _ _ _ _ HB.out).mono ?_
    rintro e w1 ⟨k, b, m, mc, l, rfl, hN, hm1000, hB1⟩
    have hs1 := hB1.size
    have hml : m ≤ mc := hN.2.1
    have hmc : mc ≤ 9223372036854775807 := by have := hN.2.2.1; unfold maxLen at this; omega
    have hll : l.length = m := hN.1
    have HN := Lib.hid hN; clear hN
    obtain ⟨⟨⟨x, y, z⟩, o⟩, ho⟩ : ∃ p, p = Agg.aFold k l := ⟨_, rfl⟩
    have h1 := fun a n cap w => foldItems_any k a n cap l w
    have h2 := fun a n cap w => s_foldItems_any k a n cap l w
    rw [← ho] at h1 h2
    have H1 := Lib.hid h1
    have H2 := Lib.hid h2
    have HO := Lib.hid ho.symm
    clear h1 h2 ho
    (try go_wp2_with fail)
    refine (H1.out _ _ _ _ HN.out).mono ?_
    rintro e w2 ⟨rfl, hb2⟩
    obtain ⟨hc2, hf2⟩ := bcell hb2
    have hq2 := hb2.size
    (try simp at hq2)
    have hB2 : Below w.heap.size w w2 := Below.trans (by go_grown) (hb2.mono (by first | (simp; done) | omega | (simp; omega)))
    have hs2 := hB2.size
    (try have hy2_0_0 : w.heap.size < w2.heap.size := by omega)
    (try have hy2_0_1 : w.heap.size + 1 < w2.heap.size := by omega)
    (try have hy2_0_2 : w.heap.size + 1 + 1 < w2.heap.size := by omega)
    (try have hy2_0_3 : w.heap.size + 1 + 1 + 1 < w2.heap.size := by omega)
    (try have hy2_0_4 : w.heap.size + 1 + 1 + 1 + 1 < w2.heap.size := by omega)
    (try have hy2_0_5 : w.heap.size + 1 + 1 + 1 + 1 + 1 < w2.heap.size := by omega)
    (try have hx2_0_1 : w.heap.size < w2.heap.size + 1 := by omega)
    (try have hx2_0_2 : w.heap.size < w2.heap.size + 1 + 1 := by omega)
    (try have hy2_1_0 : w1.heap.size < w2.heap.size := by omega)
    (try have hy2_1_1 : w1.heap.size + 1 < w2.heap.size := by omega)
    (try have hy2_1_2 : w1.heap.size + 1 + 1 < w2.heap.size := by omega)
    (try have hy2_1_3 : w1.heap.size + 1 + 1 + 1 < w2.heap.size := by omega)
    (try have hy2_1_4 : w1.heap.size + 1 + 1 + 1 + 1 < w2.heap.size := by omega)
    (try have hy2_1_5 : w1.heap.size + 1 + 1 + 1 + 1 + 1 < w2.heap.size := by omega)
    (try have hx2_1_1 : w1.heap.size < w2.heap.size + 1 := by omega)
    (try have hx2_1_2 : w1.heap.size < w2.heap.size + 1 + 1 := by omega)
    have HN2 := Lib.hid (HN.out.below hb2)
    clear hb2 hq2
    (try go_wp2_with fail)
    refine (H2.out _ _ _ _ (HN2.out.below (by go_grown))).mono ?_
    rintro e w3 ⟨rfl, hb3⟩
    obtain ⟨hc3, hf3⟩ := bcell hb3
    have hq3 := hb3.size
    (try simp at hq3)
    have hB3 : Below w.heap.size w w3 := Below.trans (by go_grown) (hb3.mono (by first | (simp; done) | omega | (simp; omega)))
    have hs3 := hB3.size
    (try have hy3_0_0 : w.heap.size < w3.heap.size := by omega)
    (try have hy3_0_1 : w.heap.size + 1 < w3.heap.size := by omega)
    (try have hy3_0_2 : w.heap.size + 1 + 1 < w3.heap.size := by omega)
    (try have hy3_0_3 : w.heap.size + 1 + 1 + 1 < w3.heap.size := by omega)
    (try have hy3_0_4 : w.heap.size + 1 + 1 + 1 + 1 < w3.heap.size := by omega)
    (try have hy3_0_5 : w.heap.size + 1 + 1 + 1 + 1 + 1 < w3.heap.size := by omega)
    (try have hx3_0_1 : w.heap.size < w3.heap.size + 1 := by omega)
    (try have hx3_0_2 : w.heap.size < w3.heap.size + 1 + 1 := by omega)
    (try have hy3_1_0 : w1.heap.size < w3.heap.size := by omega)
    (try have hy3_1_1 : w1.heap.size + 1 < w3.heap.size := by omega)
    (try have hy3_1_2 : w1.heap.size + 1 + 1 < w3.heap.size := by omega)
    (try have hy3_1_3 : w1.heap.size + 1 + 1 + 1 < w3.heap.size := by omega)
    (try have hy3_1_4 : w1.heap.size + 1 + 1 + 1 + 1 < w3.heap.size := by omega)
    (try have hy3_1_5 : w1.heap.size + 1 + 1 + 1 + 1 + 1 < w3.heap.size := by omega)
    (try have hx3_1_1 : w1.heap.size < w3.heap.size + 1 := by omega)
    (try have hx3_1_2 : w1.heap.size < w3.heap.size + 1 + 1 := by omega)
    (try have hy3_2_0 : w2.heap.size < w3.heap.size := by omega)
    (try have hy3_2_1 : w2.heap.size + 1 < w3.heap.size := by omega)
    (try have hy3_2_2 : w2.heap.size + 1 + 1 < w3.heap.size := by omega)
    (try have hy3_2_3 : w2.heap.size + 1 + 1 + 1 < w3.heap.size := by omega)
    (try have hy3_2_4 : w2.heap.size + 1 + 1 + 1 + 1 < w3.heap.size := by omega)
    (try have hy3_2_5 : w2.heap.size + 1 + 1 + 1 + 1 + 1 < w3.heap.size := by omega)
    (try have hx3_2_1 : w2.heap.size < w3.heap.size + 1 := by omega)
    (try have hx3_2_2 : w2.heap.size < w3.heap.size + 1 + 1 := by omega)
    have HX := Lib.hid (Box.below (Box.new w2 27 x y z) hb3 (by simp))
    have HN3 := Lib.hid ((HN2.out.below (by go_grown)).below hb3)
    clear hb3 hq3
    clear H1 H2 HN HN2
    cases o
    · clear HX
      go_wp2_with fail
      go_returns
      exact ⟨rfl, (by first | (go_grown; done) | (refine below_drewN ?_ _; go_grown; done) | (refine (below_drewN _ ?_); go_grown; done))⟩
    · have HX4 := Lib.hid (HX.out.below ((Below.refl w3.heap.size w3).alloc (Nat.le_refl _) (.cells #[.int .i64 x, .int .i64 y, .int .i64 z] 27)) HX.out.lt)
      have HN4 := Lib.hid (HN3.out.below ((Below.refl w3.heap.size w3).alloc (Nat.le_refl _) (.cells #[.int .i64 x, .int .i64 y, .int .i64 z] 27)))
      have HW4 := Lib.hid (hB3.alloc hs3 (.cells #[.int .i64 x, .int .i64 y, .int .i64 z] 27))
      clear HX HN3
      go_wp2_with fail
      go_loopw [9] (fun i wr => ∃ kk : Nat, kk ≤ m + 1 ∧ i = .int .i64 kk ∧ Hid (Box wr w2.heap.size 27 x y z) ∧ Hid (Nums .i64 wr (some ⟨b, 0, none⟩) m mc l) ∧ Hid (Below w.heap.size w wr)) (fun i _ => m + 1 - (intOf i).toNat)
      case atStart => exact ⟨0, Nat.zero_le _, rfl, HX4, HN4, HW4⟩
      case round =>
        obtain ⟨kk, hk, rfl, HX, HN, HW⟩ := hrel
        clear HX4 HN4 HW4
        have hwr := HW.out.size
        have hk0 : (0 : Int) ≤ (kk : Int) := Int.natCast_nonneg _
        by_cases hlt : kk ≤ m
        · obtain ⟨p1, p2, p3⟩ := Agg.aFold_parts HO.out kk
          obtain ⟨⟨tx, ty, tz⟩, hT⟩ : ∃ V, V = Agg.fold k (l.take kk) := ⟨_, rfl⟩
          obtain ⟨⟨dx, dy, dz⟩, hD⟩ : ∃ V, V = Agg.fold k (l.drop kk) := ⟨_, rfl⟩
          rw [← hT] at p1 p3
          rw [← hD] at p2 p3
          have h5 := fun a n cap w => foldItems_any k a n cap (l.take kk) w
          have h6 := fun a n cap w => foldItems_any k a n cap (l.drop kk) w
          have h7 := fun w => combineValues_any k tx ty tz dx dy dz w
          rw [p1] at h5
          rw [p2] at h6
          rw [p3] at h7
          have H5 := Lib.hid h5
          have H6 := Lib.hid h6
          have H7 := Lib.hid h7
          clear h5 h6 h7 p1 p2 p3 hT hD
          have hkm : (kk : Int) ≤ (m : Int) := by omega
          have hkmc : (kk : Int) ≤ (mc : Int) := by omega
          (try go_wp2_with fail)
          refine (H5.out _ _ _ _ (HN.out.take (by omega))).mono ?_
          rintro e wa ⟨rfl, hba⟩
          obtain ⟨hca, hfa⟩ := bcell hba
          have hqa := hba.size
          (try simp at hqa)
          have hBa : Below wr.heap.size wr wa := Below.trans (by go_grown) (hba.mono (by first | (simp; done) | omega | (simp; omega)))
          have hsa := hBa.size
          (try have hya_wr_0 : wr.heap.size < wa.heap.size := by omega)
          (try have hya_wr_1 : wr.heap.size + 1 < wa.heap.size := by omega)
          (try have hya_wr_2 : wr.heap.size + 1 + 1 < wa.heap.size := by omega)
          (try have hya_wr_3 : wr.heap.size + 1 + 1 + 1 < wa.heap.size := by omega)
          (try have hya_wr_4 : wr.heap.size + 1 + 1 + 1 + 1 < wa.heap.size := by omega)
          (try have hya_wr_5 : wr.heap.size + 1 + 1 + 1 + 1 + 1 < wa.heap.size := by omega)
          have HNa := Lib.hid (HN.out.below hba)
          clear hba hqa
          rcases (show kk < mc ∨ kk = mc by omega) with hcc | hcc
          · have hc2 : (kk : Int) < (mc : Int) := by omega
            have hc3 : ¬ (mc - kk = 0) := by omega
            have hc4 : ¬ (mc = kk) := by omega
            go_wp2_with fail
            have HDR := Lib.hid (Nums.drop (i := kk) (HNa.out.below ((Below.refl wa.heap.size wa).alloc (Nat.le_refl _) (.cells #[.int .i64 tx, .int .i64 ty, .int .i64 tz] 27))) (by omega))
            (try go_wp2_with fail)
            refine (H6.out _ _ _ _ (by simpa using HDR.out)).mono ?_
            rintro e wb ⟨rfl, hbb⟩
            obtain ⟨hcb, hfb⟩ := bcell hbb
            have hqb := hbb.size
            (try simp at hqb)
            have hBb : Below wr.heap.size wr wb := Below.trans (by go_grown) (hbb.mono (by first | (simp; done) | omega | (simp; omega)))
            have hsb := hBb.size
            (try have hyb_wr_0 : wr.heap.size < wb.heap.size := by omega)
            (try have hyb_wr_1 : wr.heap.size + 1 < wb.heap.size := by omega)
            (try have hyb_wr_2 : wr.heap.size + 1 + 1 < wb.heap.size := by omega)
            (try have hyb_wr_3 : wr.heap.size + 1 + 1 + 1 < wb.heap.size := by omega)
            (try have hyb_wr_4 : wr.heap.size + 1 + 1 + 1 + 1 < wb.heap.size := by omega)
            (try have hyb_wr_5 : wr.heap.size + 1 + 1 + 1 + 1 + 1 < wb.heap.size := by omega)
            (try have hyb_wa_0 : wa.heap.size < wb.heap.size := by omega)
            (try have hyb_wa_1 : wa.heap.size + 1 < wb.heap.size := by omega)
            (try have hyb_wa_2 : wa.heap.size + 1 + 1 < wb.heap.size := by omega)
            (try have hyb_wa_3 : wa.heap.size + 1 + 1 + 1 < wb.heap.size := by omega)
            (try have hyb_wa_4 : wa.heap.size + 1 + 1 + 1 + 1 < wb.heap.size := by omega)
            (try have hyb_wa_5 : wa.heap.size + 1 + 1 + 1 + 1 + 1 < wb.heap.size := by omega)
            have HNb := Lib.hid ((HNa.out.below ((Below.refl wa.heap.size wa).alloc (Nat.le_refl _) (.cells #[.int .i64 tx, .int .i64 ty, .int .i64 tz] 27))).below hbb)
            clear hbb hqb
            clear HDR
            (try go_wp2_with fail)
            refine (H7.out _).mono ?_
            rintro e wc ⟨rfl, hbc⟩
            obtain ⟨hcc, hfc⟩ := bcell hbc
            have hqc := hbc.size
            (try simp at hqc)
            have hBc : Below wr.heap.size wr wc := Below.trans (by go_grown) (hbc.mono (by first | (simp; done) | omega | (simp; omega)))
            have hsc := hBc.size
            (try have hyc_wr_0 : wr.heap.size < wc.heap.size := by omega)
            (try have hyc_wr_1 : wr.heap.size + 1 < wc.heap.size := by omega)
            (try have hyc_wr_2 : wr.heap.size + 1 + 1 < wc.heap.size := by omega)
            (try have hyc_wr_3 : wr.heap.size + 1 + 1 + 1 < wc.heap.size := by omega)
            (try have hyc_wr_4 : wr.heap.size + 1 + 1 + 1 + 1 < wc.heap.size := by omega)
            (try have hyc_wr_5 : wr.heap.size + 1 + 1 + 1 + 1 + 1 < wc.heap.size := by omega)
            (try have hyc_wa_0 : wa.heap.size < wc.heap.size := by omega)
            (try have hyc_wa_1 : wa.heap.size + 1 < wc.heap.size := by omega)
            (try have hyc_wa_2 : wa.heap.size + 1 + 1 < wc.heap.size := by omega)
            (try have hyc_wa_3 : wa.heap.size + 1 + 1 + 1 < wc.heap.size := by omega)
            (try have hyc_wa_4 : wa.heap.size + 1 + 1 + 1 + 1 < wc.heap.size := by omega)
            (try have hyc_wa_5 : wa.heap.size + 1 + 1 + 1 + 1 + 1 < wc.heap.size := by omega)
            (try have hyc_wb_0 : wb.heap.size < wc.heap.size := by omega)
            (try have hyc_wb_1 : wb.heap.size + 1 < wc.heap.size := by omega)
            (try have hyc_wb_2 : wb.heap.size + 1 + 1 < wc.heap.size := by omega)
            (try have hyc_wb_3 : wb.heap.size + 1 + 1 + 1 < wc.heap.size := by omega)
            (try have hyc_wb_4 : wb.heap.size + 1 + 1 + 1 + 1 < wc.heap.size := by omega)
            (try have hyc_wb_5 : wb.heap.size + 1 + 1 + 1 + 1 + 1 < wc.heap.size := by omega)
            have HNc := Lib.hid ((HNb.out.below ((Below.refl wb.heap.size wb).alloc (Nat.le_refl _) (.cells #[.int .i64 dx, .int .i64 dy, .int .i64 dz] 27))).below hbc)
            clear hbc hqc
            have HXc := Lib.hid (HX.out.below hBc HX.out.lt)
            obtain ⟨q0, q1, q2⟩ := HXc.out.cells
            have hltc := HXc.out.lt
            have HXn := Lib.hid (HXc.out.below ((Below.refl wc.heap.size wc).alloc (Nat.le_refl _) (.cells #[.int .i64 x, .int .i64 y, .int .i64 z] 27)) HXc.out.lt)
            have HNn := Lib.hid (HNc.out.below ((Below.refl wc.heap.size wc).alloc (Nat.le_refl _) (.cells #[.int .i64 x, .int .i64 y, .int .i64 z] 27)))
            have HWn := Lib.hid ((HW.out.trans (hBc.mono hwr)).alloc (by omega) (.cells #[.int .i64 x, .int .i64 y, .int .i64 z] 27))
            go_wp2_with fail
            go_roundw
            case rel => exact ⟨kk + 1, by omega, by go_num, HXn, HNn, HWn⟩
            case measure => simp [intOf]; omega
          · subst hcc
            go_wp2_with fail
            skip
            (try go_wp2_with fail)
            refine (H6.out _ _ _ _ (Nums.nil (by simp; omega) (by omega) (by first | (simp [maxLen]; done) | (unfold maxLen; omega)))).mono ?_
            rintro e wb ⟨rfl, hbb⟩
            obtain ⟨hcb, hfb⟩ := bcell hbb
            have hqb := hbb.size
            (try simp at hqb)
            have hBb : Below wr.heap.size wr wb := Below.trans (by go_grown) (hbb.mono (by first | (simp; done) | omega | (simp; omega)))
            have hsb := hBb.size
            (try have hyb_wr_0 : wr.heap.size < wb.heap.size := by omega)
            (try have hyb_wr_1 : wr.heap.size + 1 < wb.heap.size := by omega)
            (try have hyb_wr_2 : wr.heap.size + 1 + 1 < wb.heap.size := by omega)
            (try have hyb_wr_3 : wr.heap.size + 1 + 1 + 1 < wb.heap.size := by omega)
            (try have hyb_wr_4 : wr.heap.size + 1 + 1 + 1 + 1 < wb.heap.size := by omega)
            (try have hyb_wr_5 : wr.heap.size + 1 + 1 + 1 + 1 + 1 < wb.heap.size := by omega)
            (try have hyb_wa_0 : wa.heap.size < wb.heap.size := by omega)
            (try have hyb_wa_1 : wa.heap.size + 1 < wb.heap.size := by omega)
            (try have hyb_wa_2 : wa.heap.size + 1 + 1 < wb.heap.size := by omega)
            (try have hyb_wa_3 : wa.heap.size + 1 + 1 + 1 < wb.heap.size := by omega)
            (try have hyb_wa_4 : wa.heap.size + 1 + 1 + 1 + 1 < wb.heap.size := by omega)
            (try have hyb_wa_5 : wa.heap.size + 1 + 1 + 1 + 1 + 1 < wb.heap.size := by omega)
            have HNb := Lib.hid ((HNa.out.below ((Below.refl wa.heap.size wa).alloc (Nat.le_refl _) (.cells #[.int .i64 tx, .int .i64 ty, .int .i64 tz] 27))).below hbb)
            clear hbb hqb
            (try go_wp2_with fail)
            refine (H7.out _).mono ?_
            rintro e wc ⟨rfl, hbc⟩
            obtain ⟨hcc, hfc⟩ := bcell hbc
            have hqc := hbc.size
            (try simp at hqc)
            have hBc : Below wr.heap.size wr wc := Below.trans (by go_grown) (hbc.mono (by first | (simp; done) | omega | (simp; omega)))
            have hsc := hBc.size
            (try have hyc_wr_0 : wr.heap.size < wc.heap.size := by omega)
            (try have hyc_wr_1 : wr.heap.size + 1 < wc.heap.size := by omega)
            (try have hyc_wr_2 : wr.heap.size + 1 + 1 < wc.heap.size := by omega)
            (try have hyc_wr_3 : wr.heap.size + 1 + 1 + 1 < wc.heap.size := by omega)
            (try have hyc_wr_4 : wr.heap.size + 1 + 1 + 1 + 1 < wc.heap.size := by omega)
            (try have hyc_wr_5 : wr.heap.size + 1 + 1 + 1 + 1 + 1 < wc.heap.size := by omega)
            (try have hyc_wa_0 : wa.heap.size < wc.heap.size := by omega)
            (try have hyc_wa_1 : wa.heap.size + 1 < wc.heap.size := by omega)
            (try have hyc_wa_2 : wa.heap.size + 1 + 1 < wc.heap.size := by omega)
            (try have hyc_wa_3 : wa.heap.size + 1 + 1 + 1 < wc.heap.size := by omega)
            (try have hyc_wa_4 : wa.heap.size + 1 + 1 + 1 + 1 < wc.heap.size := by omega)
            (try have hyc_wa_5 : wa.heap.size + 1 + 1 + 1 + 1 + 1 < wc.heap.size := by omega)
            (try have hyc_wb_0 : wb.heap.size < wc.heap.size := by omega)
            (try have hyc_wb_1 : wb.heap.size + 1 < wc.heap.size := by omega)
            (try have hyc_wb_2 : wb.heap.size + 1 + 1 < wc.heap.size := by omega)
            (try have hyc_wb_3 : wb.heap.size + 1 + 1 + 1 < wc.heap.size := by omega)
            (try have hyc_wb_4 : wb.heap.size + 1 + 1 + 1 + 1 < wc.heap.size := by omega)
            (try have hyc_wb_5 : wb.heap.size + 1 + 1 + 1 + 1 + 1 < wc.heap.size := by omega)
            have HNc := Lib.hid ((HNb.out.below ((Below.refl wb.heap.size wb).alloc (Nat.le_refl _) (.cells #[.int .i64 dx, .int .i64 dy, .int .i64 dz] 27))).below hbc)
            clear hbc hqc
            have HXc := Lib.hid (HX.out.below hBc HX.out.lt)
            obtain ⟨q0, q1, q2⟩ := HXc.out.cells
            have hltc := HXc.out.lt
            have HXn := Lib.hid (HXc.out.below ((Below.refl wc.heap.size wc).alloc (Nat.le_refl _) (.cells #[.int .i64 x, .int .i64 y, .int .i64 z] 27)) HXc.out.lt)
            have HNn := Lib.hid (HNc.out.below ((Below.refl wc.heap.size wc).alloc (Nat.le_refl _) (.cells #[.int .i64 x, .int .i64 y, .int .i64 z] 27)))
            have HWn := Lib.hid ((HW.out.trans (hBc.mono hwr)).alloc (by omega) (.cells #[.int .i64 x, .int .i64 y, .int .i64 z] 27))
            go_wp2_with fail
            go_roundw
            case rel => exact ⟨kk + 1, by omega, by go_num, HXn, HNn, HWn⟩
            case measure => simp [intOf]; omega
        · have hv := Agg.aFold_valid HO.out
          have h8 := fun w => valueValid_any k x y z w
          rw [hv] at h8
          have H8 := Lib.hid h8
          clear h8 hv
          obtain ⟨q0, q1, q2⟩ := HX.out.cells
          have hlt' : ¬ ((kk : Int) ≤ (m : Int)) := by omega
          go_wp2_with fail
          refine (H8.out _).mono ?_
          rintro e wa ⟨rfl, hba⟩
          have HWa := Lib.hid (HW.out.trans (hba.mono hwr))
          clear hba
          go_wp2_with fail
          go_returns
          exact ⟨rfl, HWa.out⟩
  · go_enter Try.func3, Try.ntmps3
    go_wp2
    go_returns
    exact ⟨rfl, Below.refl _ _⟩
end Go.Proofs.Ytkiafgppooacdaa
