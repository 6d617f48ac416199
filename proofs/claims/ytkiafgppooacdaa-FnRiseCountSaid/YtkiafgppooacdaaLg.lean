/-
  The law that rises are counted, walked.
-/
import Derived.Test.YtkiafgppooacdaaLd
namespace Go.Proofs.Ytkiafgppooacdaa
set_option linter.unusedSimpArgs false
set_option linter.unusedVariables false
open Go.RowKit
theorem Agg.aLow_rise {l : List Int} {v : Agg.V} (h : Agg.aFold 9 l = (v, true)) (hn : l ≠ []) : v = ⟨l[0]?.getD 0, l[l.length - 1]?.getD 0, 1 + Agg.rises l (l.length - 1)⟩ ∧ Agg.aLow 9 v = (Agg.rises l (l.length - 1), true) := by
  obtain ⟨hk, hi, rfl⟩ := Agg.aFold_true h
  have e := Agg.rise_all l hi hn
  refine ⟨e, ?_⟩
  rw [Agg.aLow_of hk (Agg.ok_fold_all hk hi), e]
  have := Agg.rises_bounds l (l.length - 1)
  have h1 : (1 : Int) + Agg.rises l (l.length - 1) ≠ 0 := by omega
  simp [Agg.low, h1]
  omega
set_option maxRecDepth 20000 in
set_option maxHeartbeats 8000000 in
theorem law_FnRiseCount (a : Option Addr) (n cap : Nat) (zs : List Int) (w : World) (hrow : IsRow .u8 w a n cap zs) :
    Calls Try.prog 12 #[.slice a n cap] w fun e w' => e = .returned (.bool true) ∧ Below w.heap.size w w' := by
  have HB := Lib.hid (Bytes.of_row hrow)
  have hm : cap ≤ 9223372036854775807 := HB.out.2.1
  have hnc : n ≤ cap := HB.out.1
  clear hrow
  by_cases hn : n ≤ 1048576
  · go_enter Try.func12, Try.ntmps12
    go_wp2_with fail
    refine (drawFoldItems_any _ _ _ _ _ HB.out).mono ?_
    rintro e w1 ⟨k, b, m, mc, l, rfl, hN, hm1000, hB1⟩
    have hs1 := hB1.size
    have hml : m ≤ mc := hN.2.1
    have hmc : mc ≤ 9223372036854775807 := by have := hN.2.2.1; unfold maxLen at this; omega
    have hll : l.length = m := hN.1
    have HN := Lib.hid hN; clear hN
    obtain ⟨⟨⟨x, y, z⟩, o⟩, ho⟩ : ∃ p, p = Agg.aFold 9 l := ⟨_, rfl⟩
    have h1 := fun a n cap w => foldItems_any 9 a n cap l w
    have h2 := fun a n cap w => s_foldItems_any 9 a n cap l w
    rw [← ho] at h1 h2
    have H1 := Lib.hid h1
    have H2 := Lib.hid h2
    have HO := Lib.hid ho.symm
    clear h1 h2 ho
    (try go_wp2_with fail)
    refine (H1.out _ _ _ _ HN.out).mono ?_
    rintro e w2 ⟨rfl, hb2⟩
    obtain ⟨hc2, hf2⟩ := bcell hb2
    have hq2 := hb2.size
    (try simp at hq2)
    have hB2 : Below w.heap.size w w2 := Below.trans (by go_grown) (hb2.mono (by first | (simp; done) | omega | (simp; omega)))
    have hs2 := hB2.size
    (try have hy2_0_0 : w.heap.size < w2.heap.size := by omega)
    (try have hy2_0_1 : w.heap.size + 1 < w2.heap.size := by omega)
    (try have hy2_0_2 : w.heap.size + 1 + 1 < w2.heap.size := by omega)
    (try have hy2_0_3 : w.heap.size + 1 + 1 + 1 < w2.heap.size := by omega)
    (try have hy2_0_4 : w.heap.size + 1 + 1 + 1 + 1 < w2.heap.size := by omega)
    (try have hy2_0_5 : w.heap.size + 1 + 1 + 1 + 1 + 1 < w2.heap.size := by omega)
    (try have hx2_0_1 : w.heap.size < w2.heap.size + 1 := by omega)
    (try have hx2_0_2 : w.heap.size < w2.heap.size + 1 + 1 := by omega)
    (try have hy2_1_0 : w1.heap.size < w2.heap.size := by omega)
    (try have hy2_1_1 : w1.heap.size + 1 < w2.heap.size := by omega)
    (try have hy2_1_2 : w1.heap.size + 1 + 1 < w2.heap.size := by omega)
    (try have hy2_1_3 : w1.heap.size + 1 + 1 + 1 < w2.heap.size := by omega)
    (try have hy2_1_4 : w1.heap.size + 1 + 1 + 1 + 1 < w2.heap.size := by omega)
    (try have hy2_1_5 : w1.heap.size + 1 + 1 + 1 + 1 + 1 < w2.heap.size := by omega)
    (try have hx2_1_1 : w1.heap.size < w2.heap.size + 1 := by omega)
    (try have hx2_1_2 : w1.heap.size < w2.heap.size + 1 + 1 := by omega)
    have HN2 := Lib.hid (HN.out.below hb2)
    clear hb2 hq2
    (try go_wp2_with fail)
    refine (H2.out _ _ _ _ (HN2.out.below (by go_grown))).mono ?_
    rintro e w3 ⟨rfl, hb3⟩
    obtain ⟨hc3, hf3⟩ := bcell hb3
    have hq3 := hb3.size
    (try simp at hq3)
    have hB3 : Below w.heap.size w w3 := Below.trans (by go_grown) (hb3.mono (by first | (simp; done) | omega | (simp; omega)))
    have hs3 := hB3.size
    (try have hy3_0_0 : w.heap.size < w3.heap.size := by omega)
    (try have hy3_0_1 : w.heap.size + 1 < w3.heap.size := by omega)
    (try have hy3_0_2 : w.heap.size + 1 + 1 < w3.heap.size := by omega)
    (try have hy3_0_3 : w.heap.size + 1 + 1 + 1 < w3.heap.size := by omega)
    (try have hy3_0_4 : w.heap.size + 1 + 1 + 1 + 1 < w3.heap.size := by omega)
    (try have hy3_0_5 : w.heap.size + 1 + 1 + 1 + 1 + 1 < w3.heap.size := by omega)
    (try have hx3_0_1 : w.heap.size < w3.heap.size + 1 := by omega)
    (try have hx3_0_2 : w.heap.size < w3.heap.size + 1 + 1 := by omega)
    (try have hy3_1_0 : w1.heap.size < w3.heap.size := by omega)
    (try have hy3_1_1 : w1.heap.size + 1 < w3.heap.size := by omega)
    (try have hy3_1_2 : w1.heap.size + 1 + 1 < w3.heap.size := by omega)
    (try have hy3_1_3 : w1.heap.size + 1 + 1 + 1 < w3.heap.size := by omega)
    (try have hy3_1_4 : w1.heap.size + 1 + 1 + 1 + 1 < w3.heap.size := by omega)
    (try have hy3_1_5 : w1.heap.size + 1 + 1 + 1 + 1 + 1 < w3.heap.size := by omega)
    (try have hx3_1_1 : w1.heap.size < w3.heap.size + 1 := by omega)
    (try have hx3_1_2 : w1.heap.size < w3.heap.size + 1 + 1 := by omega)
    (try have hy3_2_0 : w2.heap.size < w3.heap.size := by omega)
    (try have hy3_2_1 : w2.heap.size + 1 < w3.heap.size := by omega)
    (try have hy3_2_2 : w2.heap.size + 1 + 1 < w3.heap.size := by omega)
    (try have hy3_2_3 : w2.heap.size + 1 + 1 + 1 < w3.heap.size := by omega)
    (try have hy3_2_4 : w2.heap.size + 1 + 1 + 1 + 1 < w3.heap.size := by omega)
    (try have hy3_2_5 : w2.heap.size + 1 + 1 + 1 + 1 + 1 < w3.heap.size := by omega)
    (try have hx3_2_1 : w2.heap.size < w3.heap.size + 1 := by omega)
    (try have hx3_2_2 : w2.heap.size < w3.heap.size + 1 + 1 := by omega)
    have HX := Lib.hid (Box.below (Box.new w2 27 x y z) hb3 (by simp))
    have HN3 := Lib.hid ((HN2.out.below (by go_grown)).below hb3)
    clear hb3 hq3
    clear H1 H2 HN HN2
    cases o
    · go_wp2_with fail
      go_returns
      exact ⟨rfl, (by first | (go_grown; done) | (refine below_drewN ?_ _; go_grown; done) | (refine (below_drewN _ ?_); go_grown; done))⟩
    · by_cases hm0 : m = 0
      · subst hm0
        go_wp2_with fail
        go_returns
        exact ⟨rfl, (by first | (go_grown; done) | (refine below_drewN ?_ _; go_grown; done) | (refine (below_drewN _ ?_); go_grown; done))⟩
      · obtain ⟨hv, hlow⟩ := Agg.aLow_rise HO.out (by intro e; subst e; simp at hll; omega)
        have h5 := fun w => lowerValue_any 9 x y z w
        rw [hlow] at h5
        have H5 := Lib.hid h5
        clear h5 hlow
        have HX3 := Lib.hid (HX.out.below ((Below.refl w3.heap.size w3).alloc (Nat.le_refl _) (.cells #[.int .i64 x, .int .i64 y, .int .i64 z] 27)) HX.out.lt)
        have HN3' := Lib.hid (HN3.out.below ((Below.refl w3.heap.size w3).alloc (Nat.le_refl _) (.cells #[.int .i64 x, .int .i64 y, .int .i64 z] 27)))
        have hm00 : ¬ ((m : Int) = 0) := by omega
        (try go_wp2_with fail)
        refine (H5.out _).mono ?_
        rintro e w4 ⟨rfl, hb4⟩
        obtain ⟨hc4, hf4⟩ := bcell hb4
        have hq4 := hb4.size
        (try simp at hq4)
        have hB4 : Below w.heap.size w w4 := Below.trans (by go_grown) (hb4.mono (by first | (simp; done) | omega | (simp; omega)))
        have hs4 := hB4.size
        (try have hy4_0_0 : w.heap.size < w4.heap.size := by omega)
        (try have hy4_0_1 : w.heap.size + 1 < w4.heap.size := by omega)
        (try have hy4_0_2 : w.heap.size + 1 + 1 < w4.heap.size := by omega)
        (try have hy4_0_3 : w.heap.size + 1 + 1 + 1 < w4.heap.size := by omega)
        (try have hy4_0_4 : w.heap.size + 1 + 1 + 1 + 1 < w4.heap.size := by omega)
        (try have hy4_0_5 : w.heap.size + 1 + 1 + 1 + 1 + 1 < w4.heap.size := by omega)
        (try have hx4_0_1 : w.heap.size < w4.heap.size + 1 := by omega)
        (try have hx4_0_2 : w.heap.size < w4.heap.size + 1 + 1 := by omega)
        (try have hy4_1_0 : w1.heap.size < w4.heap.size := by omega)
        (try have hy4_1_1 : w1.heap.size + 1 < w4.heap.size := by omega)
        (try have hy4_1_2 : w1.heap.size + 1 + 1 < w4.heap.size := by omega)
        (try have hy4_1_3 : w1.heap.size + 1 + 1 + 1 < w4.heap.size := by omega)
        (try have hy4_1_4 : w1.heap.size + 1 + 1 + 1 + 1 < w4.heap.size := by omega)
        (try have hy4_1_5 : w1.heap.size + 1 + 1 + 1 + 1 + 1 < w4.heap.size := by omega)
        (try have hx4_1_1 : w1.heap.size < w4.heap.size + 1 := by omega)
        (try have hx4_1_2 : w1.heap.size < w4.heap.size + 1 + 1 := by omega)
        (try have hy4_2_0 : w2.heap.size < w4.heap.size := by omega)
        (try have hy4_2_1 : w2.heap.size + 1 < w4.heap.size := by omega)
        (try have hy4_2_2 : w2.heap.size + 1 + 1 < w4.heap.size := by omega)
        (try have hy4_2_3 : w2.heap.size + 1 + 1 + 1 < w4.heap.size := by omega)
        (try have hy4_2_4 : w2.heap.size + 1 + 1 + 1 + 1 < w4.heap.size := by omega)
        (try have hy4_2_5 : w2.heap.size + 1 + 1 + 1 + 1 + 1 < w4.heap.size := by omega)
        (try have hx4_2_1 : w2.heap.size < w4.heap.size + 1 := by omega)
        (try have hx4_2_2 : w2.heap.size < w4.heap.size + 1 + 1 := by omega)
        (try have hy4_3_0 : w3.heap.size < w4.heap.size := by omega)
        (try have hy4_3_1 : w3.heap.size + 1 < w4.heap.size := by omega)
        (try have hy4_3_2 : w3.heap.size + 1 + 1 < w4.heap.size := by omega)
        (try have hy4_3_3 : w3.heap.size + 1 + 1 + 1 < w4.heap.size := by omega)
        (try have hy4_3_4 : w3.heap.size + 1 + 1 + 1 + 1 < w4.heap.size := by omega)
        (try have hy4_3_5 : w3.heap.size + 1 + 1 + 1 + 1 + 1 < w4.heap.size := by omega)
        (try have hx4_3_1 : w3.heap.size < w4.heap.size + 1 := by omega)
        (try have hx4_3_2 : w3.heap.size < w4.heap.size + 1 + 1 := by omega)
        have HX4 := Lib.hid (HX3.out.below hb4 HX3.out.lt)
        have HN4 := Lib.hid (HN3'.out.below hb4)
        clear hb4 hq4
        clear HX HN3 HX3 HN3' H5
        clear hc2 hc3 hc4 hf2 hf3 hf4
        go_wp2_with fail
        go_loopw [11, 12] (fun ci i wr => ∃ j : Nat, j < m ∧ i = .int .i64 ((j : Int) + 1) ∧ ci = .int .i64 (Agg.rises l j) ∧ Hid (Below w4.heap.size w4 wr)) (fun _ i _ => m - (intOf i).toNat)
        case atStart => exact ⟨0, by omega, by go_num, rfl, Below.refl _ _⟩
        case round =>
          obtain ⟨j, hj, rfl, rfl, HW⟩ := hrel
          have hrb := Agg.rises_bounds l j
          have hN := HN4.out.below HW.out
          rcases hN.2.2.2 with h0 | ⟨b', off, hbo, hbw, hcs⟩
          · omega
          · simp only [Option.some.injEq, Addr.mk.injEq, and_true] at hbo
            obtain ⟨rfl, rfl⟩ := hbo
            by_cases hlt : j + 1 < m
            · have hck := hcs (j + 1) hlt
              have hck0 := hcs j (by omega)
              rw [Nat.zero_add] at hck hck0
              have hri : Agg.rises l (j + 1) = Agg.rises l j + if j + 1 < l.length ∧ l[j]?.getD 0 < l[j + 1]?.getD 0 then 1 else 0 := rfl
              obtain ⟨x1, hx1⟩ : ∃ x1, x1 = l[j + 1]?.getD 0 := ⟨_, rfl⟩
              obtain ⟨x0, hx0⟩ : ∃ x0, x0 = l[j]?.getD 0 := ⟨_, rfl⟩
              rw [← hx1] at hck hri
              rw [← hx0] at hck0 hri
              obtain ⟨R, hR⟩ : ∃ R, R = Agg.rises l j := ⟨_, rfl⟩
              rw [← hR] at hri hrb ⊢
              have HRI := Lib.hid hri
              clear hri hx1 hx0 hR hcs hN
              have hj0 : (0 : Int) ≤ (j : Int) := by omega
              have hjm : (j : Int) + 1 < (m : Int) := by omega
              have hjm2 : (j : Int) < (m : Int) := by omega
              have hj1 : (0 : Int) ≤ (j : Int) + 1 := by omega
              by_cases hxx : x0 < x1
              all_goals
                go_wp2
                go_quiet (fail)
                go_wp2
                go_roundw
                case rel =>
                  refine ⟨j + 1, by omega, by go_num, ?_, below_drewN HW.out _⟩
                  rw [HRI.out]
                  split <;> first | (exfalso; omega) | go_num | simp
                case measure => simp [intOf]; omega
            · have hjm : j = m - 1 := by omega
              subst hjm
              obtain ⟨R, hR⟩ : ∃ R, R = Agg.rises l (m - 1) := ⟨_, rfl⟩
              rw [← hR] at hrb ⊢
              clear hR
              have hc0 := hcs 0 (by omega)
              have hc1 := hcs (m - 1) (by omega)
              rw [Nat.zero_add] at hc0 hc1
              rw [hll] at hv
              have HX5 := HX4.out.below HW.out HX4.out.lt
              obtain ⟨q0, q1, q2⟩ := HX5.cells
              simp only [Agg.V.mk.injEq] at hv
              obtain ⟨v1, v2, v3⟩ := hv
              rw [← v1] at hc0
              rw [← v2] at hc1
              clear v1 v2 v3 HX5 hcs hN
              have hj0 : (0 : Int) ≤ ((m - 1 : Nat) : Int) := by omega
              have hjm : ((m - 1 : Nat) : Int) = (m : Int) - 1 := by omega
              have hRm : R < (m : Int) := by omega
              have hm1 : (0 : Int) < (m : Int) := by omega
              have hm2 : (0 : Int) ≤ (m : Int) - 1 := by omega
              have hm3 : (m : Int) - 1 < (m : Int) := by omega
              have hlt2 : ¬ ((m - 1 : Nat) : Int) + 1 < (m : Int) := by omega
              have hd : decide (R < (m : Int)) = true := decide_eq_true hRm
              have htn : ((m : Int) - 1).toNat = m - 1 := by omega
              go_wp2_with fail
              go_quiet (fail)
              go_wp2
              go_returns
              exact ⟨rfl, below_drewN (hB4.trans (HW.out.mono hs4)) _⟩
  · go_enter Try.func12, Try.ntmps12
    go_wp2
    go_returns
    exact ⟨rfl, Below.refl _ _⟩
end Go.Proofs.Ytkiafgppooacdaa
