/-
  The law that numbers are of items, walked: FnLowerValue.
-/
import Derived.Test.YtkiafgppooacdaaLd
namespace Go.Proofs.Ytkiafgppooacdaa
set_option linter.unusedSimpArgs false
set_option linter.unusedVariables false
open Go.RowKit
theorem Agg.aLow_items {k : Int} {l : List Int} {v : Agg.V} {n : Int} (h : Agg.aFold k l = (v, true)) (hl : Agg.aLow k v = (n, true)) :
    (3 ≤ k ∧ k ≤ 6 → n ∈ l) ∧ (k = 10 → ∃ i : Nat, n = (i : Int) ∧ i < l.length ∧ l[i]?.getD 0 = v.x) ∧ (k = 2 → n = (l.length : Int)) := by
  obtain ⟨hk, hi, rfl⟩ := Agg.aFold_true h
  rw [Agg.aLow_of hk (Agg.ok_fold_all hk hi)] at hl
  refine ⟨fun hp => ?_, ?_, ?_⟩
  · rcases Agg.pick_mem hp l hi with ⟨e, -⟩ | ⟨x, hx, e⟩
    · rw [e] at hl
      simp only [Agg.low] at hl
      rw [if_neg (by omega), if_neg (by omega), if_neg (by omega), if_neg (by omega), if_neg (by omega)] at hl
      simp at hl
    · rw [e] at hl
      simp only [Agg.low] at hl
      rw [if_neg (by omega), if_neg (by omega), if_neg (by omega), if_neg (by omega), if_neg (by omega)] at hl
      simp at hl
      rw [← hl]; exact hx
  · rintro rfl
    obtain ⟨hz, hp⟩ := Agg.place_at l hi
    simp [Agg.low] at hl
    rcases hp with rfl | ⟨p0, p1, p2⟩
    · simp at hz; exact absurd hz hl.2
    · refine ⟨(Agg.fold 10 l).y.toNat, by omega, by omega, by rw [p2]; rfl⟩
  · rintro rfl
    rw [Agg.count_len] at hl
    simp [Agg.low] at hl
    exact hl.symm
theorem mem_at (l : List Int) (x : Int) (kk : Nat) (h : kk < l.length) (hn : x ∉ l.take kk) (hx : l[kk]?.getD 0 ≠ x) : x ∉ l.take (kk + 1) := by
  rw [Agg.take_snoc l kk h]
  intro hm
  rcases List.mem_append.1 hm with hm | hm
  · exact hn hm
  · exact hx (List.mem_singleton.1 hm).symm
set_option maxHeartbeats 1000000 in
theorem waIn_any (a : Option Addr) (n cap : Nat) (l : List Int) (x : Int) (w : World) (h : Nums .i64 w a n cap l) (hx : x ∈ l) (hn : n ≤ 1000000) :
    Calls Try.prog 29 #[.slice a n cap, .int .i64 x] w fun e w' => e = .returned (.bool true) ∧ Below w.heap.size w w' := by
  obtain ⟨hl, hcap, hm, h4⟩ := h
  unfold maxLen at hm
  have HX := Lib.hid hx
  clear hx
  have H4 := Lib.hid h4; clear h4
  have HL := Lib.hid hl; clear hl
  go_enter Try.func29, Try.ntmps29
  go_wp2
  go_loopw [5] (fun i wr => ∃ kk : Nat, kk ≤ n ∧ i = .int .i64 kk ∧ Hid (x ∉ l.take kk) ∧ Hid (Below w.heap.size w wr)) (fun i _ => n - (intOf i).toNat)
  case atStart => exact ⟨0, Nat.zero_le _, rfl, by show x ∉ _; simp, Below.refl _ _⟩
  case round =>
    obtain ⟨kk, hk, rfl, HM, HW⟩ := hrel
    by_cases hlt : kk < n
    · rcases H4.out with h4 | ⟨b, off, rfl, hb, hcs⟩
      · omega
      · have hck := (HW.out.cell (p := ⟨b, off + kk, none⟩) hb).trans (hcs kk hlt)
        clear hcs
        have hma := mem_at l x kk (by have := HL.out; omega) HM.out
        obtain ⟨y, hy⟩ : ∃ y, y = l[kk]?.getD 0 := ⟨_, rfl⟩
        rw [← hy] at hck hma
        clear hy
        have HMA := Lib.hid hma
        clear hma
        have hk0 : (0 : Int) ≤ (kk : Int) := Int.natCast_nonneg _
        have hkn : (kk : Int) < (n : Int) := by omega
        by_cases hyx : y = x
        · go_wp2
          go_returns
          exact ⟨rfl, HW.out⟩
        · go_wp2
          go_roundw
          case rel => exact ⟨kk + 1, by omega, by go_num, HMA.out hyx, HW.out⟩
          case measure => simp [intOf]; omega
    · have hf : False := by
        have h1 := HM.out
        rw [List.take_of_length_le (by have := HL.out; omega)] at h1
        exact h1 HX.out
      exact hf.elim
set_option maxRecDepth 20000 in
set_option maxHeartbeats 8000000 in
theorem law_FnLowerValue (a : Option Addr) (n cap : Nat) (zs : List Int) (w : World) (hrow : IsRow .u8 w a n cap zs) :
    Calls Try.prog 8 #[.slice a n cap] w fun e w' => e = .returned (.bool true) ∧ Below w.heap.size w w' := by
  have HB := Lib.hid (Bytes.of_row hrow)
  have hm : cap ≤ 9223372036854775807 := HB.out.2.1
  have hnc : n ≤ cap := HB.out.1
  clear hrow
  by_cases hn : n ≤ 1048576
  · go_enter Try.func8, Try.ntmps8
    go_wp2_with fail
    refine (drawFoldItems_any _ _ _ _ _ HB.out).mono ?_
    rintro e w1 ⟨k, b, m, mc, l, rfl, hN, hm1000, hB1⟩
    have hs1 := hB1.size
    have hml : m ≤ mc := hN.2.1
    have hmc : mc ≤ 9223372036854775807 := by have := hN.2.2.1; unfold maxLen at this; omega
    have hll : l.length = m := hN.1
    have HN := Lib.hid hN; clear hN
    obtain ⟨⟨⟨x, y, z⟩, o⟩, ho⟩ : ∃ p, p = Agg.aFold k l := ⟨_, rfl⟩
    obtain ⟨⟨ln, lo⟩, hl⟩ : ∃ p, p = Agg.aLow k ⟨x, y, z⟩ := ⟨_, rfl⟩
    have h1 := fun a n cap w => foldItems_any k a n cap l w
    have h2 := fun a n cap w => s_foldItems_any k a n cap l w
    have h3 := fun w => lowerValue_any k x y z w
    have h4 := fun w => s_lowerValue_any k x y z w
    rw [← ho] at h1 h2
    rw [← hl] at h3 h4
    have H1 := Lib.hid h1
    have H2 := Lib.hid h2
    have H3 := Lib.hid h3
    have H4 := Lib.hid h4
    have HO := Lib.hid ho.symm
    have HL := Lib.hid hl.symm
    clear h1 h2 h3 h4 ho hl
    (try go_wp2_with fail)
    refine (H1.out _ _ _ _ HN.out).mono ?_
    rintro e w2 ⟨rfl, hb2⟩
    obtain ⟨hc2, hf2⟩ := bcell hb2
    have hq2 := hb2.size
    (try simp at hq2)
    have hB2 : Below w.heap.size w w2 := Below.trans (by go_grown) (hb2.mono (by first | (simp; done) | omega | (simp; omega)))
    have hs2 := hB2.size
    (try have hy2_0_0 : w.heap.size < w2.heap.size := by omega)
    (try have hy2_0_1 : w.heap.size + 1 < w2.heap.size := by omega)
    (try have hy2_0_2 : w.heap.size + 1 + 1 < w2.heap.size := by omega)
    (try have hy2_0_3 : w.heap.size + 1 + 1 + 1 < w2.heap.size := by omega)
    (try have hy2_0_4 : w.heap.size + 1 + 1 + 1 + 1 < w2.heap.size := by omega)
    (try have hy2_0_5 : w.heap.size + 1 + 1 + 1 + 1 + 1 < w2.heap.size := by omega)
    (try have hx2_0_1 : w.heap.size < w2.heap.size + 1 := by omega)
    (try have hx2_0_2 : w.heap.size < w2.heap.size + 1 + 1 := by omega)
    (try have hy2_1_0 : w1.heap.size < w2.heap.size := by omega)
    (try have hy2_1_1 : w1.heap.size + 1 < w2.heap.size := by omega)
    (try have hy2_1_2 : w1.heap.size + 1 + 1 < w2.heap.size := by omega)
    (try have hy2_1_3 : w1.heap.size + 1 + 1 + 1 < w2.heap.size := by omega)
    (try have hy2_1_4 : w1.heap.size + 1 + 1 + 1 + 1 < w2.heap.size := by omega)
    (try have hy2_1_5 : w1.heap.size + 1 + 1 + 1 + 1 + 1 < w2.heap.size := by omega)
    (try have hx2_1_1 : w1.heap.size < w2.heap.size + 1 := by omega)
    (try have hx2_1_2 : w1.heap.size < w2.heap.size + 1 + 1 := by omega)
    have HN2 := Lib.hid (HN.out.below hb2)
    clear hb2 hq2
    (try go_wp2_with fail)
    refine (H2.out _ _ _ _ (HN2.out.below (by go_grown))).mono ?_
    rintro e w3 ⟨rfl, hb3⟩
    obtain ⟨hc3, hf3⟩ := bcell hb3
    have hq3 := hb3.size
    (try simp at hq3)
    have hB3 : Below w.heap.size w w3 := Below.trans (by go_grown) (hb3.mono (by first | (simp; done) | omega | (simp; omega)))
    have hs3 := hB3.size
    (try have hy3_0_0 : w.heap.size < w3.heap.size := by omega)
    (try have hy3_0_1 : w.heap.size + 1 < w3.heap.size := by omega)
    (try have hy3_0_2 : w.heap.size + 1 + 1 < w3.heap.size := by omega)
    (try have hy3_0_3 : w.heap.size + 1 + 1 + 1 < w3.heap.size := by omega)
    (try have hy3_0_4 : w.heap.size + 1 + 1 + 1 + 1 < w3.heap.size := by omega)
    (try have hy3_0_5 : w.heap.size + 1 + 1 + 1 + 1 + 1 < w3.heap.size := by omega)
    (try have hx3_0_1 : w.heap.size < w3.heap.size + 1 := by omega)
    (try have hx3_0_2 : w.heap.size < w3.heap.size + 1 + 1 := by omega)
    (try have hy3_1_0 : w1.heap.size < w3.heap.size := by omega)
    (try have hy3_1_1 : w1.heap.size + 1 < w3.heap.size := by omega)
    (try have hy3_1_2 : w1.heap.size + 1 + 1 < w3.heap.size := by omega)
    (try have hy3_1_3 : w1.heap.size + 1 + 1 + 1 < w3.heap.size := by omega)
    (try have hy3_1_4 : w1.heap.size + 1 + 1 + 1 + 1 < w3.heap.size := by omega)
    (try have hy3_1_5 : w1.heap.size + 1 + 1 + 1 + 1 + 1 < w3.heap.size := by omega)
    (try have hx3_1_1 : w1.heap.size < w3.heap.size + 1 := by omega)
    (try have hx3_1_2 : w1.heap.size < w3.heap.size + 1 + 1 := by omega)
    (try have hy3_2_0 : w2.heap.size < w3.heap.size := by omega)
    (try have hy3_2_1 : w2.heap.size + 1 < w3.heap.size := by omega)
    (try have hy3_2_2 : w2.heap.size + 1 + 1 < w3.heap.size := by omega)
    (try have hy3_2_3 : w2.heap.size + 1 + 1 + 1 < w3.heap.size := by omega)
    (try have hy3_2_4 : w2.heap.size + 1 + 1 + 1 + 1 < w3.heap.size := by omega)
    (try have hy3_2_5 : w2.heap.size + 1 + 1 + 1 + 1 + 1 < w3.heap.size := by omega)
    (try have hx3_2_1 : w2.heap.size < w3.heap.size + 1 := by omega)
    (try have hx3_2_2 : w2.heap.size < w3.heap.size + 1 + 1 := by omega)
    have HX := Lib.hid (Box.below (Box.new w2 27 x y z) hb3 (by simp))
    have HN3 := Lib.hid ((HN2.out.below (by go_grown)).below hb3)
    clear hb3 hq3
    have HX3 := Lib.hid (HX.out.below ((Below.refl w3.heap.size w3).alloc (Nat.le_refl _) (.cells #[.int .i64 x, .int .i64 y, .int .i64 z] 27)) HX.out.lt)
    have HN3' := Lib.hid (HN3.out.below ((Below.refl w3.heap.size w3).alloc (Nat.le_refl _) (.cells #[.int .i64 x, .int .i64 y, .int .i64 z] 27)))
    (try go_wp2_with fail)
    refine (H3.out _).mono ?_
    rintro e w4 ⟨rfl, hb4⟩
    obtain ⟨hc4, hf4⟩ := bcell hb4
    have hq4 := hb4.size
    (try simp at hq4)
    have hB4 : Below w.heap.size w w4 := Below.trans (by go_grown) (hb4.mono (by first | (simp; done) | omega | (simp; omega)))
    have hs4 := hB4.size
    (try have hy4_0_0 : w.heap.size < w4.heap.size := by omega)
    (try have hy4_0_1 : w.heap.size + 1 < w4.heap.size := by omega)
    (try have hy4_0_2 : w.heap.size + 1 + 1 < w4.heap.size := by omega)
    (try have hy4_0_3 : w.heap.size + 1 + 1 + 1 < w4.heap.size := by omega)
    (try have hy4_0_4 : w.heap.size + 1 + 1 + 1 + 1 < w4.heap.size := by omega)
    (try have hy4_0_5 : w.heap.size + 1 + 1 + 1 + 1 + 1 < w4.heap.size := by omega)
    (try have hx4_0_1 : w.heap.size < w4.heap.size + 1 := by omega)
    (try have hx4_0_2 : w.heap.size < w4.heap.size + 1 + 1 := by omega)
    (try have hy4_1_0 : w1.heap.size < w4.heap.size := by omega)
    (try have hy4_1_1 : w1.heap.size + 1 < w4.heap.size := by omega)
    (try have hy4_1_2 : w1.heap.size + 1 + 1 < w4.heap.size := by omega)
    (try have hy4_1_3 : w1.heap.size + 1 + 1 + 1 < w4.heap.size := by omega)
    (try have hy4_1_4 : w1.heap.size + 1 + 1 + 1 + 1 < w4.heap.size := by omega)
    (try have hy4_1_5 : w1.heap.size + 1 + 1 + 1 + 1 + 1 < w4.heap.size := by omega)
    (try have hx4_1_1 : w1.heap.size < w4.heap.size + 1 := by omega)
    (try have hx4_1_2 : w1.heap.size < w4.heap.size + 1 + 1 := by omega)
    (try have hy4_2_0 : w2.heap.size < w4.heap.size := by omega)
    (try have hy4_2_1 : w2.heap.size + 1 < w4.heap.size := by omega)
    (try have hy4_2_2 : w2.heap.size + 1 + 1 < w4.heap.size := by omega)
    (try have hy4_2_3 : w2.heap.size + 1 + 1 + 1 < w4.heap.size := by omega)
    (try have hy4_2_4 : w2.heap.size + 1 + 1 + 1 + 1 < w4.heap.size := by omega)
    (try have hy4_2_5 : w2.heap.size + 1 + 1 + 1 + 1 + 1 < w4.heap.size := by omega)
    (try have hx4_2_1 : w2.heap.size < w4.heap.size + 1 := by omega)
    (try have hx4_2_2 : w2.heap.size < w4.heap.size + 1 + 1 := by omega)
    (try have hy4_3_0 : w3.heap.size < w4.heap.size := by omega)
    (try have hy4_3_1 : w3.heap.size + 1 < w4.heap.size := by omega)
    (try have hy4_3_2 : w3.heap.size + 1 + 1 < w4.heap.size := by omega)
    (try have hy4_3_3 : w3.heap.size + 1 + 1 + 1 < w4.heap.size := by omega)
    (try have hy4_3_4 : w3.heap.size + 1 + 1 + 1 + 1 < w4.heap.size := by omega)
    (try have hy4_3_5 : w3.heap.size + 1 + 1 + 1 + 1 + 1 < w4.heap.size := by omega)
    (try have hx4_3_1 : w3.heap.size < w4.heap.size + 1 := by omega)
    (try have hx4_3_2 : w3.heap.size < w4.heap.size + 1 + 1 := by omega)
    have HX4 := Lib.hid (HX3.out.below hb4 HX3.out.lt)
    have HN4 := Lib.hid (HN3'.out.below hb4)
    clear hb4 hq4
    (try go_wp2_with fail)
    refine (H4.out _).mono ?_
    rintro e w5 ⟨rfl, hb5⟩
    obtain ⟨hc5, hf5⟩ := bcell hb5
    have hq5 := hb5.size
    (try simp at hq5)
    have hB5 : Below w.heap.size w w5 := Below.trans (by go_grown) (hb5.mono (by first | (simp; done) | omega | (simp; omega)))
    have hs5 := hB5.size
    (try have hy5_0_0 : w.heap.size < w5.heap.size := by omega)
    (try have hy5_0_1 : w.heap.size + 1 < w5.heap.size := by omega)
    (try have hy5_0_2 : w.heap.size + 1 + 1 < w5.heap.size := by omega)
    (try have hy5_0_3 : w.heap.size + 1 + 1 + 1 < w5.heap.size := by omega)
    (try have hy5_0_4 : w.heap.size + 1 + 1 + 1 + 1 < w5.heap.size := by omega)
    (try have hy5_0_5 : w.heap.size + 1 + 1 + 1 + 1 + 1 < w5.heap.size := by omega)
    (try have hx5_0_1 : w.heap.size < w5.heap.size + 1 := by omega)
    (try have hx5_0_2 : w.heap.size < w5.heap.size + 1 + 1 := by omega)
    (try have hy5_1_0 : w1.heap.size < w5.heap.size := by omega)
    (try have hy5_1_1 : w1.heap.size + 1 < w5.heap.size := by omega)
    (try have hy5_1_2 : w1.heap.size + 1 + 1 < w5.heap.size := by omega)
    (try have hy5_1_3 : w1.heap.size + 1 + 1 + 1 < w5.heap.size := by omega)
    (try have hy5_1_4 : w1.heap.size + 1 + 1 + 1 + 1 < w5.heap.size := by omega)
    (try have hy5_1_5 : w1.heap.size + 1 + 1 + 1 + 1 + 1 < w5.heap.size := by omega)
    (try have hx5_1_1 : w1.heap.size < w5.heap.size + 1 := by omega)
    (try have hx5_1_2 : w1.heap.size < w5.heap.size + 1 + 1 := by omega)
    (try have hy5_2_0 : w2.heap.size < w5.heap.size := by omega)
    (try have hy5_2_1 : w2.heap.size + 1 < w5.heap.size := by omega)
    (try have hy5_2_2 : w2.heap.size + 1 + 1 < w5.heap.size := by omega)
    (try have hy5_2_3 : w2.heap.size + 1 + 1 + 1 < w5.heap.size := by omega)
    (try have hy5_2_4 : w2.heap.size + 1 + 1 + 1 + 1 < w5.heap.size := by omega)
    (try have hy5_2_5 : w2.heap.size + 1 + 1 + 1 + 1 + 1 < w5.heap.size := by omega)
    (try have hx5_2_1 : w2.heap.size < w5.heap.size + 1 := by omega)
    (try have hx5_2_2 : w2.heap.size < w5.heap.size + 1 + 1 := by omega)
    (try have hy5_3_0 : w3.heap.size < w5.heap.size := by omega)
    (try have hy5_3_1 : w3.heap.size + 1 < w5.heap.size := by omega)
    (try have hy5_3_2 : w3.heap.size + 1 + 1 < w5.heap.size := by omega)
    (try have hy5_3_3 : w3.heap.size + 1 + 1 + 1 < w5.heap.size := by omega)
    (try have hy5_3_4 : w3.heap.size + 1 + 1 + 1 + 1 < w5.heap.size := by omega)
    (try have hy5_3_5 : w3.heap.size + 1 + 1 + 1 + 1 + 1 < w5.heap.size := by omega)
    (try have hx5_3_1 : w3.heap.size < w5.heap.size + 1 := by omega)
    (try have hx5_3_2 : w3.heap.size < w5.heap.size + 1 + 1 := by omega)
    (try have hy5_4_0 : w4.heap.size < w5.heap.size := by omega)
    (try have hy5_4_1 : w4.heap.size + 1 < w5.heap.size := by omega)
    (try have hy5_4_2 : w4.heap.size + 1 + 1 < w5.heap.size := by omega)
    (try have hy5_4_3 : w4.heap.size + 1 + 1 + 1 < w5.heap.size := by omega)
    (try have hy5_4_4 : w4.heap.size + 1 + 1 + 1 + 1 < w5.heap.size := by omega)
    (try have hy5_4_5 : w4.heap.size + 1 + 1 + 1 + 1 + 1 < w5.heap.size := by omega)
    (try have hx5_4_1 : w4.heap.size < w5.heap.size + 1 := by omega)
    (try have hx5_4_2 : w4.heap.size < w5.heap.size + 1 + 1 := by omega)
    have HX5 := Lib.hid (HX4.out.below hb5 HX4.out.lt)
    have HN5 := Lib.hid (HN4.out.below hb5)
    clear hb5 hq5
    clear H1 H2 H3 H4 HN HN2 HN3 HN3' HN4 HX HX3 HX4
    clear hc2 hc3 hc4 hc5 hf2 hf3 hf4 hf5
    obtain ⟨q0, q1, q2⟩ := HX5.out.cells
    cases o
    · go_wp2_with fail
      go_returns
      exact ⟨rfl, (by first | (go_grown; done) | (refine below_drewN ?_ _; go_grown; done) | (refine (below_drewN _ ?_); go_grown; done))⟩
    · cases lo
      · go_wp2_with fail
        go_returns
        exact ⟨rfl, (by first | (go_grown; done) | (refine below_drewN ?_ _; go_grown; done) | (refine (below_drewN _ ?_); go_grown; done))⟩
      · obtain ⟨m1, m2, m3⟩ := Agg.aLow_items HO.out HL.out
        by_cases hk : 3 ≤ k ∧ k ≤ 6
        · have hmem := m1 hk
          obtain ⟨hk1, hk2⟩ := hk
          clear m1 m2 m3
          have HM := Lib.hid hmem
          clear hmem
          go_wp2_with fail
          refine (waIn_any _ _ _ l _ _ HN5.out HM.out (by omega)).mono ?_
          rintro e w6 ⟨rfl, hb6⟩
          have HW6 := Lib.hid (hB5.trans (hb6.mono hs5))
          clear hb6
          go_wp2_with fail
          go_returns
          exact ⟨rfl, HW6.out⟩
        · by_cases hk10 : k = 10
          · subst hk10
            obtain ⟨i, rfl, him, hix⟩ := m2 rfl
            clear m1 m2 m3
            rcases HN5.out.2.2.2 with h0 | ⟨b', off, hbo, hbw2, hcs⟩
            · omega
            · simp only [Option.some.injEq, Addr.mk.injEq, and_true] at hbo
              obtain ⟨rfl, rfl⟩ := hbo
              have hck := hcs i (by omega)
              rw [Nat.zero_add, hix] at hck
              clear hcs hix
              have hi0 : (0 : Int) ≤ (i : Int) := by omega
              have him2 : (i : Int) < (m : Int) := by omega
              have hd : decide ((i : Int) < (m : Int)) = true := decide_eq_true him2
              go_wp2_with fail
              go_quiet (fail)
              go_wp2
              go_returns
              exact ⟨rfl, below_drewN hB5 _⟩
          · by_cases hk2 : k = 2
            · subst hk2
              have e := m3 rfl
              subst e
              clear m1 m2 m3
              rw [hll]
              go_wp2_with fail
              go_returns
              exact ⟨rfl, hB5⟩
            · clear m1 m2 m3
              by_cases hk3 : 3 ≤ k
              · have hk4 : ¬ (k ≤ 6) := by omega
                go_wp2_with fail
                go_returns
                exact ⟨rfl, hB5⟩
              · go_wp2_with fail
                go_returns
                exact ⟨rfl, hB5⟩
  · go_enter Try.func8, Try.ntmps8
    go_wp2
    go_returns
    exact ⟨rfl, Below.refl _ _⟩
end Go.Proofs.Ytkiafgppooacdaa
