/-
  Laws of chapter 1 about lists that are turned, walked: FnFirstLast.
-/
import Derived.Test.YtkiafgppooacdaaLh
namespace Go.Proofs.Ytkiafgppooacdaa
set_option linter.unusedSimpArgs false
set_option linter.unusedVariables false
open Go.RowKit
theorem Agg.aFold_head {l : List Int} {v : Agg.V} (h : Agg.aFold 5 l = (v, true)) (hn : l ≠ []) : v = ⟨l[0]?.getD 0, 1, 0⟩ ∧ Agg.aLow 5 v = (l[0]?.getD 0, true) := by
  obtain ⟨hk, hi, rfl⟩ := Agg.aFold_true h
  cases l with
  | nil => exact absurd rfl hn
  | cons x l =>
    have e := Agg.fold_first hi
    have e2 : Agg.fold 5 (x :: l) = ⟨x, 1, 0⟩ := by rw [e]; simp [Agg.lift]
    refine ⟨by rw [e2]; simp, ?_⟩
    rw [Agg.aLow_of hk (Agg.ok_fold_all hk hi), e2]
    simp [Agg.low]
set_option maxRecDepth 20000 in
set_option maxHeartbeats 800000 in
theorem law_FnFirstLast (a : Option Addr) (n cap : Nat) (zs : List Int) (w : World) (hrow : IsRow .u8 w a n cap zs) :
    Calls Try.prog 11 #[.slice a n cap] w fun e w' => e = .returned (.bool true) ∧ Below w.heap.size w w' := by
  have HB := Lib.hid (Bytes.of_row hrow)
  have hm : cap ≤ 9223372036854775807 := HB.out.2.1
  have hnc : n ≤ cap := HB.out.1
  clear hrow
  by_cases hn : n ≤ 1048576
  · obtain ⟨i0, hi, hz0, hz1, hz2⟩ := info_parts infoInt
    go_enter Try.func11, Try.ntmps11
    go_wp2_with fail
    refine (drawFoldItems_any _ _ _ _ _ HB.out).mono ?_
    rintro e w1 ⟨k, b, m, mc, l, rfl, hN, hm1000, hB1⟩
    have hs1 := hB1.size
    have hml : m ≤ mc := hN.2.1
    have hmc : mc ≤ 9223372036854775807 := by have := hN.2.2.1; unfold maxLen at this; omega
    have hll : l.length = m := hN.1
    have HN := Lib.hid hN; clear hN
    obtain ⟨⟨⟨x, y, z⟩, o'⟩, ho⟩ : ∃ p, p = Agg.aFold 5 l := ⟨_, rfl⟩
    have h1 := fun a n cap w => foldItems_any 5 a n cap l w
    have h2 := fun a n cap w => s_foldItems_any 5 a n cap l w
    have h3 := fun a n cap w => foldItems_any 6 a n cap l.reverse w
    have h4 := fun w => lowerValue_any 5 x y z w
    rw [Agg.aFold_turn] at h3
    rw [← ho] at h1 h2 h3
    have H1 := Lib.hid h1
    have H2 := Lib.hid h2
    have H3 := Lib.hid h3
    have HO := Lib.hid ho.symm
    clear h1 h2 h3 ho
    (try go_wp2_with fail)
    refine (H1.out _ _ _ _ HN.out).mono ?_
    rintro e w2 ⟨rfl, hb2⟩
    obtain ⟨hc2, hf2⟩ := bcell hb2
    have hq2 := hb2.size
    (try simp at hq2)
    have hB2 : Below w.heap.size w w2 := Below.trans (by go_grown) (hb2.mono (by first | (simp; done) | omega | (simp; omega)))
    have hs2 := hB2.size
    (try have hy2_0_0 : w.heap.size < w2.heap.size := by omega)
    (try have hy2_0_1 : w.heap.size + 1 < w2.heap.size := by omega)
    (try have hy2_0_2 : w.heap.size + 1 + 1 < w2.heap.size := by omega)
    (try have hy2_0_3 : w.heap.size + 1 + 1 + 1 < w2.heap.size := by omega)
    (try have hy2_0_4 : w.heap.size + 1 + 1 + 1 + 1 < w2.heap.size := by omega)
    (try have hy2_0_5 : w.heap.size + 1 + 1 + 1 + 1 + 1 < w2.heap.size := by omega)
    (try have hx2_0_1 : w.heap.size < w2.heap.size + 1 := by omega)
    (try have hx2_0_2 : w.heap.size < w2.heap.size + 1 + 1 := by omega)
    (try have hy2_1_0 : w1.heap.size < w2.heap.size := by omega)
    (try have hy2_1_1 : w1.heap.size + 1 < w2.heap.size := by omega)
    (try have hy2_1_2 : w1.heap.size + 1 + 1 < w2.heap.size := by omega)
    (try have hy2_1_3 : w1.heap.size + 1 + 1 + 1 < w2.heap.size := by omega)
    (try have hy2_1_4 : w1.heap.size + 1 + 1 + 1 + 1 < w2.heap.size := by omega)
    (try have hy2_1_5 : w1.heap.size + 1 + 1 + 1 + 1 + 1 < w2.heap.size := by omega)
    (try have hx2_1_1 : w1.heap.size < w2.heap.size + 1 := by omega)
    (try have hx2_1_2 : w1.heap.size < w2.heap.size + 1 + 1 := by omega)
    have HN2 := Lib.hid (HN.out.below hb2)
    clear hb2 hq2
    (try go_wp2_with fail)
    refine (H2.out _ _ _ _ (HN2.out.below (by go_grown))).mono ?_
    rintro e w3 ⟨rfl, hb3⟩
    obtain ⟨hc3, hf3⟩ := bcell hb3
    have hq3 := hb3.size
    (try simp at hq3)
    have hB3 : Below w.heap.size w w3 := Below.trans (by go_grown) (hb3.mono (by first | (simp; done) | omega | (simp; omega)))
    have hs3 := hB3.size
    (try have hy3_0_0 : w.heap.size < w3.heap.size := by omega)
    (try have hy3_0_1 : w.heap.size + 1 < w3.heap.size := by omega)
    (try have hy3_0_2 : w.heap.size + 1 + 1 < w3.heap.size := by omega)
    (try have hy3_0_3 : w.heap.size + 1 + 1 + 1 < w3.heap.size := by omega)
    (try have hy3_0_4 : w.heap.size + 1 + 1 + 1 + 1 < w3.heap.size := by omega)
    (try have hy3_0_5 : w.heap.size + 1 + 1 + 1 + 1 + 1 < w3.heap.size := by omega)
    (try have hx3_0_1 : w.heap.size < w3.heap.size + 1 := by omega)
    (try have hx3_0_2 : w.heap.size < w3.heap.size + 1 + 1 := by omega)
    (try have hy3_1_0 : w1.heap.size < w3.heap.size := by omega)
    (try have hy3_1_1 : w1.heap.size + 1 < w3.heap.size := by omega)
    (try have hy3_1_2 : w1.heap.size + 1 + 1 < w3.heap.size := by omega)
    (try have hy3_1_3 : w1.heap.size + 1 + 1 + 1 < w3.heap.size := by omega)
    (try have hy3_1_4 : w1.heap.size + 1 + 1 + 1 + 1 < w3.heap.size := by omega)
    (try have hy3_1_5 : w1.heap.size + 1 + 1 + 1 + 1 + 1 < w3.heap.size := by omega)
    (try have hx3_1_1 : w1.heap.size < w3.heap.size + 1 := by omega)
    (try have hx3_1_2 : w1.heap.size < w3.heap.size + 1 + 1 := by omega)
    (try have hy3_2_0 : w2.heap.size < w3.heap.size := by omega)
    (try have hy3_2_1 : w2.heap.size + 1 < w3.heap.size := by omega)
    (try have hy3_2_2 : w2.heap.size + 1 + 1 < w3.heap.size := by omega)
    (try have hy3_2_3 : w2.heap.size + 1 + 1 + 1 < w3.heap.size := by omega)
    (try have hy3_2_4 : w2.heap.size + 1 + 1 + 1 + 1 < w3.heap.size := by omega)
    (try have hy3_2_5 : w2.heap.size + 1 + 1 + 1 + 1 + 1 < w3.heap.size := by omega)
    (try have hx3_2_1 : w2.heap.size < w3.heap.size + 1 := by omega)
    (try have hx3_2_2 : w2.heap.size < w3.heap.size + 1 + 1 := by omega)
    have HX := Lib.hid (Box.below (Box.new w2 27 x y z) hb3 (by simp))
    have HN3 := Lib.hid ((HN2.out.below (by go_grown)).below hb3)
    clear hb3 hq3
    clear H1 H2 HN HN2
    have HX4 := Lib.hid (HX.out.below ((Below.refl w3.heap.size w3).alloc (Nat.le_refl _) (.cells #[.int .i64 x, .int .i64 y, .int .i64 z] 27)) HX.out.lt)
    have HY4 := Lib.hid (Box.new w3 27 x y z)
    have HN4 := Lib.hid (HN3.out.below ((Below.refl w3.heap.size w3).alloc (Nat.le_refl _) (.cells #[.int .i64 x, .int .i64 y, .int .i64 z] 27)))
    have HW4 := Lib.hid (hB3.alloc hs3 (.cells #[.int .i64 x, .int .i64 y, .int .i64 z] 27))
    have hWs : (w3.alloc (.cells #[.int .i64 x, .int .i64 y, .int .i64 z] 27)).heap.size = w3.heap.size + 1 := by simp
    clear HX HN3
    go_wp2_with fail
    generalize w3.alloc (.cells #[.int .i64 x, .int .i64 y, .int .i64 z] 27) = W at HX4 HY4 HN4 HW4 hWs ⊢
    rw [← hWs]
    have HWS := Lib.hid hWs
    clear hWs
    have hw0 := HW4.out.size
    have hown0 := World.ownsRow_made (base := W.heap.size) (e := 3) (size := 1) W #[] 0 (Nat.le_refl _) (by simp [maxLen]) (by simp)
    have HO4 := Lib.hid (show (W.alloc (.cells #[] 3)).ownsRow W.heap.size 3 1 (.slice (some ⟨W.heap.size, 0, none⟩) 0 0) 0 ((l.reverse.take 0).map (Value.int .i64)) from hown0)
    have HB5 := Lib.hid ((Below.refl W.heap.size W).alloc (Nat.le_refl _) (.cells #[] 3))
    clear hown0 hc2 hc3 hf2 hf3
    go_loopw [9, 10] (fun ov i wr => ∃ j : Nat, j ≤ m ∧ i = .int .i64 ((m : Int) - 1 - j) ∧ ov ≠ .slice none 0 0 ∧ Hid (wr.ownsRow W.heap.size 3 1 ov j ((l.reverse.take j).map (Value.int .i64))) ∧ Hid (Below W.heap.size W wr)) (fun _ i _ => ((intOf i) + 1).toNat)
    case atStart => exact ⟨0, by omega, by go_num, by simp, HO4, HB5⟩
    case round =>
      obtain ⟨j, hj, rfl, hov, ho, hbw⟩ := hrel
      clear HO4 HB5
      have hwr := hbw.out.size
      have hlt' : ∀ q, u9.ownBlock = some q → W.heap.size ≤ q := fun q hq => (ho.out.lt q hq).1
      have hNr := HN4.out.below hbw.out
      by_cases hlt : j < m
      · rcases hNr.2.2.2 with h0 | ⟨b', off, hbo, hbw2, hcs⟩
        · omega
        simp only [Option.some.injEq, Addr.mk.injEq, and_true] at hbo
        obtain ⟨rfl, rfl⟩ := hbo
        obtain ⟨i, hi9⟩ : ∃ i : Nat, i = m - 1 - j := ⟨_, rfl⟩
        have hck := hcs i (by omega)
        rw [Nat.zero_add] at hck
        have hst := rev_step l j (by omega)
        rw [hll, ← hi9] at hst
        obtain ⟨u, hu⟩ : ∃ u, u = l[i]?.getD 0 := ⟨_, rfl⟩
        rw [← hu] at hck hst
        have HST := Lib.hid hst
        clear hst hu hcs hNr
        have hii : (m : Int) - 1 - j = (i : Int) := by omega
        have him : (i : Int) < (m : Int) := by omega
        have hi0 : (0 : Int) ≤ (i : Int) := by omega
        rw [hii]
        have HI9 := Lib.hid hi9
        have HII := Lib.hid hii
        clear hi9 hii
        go_wp2_with (at_builtin; refine wpList_append_own _ rfl (.tmp 41) (.tmp 46) 23 rfl W.heap.size 3 i0 (.int .i64 0) 1 8 Try.underlying23 hi hz0 hz1 hz2 rfl (by decide) _ _ _ rfl (ho.out.alloc _) ⟨wr.heap.size, 0, none⟩ 1 1 [.int .i64 u] rfl rfl (cell_one_new _ _ _) (ints_oneCell .i64 [u]) (by unfold maxLen; omega) (by omega) (by simp; omega) ?_; intro v' w5 hown5 hgrow5 hnil5)
        go_roundw
        case rel =>
          refine ⟨j + 1, by omega, by have := HI9.out; go_num, fun hh => hov (hnil5.1 hh).1, ?_, ?_⟩
          · refine Lib.hid ?_
            rw [HST.out]
            simpa using hown5
          · exact Lib.hid ((hbw.out.alloc hbw.out.size _).grown hgrow5 (by have := hbw.out.size; simp; omega) hlt')
        case measure => have := HI9.out; simp [intOf] <;> omega
      · obtain rfl : j = m := by omega
        obtain ⟨g, gc, rfl, hG⟩ := Nums.of_drawn (l := l.reverse) (by have := ho.out; rw [List.take_of_length_le (by simp; omega)] at this; exact this) hov
        have HG := Lib.hid hG
        clear hG hNr
        have hneg : ¬ ((0 : Int) ≤ (j : Int) - 1 - (j : Int)) := by omega
        go_wp2_with fail
        refine (H3.out _ _ _ _ HG.out).mono ?_
        rintro e w5 ⟨rfl, hb5⟩
        have hX5 := (HX4.out.below hbw.out HX4.out.lt).below hb5 (Box.lt (HX4.out.below hbw.out HX4.out.lt))
        have hY5 := (HY4.out.below hbw.out HY4.out.lt).below hb5 (Box.lt (HY4.out.below hbw.out HY4.out.lt))
        have hxl := hX5.lt
        have hyl := hY5.lt
        obtain ⟨q0, q1, q2⟩ := hX5.cells
        obtain ⟨r0, r1, r2⟩ := hY5.cells
        have hB5 := hb5
        have HW5 := Lib.hid ((HW4.out.trans (hbw.out.mono hw0)).trans (hb5.mono (by have := HW4.out.size; omega)))
        have hs5 := HW5.out.size
        clear hX5 hY5 hb5
        cases o'
        · go_wp2_with fail
          go_returns
          exact ⟨rfl, by have := HW5.out; go_grown⟩
        · by_cases hj0 : j = 0
          · subst hj0
            go_wp2_with fail
            go_returns
            exact ⟨rfl, by have := HW5.out; go_grown⟩
          · obtain ⟨hv, hlow⟩ := Agg.aFold_head HO.out (by intro e; subst e; simp at hll; omega)
            rw [hlow] at h4
            simp only [Agg.V.mk.injEq] at hv
            obtain ⟨v1, v2, v3⟩ := hv
            rw [← v1] at h4
            have H4 := Lib.hid h4
            have hj00 : ¬ ((j : Int) = 0) := by omega
            have HV1 := Lib.hid v1
            clear h4 v1 v2 v3 hlow
            have HN5 := Lib.hid ((HN4.out.below hbw.out).below hB5)
            go_wp2_with fail
            refine (H4.out _).mono ?_
            rintro e w6 ⟨rfl, hb6⟩
            obtain ⟨hc6, hf6⟩ := bcell hb6
            have hq6 := hb6.size
            simp at hq6
            have hy6_0 : w5.heap.size < w6.heap.size := by omega
            have hy6_1 : w2.heap.size < w6.heap.size := by omega
            have hy6_2 : w3.heap.size < w6.heap.size := by omega
            have HW6 := Lib.hid ((HW5.out.alloc hs5 _).trans (hb6.mono (by simp; omega)))
            have hN6 := (HN5.out.below ((Below.refl w5.heap.size w5).alloc (Nat.le_refl _) (.cells #[.int .i64 x, .int .i64 y, .int .i64 z] 27))).below hb6
            rcases hN6.2.2.2 with h0 | ⟨b', off, hbo, hbw2, hcs⟩
            · omega
            · simp only [Option.some.injEq, Addr.mk.injEq, and_true] at hbo
              obtain ⟨rfl, rfl⟩ := hbo
              have hck := hcs 0 (by omega)
              rw [Nat.zero_add, ← HV1.out] at hck
              clear hcs hb6 hN6
              have hjp : (0 : Int) < (j : Int) := by omega
              go_wp2_with fail
              go_returns
              exact ⟨rfl, HW6.out⟩
  · go_enter Try.func11, Try.ntmps11
    go_wp2
    go_returns
    exact ⟨rfl, Below.refl _ _⟩
end Go.Proofs.Ytkiafgppooacdaa
