/-
  The law FnSlideOps, walked.
-/
import Derived.Test.Ythkokeeciicdnaa2u
import Derived.Test.Ythkokeeciicdnaa2j
namespace Go.Proofs.Ythkokeeciicdnaa
set_option linter.unusedSimpArgs false
set_option linter.unusedVariables false
open Go.RowKit
theorem Agg.slide_last {l : List Int} (hl : Agg.itemsOk l = true) {s : Nat} (hs : 1 ≤ s) (h59 : s ≤ 59) : Agg.winOut (Agg.sOps l s l.length) = l.drop (l.length - min l.length s) := by
  obtain ⟨ho, hn⟩ := Agg.slide_ops hl hs h59
  have hw := (Agg.slide_good hl hs h59 l.length (Nat.le_refl _)).win _ (Nat.le_refl _)
  unfold Agg.winOut
  rw [if_pos ho, hn, hw]
  unfold Agg.slideWin Agg.slideLen
  by_cases h : l.length < s
  · rw [if_pos h, if_pos h, List.take_length, show l.length - min l.length s = 0 by omega, List.drop_zero]
  · rw [if_neg h, if_neg (by omega), if_pos (by omega)]
    rw [show (s + 2 * (l.length - s) - s) / 2 = l.length - s by omega, show l.length - min l.length s = l.length - s by omega]
    exact List.take_of_length_le (by simp; omega)
theorem Nums.sub_so {k : IntKind} {w : World} {b off n cap : Nat} {l : List Int} (h : Nums k w (some ⟨b, off, none⟩) n cap l) {i s : Nat} (hi : i + s ≤ n) : Nums k w (some ⟨b, off + i, none⟩) s (cap - i) ((l.drop i).take s) := by
  obtain ⟨h1, h2, h3, h4⟩ := h
  refine ⟨by simp; omega, by omega, by omega, ?_⟩
  rcases h4 with h4 | ⟨b', off', ha, hb, hc⟩
  · exact .inl (by omega)
  · simp only [Option.some.injEq, Addr.mk.injEq, and_true] at ha
    obtain ⟨rfl, rfl⟩ := ha
    refine .inr ⟨b, off + i, rfl, hb, fun j hj => ?_⟩
    rw [Nat.add_assoc, hc (i + j) (by omega), List.getElem?_take, if_pos hj, List.getElem?_drop]
/-- A list and a size in new memory. -/
def DrawnRow (w : World) (e : Ending) (w' : World) : Prop :=
  ∃ (s : Int) (b n cap : Nat) (l : List Int), e = .returned (.tuple #[.slice (some ⟨b, 0, none⟩) n cap, .int .i64 s]) ∧ Nums .i64 w' (some ⟨b, 0, none⟩) n cap l ∧ n ≤ 1000 ∧ Below w.heap.size w w'
set_option maxRecDepth 4000 in
set_option maxHeartbeats 2000000 in
theorem drawSlideOps_any (a : Option Addr) (n cap : Nat) (l : List Int) (w : World) (h : Bytes w a n cap l) :
    Calls Try.prog 18 #[.slice a n cap] w (DrawnRow w) := by
  have HB := Lib.hid h; clear h
  go_enter Try.func18, Try.ntmps18
  go_wp2_with fail
  refine (drawFoldItems_any _ _ _ l _ HB.out).mono ?_
  rintro e w1 ⟨k, b, m, mc, l', rfl, hN, hm1000, hb1⟩
  have hs1 := hb1.size
  have HN := Lib.hid hN; clear hN
  have HW1 := Lib.hid hb1
  have HB1 := Lib.hid (HB.out.below hb1)
  clear hb1
  go_wp2_with fail
  refine (open_any _ _ _ l _ HB1.out).mono ?_
  rintro e w2 ⟨c, rfl, hr, hb2⟩
  have hs2 := hb2.size
  have hBc := hr.1
  have HR := Lib.hid hr; clear hr
  have HV2 := Lib.hid hb2
  clear hb2
  go_wp2_with fail
  refine (num_any w2.heap.size 7 [3, 1, 2, 5, 8, 0, 60] _ c _ _ (HR.out.kept (World.grownBy_alloc _ _ _)) (by omega) (ListAt.new w2 [3, 1, 2, 5, 8, 0, 60] _) (by have := HR.out.2.1; omega) (by decide) (by decide)).mono ?_
  rintro e w3 ⟨x, rfl, -, hr3, hg3⟩
  have hs3 := hg3.size
  simp at hs3
  have HV3 := Lib.hid ((HV2.out.alloc hs2 (.cells (([3, 1, 2, 5, 8, 0, 60] : List Int).map (Value.int .i64)).toArray 3)).trans (grown_below hg3 (by simp; omega) hBc))
  clear hr3 hg3
  go_wp2_with fail
  go_returns
  exact ⟨x, b, m, mc, l', rfl, HN.out.below HV3.out, hm1000, HW1.out.trans (HV3.out.mono hs1)⟩
set_option maxRecDepth 8000 in
set_option maxHeartbeats 2000000 in
theorem law_FnSlideOps (a : Option Addr) (n cap : Nat) (zs : List Int) (w : World) (hrow : IsRow .u8 w a n cap zs) :
    Calls Try.prog 5 #[.slice a n cap] w fun e w' => e = .returned (.bool true) ∧ Below w.heap.size w w' := by
  have HB := Lib.hid (Bytes.of_row hrow)
  have hm : cap ≤ 9223372036854775807 := HB.out.2.1
  have hnc : n ≤ cap := HB.out.1
  clear hrow
  by_cases hn : n ≤ 1048576
  · go_enter Try.func5, Try.ntmps5
    go_wp2_with fail
    refine (drawSlideOps_any _ _ _ _ _ HB.out).mono ?_
    rintro e w1 ⟨s, b, m, mc, l, rfl, hN, hm1000, hb1⟩
    have hs1 := hb1.size
    have hml : m ≤ mc := hN.2.1
    have hmc : mc ≤ 9223372036854775807 := by have := hN.2.2.1; unfold maxLen at this; omega
    have hll : l.length = m := hN.1
    have HN := Lib.hid hN
    have HW1 := Lib.hid hb1
    clear hN hb1
    have h3 := fun w h => slideOps_any (some ⟨b, 0, none⟩) m mc l s w h
    have h4 := fun w h => s_slideOps_any (some ⟨b, 0, none⟩) m mc l s w h
    obtain ⟨O, hO⟩ : ∃ O, O = Agg.sOpsOut l s := ⟨_, rfl⟩
    obtain ⟨oo, hoo⟩ : ∃ o, o = Agg.sOpsOk l s := ⟨_, rfl⟩
    rw [← hO, ← hoo] at h3 h4
    have H3 := Lib.hid h3
    have H4 := Lib.hid h4
    have HOS := Lib.hid hO
    have HOO := Lib.hid hoo
    have HLL := Lib.hid hll
    clear h3 h4 hO hoo hll
    go_wp2_with fail
    refine (H3.out _ HN.out).mono ?_
    rintro e w2 ⟨v2, n2, rfl, r2, hb2⟩
    obtain ⟨a2, c2, rfl, hp2⟩ := r2.ops
    have HP2 := Lib.hid hp2
    have HN2 := Lib.hid (HN.out.below hb2)
    have HW2 := Lib.hid (HW1.out.trans (hb2.mono hs1))
    clear hb2 r2 H3 HN HW1
    go_wp2_with fail
    refine (H4.out _ HN2.out).mono ?_
    rintro e w3 ⟨v3, n3, rfl, r3, hb3⟩
    obtain ⟨a3, c3, rfl, hp3⟩ := r3.ops
    obtain rfl : n3 = n2 := by rw [← hp3.1, ← hp2.1]
    have hl2 : O.length = n3 := hp2.1
    have HL2 := Lib.hid hl2
    have hnc2 : n3 ≤ c2 := hp2.2.1
    have hc2 : c2 ≤ 9223372036854775807 := by have := hp2.2.2.1; unfold maxLen at this; omega
    have hnc3 : n3 ≤ c3 := hp3.2.1
    have hc3 : c3 ≤ 9223372036854775807 := by have := hp3.2.2.1; unfold maxLen at this; omega
    have HP3 := Lib.hid hp3
    have HQ2 := Lib.hid (HP2.out.below hb3)
    have HN3 := Lib.hid (HN2.out.below hb3)
    have HW3 := Lib.hid (HW2.out.trans (hb3.mono HW2.out.size))
    clear hb3 r3 H4 HN2 HW2 HP2 hp2 hp3 hl2
    cases oo
    · go_wp2_with fail
      go_returns
      exact ⟨by first | rfl | simp, HW3.out⟩
    · have hok2 := HOO.out.symm
      simp only [Agg.sOpsOk, Bool.and_eq_true, decide_eq_true_eq] at hok2
      obtain ⟨hi, h1, h59⟩ := hok2
      obtain ⟨sn, rfl⟩ := Int.eq_ofNat_of_zero_le (show 0 ≤ s by omega)
      have hOO : O = Agg.sOps l sn l.length := by rw [HOS.out, Agg.sOpsOut, ← HOO.out, if_pos rfl, Int.toNat_natCast]
      obtain ⟨hgo, hgl⟩ := Agg.slide_ops hi (s := sn) (by omega) (by omega)
      have hla := Agg.slide_last hi (s := sn) (by omega) (by omega)
      rw [← hOO] at hgo hla
      have hWA := fun w h => windowAfter_any a2 n3 c2 O w h
      rw [hgo, hla, HLL.out] at hWA
      have HWA := Lib.hid hWA
      obtain ⟨TX, hTX⟩ : ∃ TX : ByteArray, TX = ⟨(Agg.textOut O).toArray⟩ := ⟨_, rfl⟩
      have hF1 := fun w h => formatOps_any a2 n3 c2 O w h
      have hF2 := fun w h => s_formatOps_any a3 n3 c3 O w h
      rw [← hTX] at hF1 hF2
      have HF1 := Lib.hid hF1
      have HF2 := Lib.hid hF2
      have hm60 : m ≤ 60 := by have := Agg.items_len hi; have := HLL.out; omega
      clear hWA hF1 hF2 hTX hla hgo hgl hOO hi HOS HOO
      go_wp2_with fail
      refine (HWA.out _ HQ2.out).mono ?_
      rintro e w4 ⟨v4, n4, rfl, r4, hb4⟩
      obtain ⟨a4, c4, rfl, hp4, hl4⟩ := r4.nums
      have HP4 := Lib.hid hp4
      have hn4 : n4 = min m sn := by rw [← hl4, List.length_drop, HLL.out]; omega
      have HQ4 := Lib.hid (HQ2.out.below hb4)
      have HR4 := Lib.hid (HP3.out.below hb4)
      have HN4 := Lib.hid (HN3.out.below hb4)
      have HW4 := Lib.hid (HW3.out.trans (hb4.mono HW3.out.size))
      clear hb4 r4 hp4 hl4 HWA HQ2 HP3 HN3 HW3
      have HN40 := Lib.hid hn4
      clear hn4
      by_cases hms : sn < m
      · have hms' : (sn : Int) < (m : Int) := by omega
        have hlo : (0 : Int) ≤ (m : Int) - (sn : Int) := by omega
        obtain ⟨q, hq⟩ : ∃ q : Nat, (m : Int) - (sn : Int) = (q : Int) := ⟨m - sn, by omega⟩
        have hqm : q < m := by omega
        have HQ := Lib.hid hq
        go_wp2_with fail
        refine (HF1.out _ HQ4.out).mono ?_
        rintro e w5 ⟨rfl, hb5⟩
        have HR5 := Lib.hid (HR4.out.below hb5)
        have HN5 := Lib.hid (HN4.out.below hb5)
        have HP5 := Lib.hid (HP4.out.below hb5)
        have HW5 := Lib.hid (HW4.out.trans (hb5.mono HW4.out.size))
        clear hb5
        go_wp2_with fail
        refine (HF2.out _ HR5.out).mono ?_
        rintro e w6 ⟨rfl, hb6⟩
        have HN6 := Lib.hid (HN5.out.below hb6)
        have HP6 := Lib.hid (HP5.out.below hb6)
        have HW6 := Lib.hid (HW5.out.trans (hb6.mono HW5.out.size))
        clear hb6
        have HS6 := Lib.hid (Nums.sub_so HN6.out (i := q) (s := m - q) (by omega))
        have hqq : m - min m sn = q := by have := HQ.out; omega
        have hn4q : n4 = m - q := by have := HN40.out; omega
        have hdt : (l.drop q).take (m - q) = l.drop q := List.take_of_length_le (by have := HLL.out; simp; omega)
        have HS7 := Lib.hid (by have := HS6.out; rw [hdt, Nat.zero_add] at this; exact this)
        have HP7 := Lib.hid (by have := HP6.out; rw [hqq] at this; exact this)
        subst hn4q
        clear hqq hdt HS6
        go_wp2_with fail
        refine (waInts_same _ _ _ _ _ _ (l.drop q) _ HP7.out HS7.out).mono ?_
        rintro e w7 ⟨rfl, hb7⟩
        have HW7 := Lib.hid (HW6.out.trans (hb7.mono HW6.out.size))
        clear hb7
        go_wp2_with fail
        go_returns
        exact ⟨by first | rfl | simp, HW7.out⟩
      · have hms' : ¬ ((sn : Int) < (m : Int)) := by omega
        go_wp2_with fail
        refine (HF1.out _ HQ4.out).mono ?_
        rintro e w5 ⟨rfl, hb5⟩
        have HR5 := Lib.hid (HR4.out.below hb5)
        have HN5 := Lib.hid (HN4.out.below hb5)
        have HP5 := Lib.hid (HP4.out.below hb5)
        have HW5 := Lib.hid (HW4.out.trans (hb5.mono HW4.out.size))
        clear hb5
        go_wp2_with fail
        refine (HF2.out _ HR5.out).mono ?_
        rintro e w6 ⟨rfl, hb6⟩
        have HN6 := Lib.hid (HN5.out.below hb6)
        have HP6 := Lib.hid (HP5.out.below hb6)
        have HW6 := Lib.hid (HW5.out.trans (hb6.mono HW5.out.size))
        clear hb6
        have hn4q : n4 = m := by have := HN40.out; omega
        subst hn4q
        have HP7 := Lib.hid (by have := HP6.out; rw [show n4 - min n4 sn = 0 by omega, List.drop_zero] at this; exact this)
        by_cases hmc0 : mc = 0
        · subst hmc0
          obtain rfl : n4 = 0 := by omega
          go_wp2_with fail
          refine (waInts_same _ _ _ _ _ _ l _ HP7.out (by have := HN6.out; exact ⟨this.1, this.2.1, this.2.2.1, .inl rfl⟩)).mono ?_
          rintro e w7 ⟨rfl, hb7⟩
          have HW7 := Lib.hid (HW6.out.trans (hb7.mono HW6.out.size))
          clear hb7
          go_wp2_with fail
          go_returns
          exact ⟨by first | rfl | simp, HW7.out⟩
        · go_wp2_with fail
          refine (waInts_same _ _ _ _ _ _ l _ HP7.out HN6.out).mono ?_
          rintro e w7 ⟨rfl, hb7⟩
          have HW7 := Lib.hid (HW6.out.trans (hb7.mono HW6.out.size))
          clear hb7
          go_wp2_with fail
          go_returns
          exact ⟨by first | rfl | simp, HW7.out⟩
  · go_enter Try.func5, Try.ntmps5
    go_wp2
    go_returns
    exact ⟨rfl, Below.refl _ _⟩
end Go.Proofs.Ythkokeeciicdnaa
