/-
  The exact law of SlideNumbers, walked.
-/
import Derived.Test.Ytmlkdbmhekiniaa2s
namespace Go.Proofs.Ytmlkdbmhekiniaa
set_option linter.unusedSimpArgs false
set_option linter.unusedVariables false
open Go.RowKit
theorem Agg.slideOut_len (k : Int) (l : List Int) (s : Int) : (Agg.slideOut k l s).length ≤ 61 := by
  unfold Agg.slideOut
  split
  · rename_i h
    simp only [Agg.slideOk, Bool.and_eq_true] at h
    have := Agg.items_len h.1.2
    rw [Agg.slides_len]; omega
  · simp
set_option maxHeartbeats 4000000 in
theorem law_FnExactSlideNumbers (k : Int) (a : Option Addr) (n cap : Nat) (zs : List Int) (size : Int) (w : World) (hrow : IsRow .i64 w a n cap zs) :
    Calls Try.prog 3 #[.int .i64 k, .slice a n cap, .int .i64 size] w fun e w' => e = .returned (.bool true) ∧ Below w.heap.size w w' := by
  have h0 := Nums.of_row hrow
  have hm : cap ≤ 9223372036854775807 := by have := h0.2.2.1; unfold maxLen at this; omega
  have hnc : n ≤ cap := h0.2.1
  by_cases hn : n ≤ 1048576
  · obtain ⟨l, hl⟩ : ∃ l, l = zs.take n := ⟨_, rfl⟩
    rw [← hl] at h0
    clear hl hrow
    have H0 := Lib.hid h0; clear h0
    have hlen := Agg.slideOut_len k l size
    have h1 := fun a n cap w => s_slideNumbers_any k a n cap l size w
    have h2 := fun a n cap w => slideNumbers_any k a n cap l size w
    obtain ⟨S, hS⟩ : ∃ S, S = Agg.slideOut k l size := ⟨_, rfl⟩
    obtain ⟨b, hb⟩ : ∃ b, b = Agg.slideOk k l size := ⟨_, rfl⟩
    rw [← hS, ← hb] at h1 h2
    rw [← hS] at hlen
    have H1 := Lib.hid h1
    have H2 := Lib.hid h2
    have HL := Lib.hid hlen
    clear h1 h2 hS hb hlen
    go_enter Try.func3, Try.ntmps3
    go_wp2_with fail
    refine (toIntS_own _ _ _ l _ H0.out hn).mono ?_
    rintro e w1 ⟨v1, rfl, r1, hb1⟩
    obtain ⟨a1, c1, rfl, hN1, -⟩ := r1.nums
    have HN1 := Lib.hid hN1
    have HB1 := Lib.hid hb1
    clear r1 hN1 hb1
    go_wp2_with fail
    refine (H1.out _ _ _ _ HN1.out).mono ?_
    rintro e w2 ⟨v2, n2, rfl, r2, hb2⟩
    have HB2 := Lib.hid (HB1.out.trans (hb2.mono HB1.out.size))
    have h20 := HB2.out.size
    have R2 := Lib.hid (show OwnR w2 w.heap.size w2.heap.size v2 n2 S from ⟨owns_lower r2.1 HB1.out.size, h20, Nat.le_refl _, r2.2.2.2⟩)
    clear r2 hb2 HN1 HB1
    go_wp2_with fail
    refine (toIntS_own _ _ _ l _ (H0.out.below HB2.out) hn).mono ?_
    rintro e w3 ⟨v3, rfl, r3, hb3⟩
    obtain ⟨a3, c3, rfl, hN3, -⟩ := r3.nums
    have h32 := hb3.size
    have HN3 := Lib.hid hN3
    have R3 := Lib.hid r3
    have R23 := Lib.hid (R2.out.below hb3)
    have HB3 := Lib.hid (HB2.out.trans (hb3.mono h20))
    clear r3 hN3 hb3 R2 HB2
    go_wp2_with fail
    refine (H2.out _ _ _ _ HN3.out).mono ?_
    rintro e w4 ⟨v4, n4, rfl, r4, hb4⟩
    have h43 := hb4.size
    have R24 := Lib.hid (R23.out.below hb4)
    have R34 := Lib.hid (R3.out.below hb4)
    have R44 := Lib.hid r4
    have HB4 := Lib.hid (HB3.out.trans (hb4.mono (by omega)))
    clear r4 hb4 HN3 R23 R3 HB3
    go_wp2_with fail
    refine (eqIntS_own _ R44.out R24.out).mono ?_
    rintro e w5 ⟨rfl, hb5⟩
    have h54 := hb5.size
    have R25 := Lib.hid (R24.out.below hb5)
    have R35 := Lib.hid (R34.out.below hb5)
    have R45 := Lib.hid (R44.out.below hb5)
    have HB5 := Lib.hid (HB4.out.trans (hb5.mono (by omega)))
    clear hb5 R24 R34 R44 HB4
    go_wp2_with fail
    refine (toIntS_own _ _ _ l _ (H0.out.below HB5.out) hn).mono ?_
    rintro e w6 ⟨v6, rfl, r6, hb6⟩
    have h65 := hb6.size
    have R26 := Lib.hid (R25.out.below hb6)
    have R36 := Lib.hid (R35.out.below hb6)
    have R46 := Lib.hid (R45.out.below hb6)
    have R66 := Lib.hid r6
    have HB6 := Lib.hid (HB5.out.trans (hb6.mono (by omega)))
    clear r6 hb6 R25 R35 R45 HB5
    go_wp2_with fail
    refine (eqIntS_own _ R36.out R66.out).mono ?_
    rintro e w7 ⟨rfl, hb7⟩
    have h76 := hb7.size
    have R27 := Lib.hid (R26.out.below hb7)
    have R37 := Lib.hid (R36.out.below hb7)
    have R47 := Lib.hid (R46.out.below hb7)
    have HB7 := Lib.hid (HB6.out.trans (hb7.mono (by omega)))
    clear hb7 R26 R36 R46 R66 HB6
    go_wp2_with fail
    refine (markIntS_own _ 1 R37.out (by omega) (by omega) hn).mono ?_
    rintro e w8 ⟨rfl, r8, hg8⟩
    have h87 := hg8.size
    have hblk3 : ∀ j, (Value.slice a3 n c3).ownBlock = some j → w2.heap.size ≤ j ∧ j < w3.heap.size := fun j hj => ⟨(R37.out.1.lt j hj).1, R37.out.2.2.2 j hj⟩
    have R28 := Lib.hid (R27.out.kept hg8 (fun j hj => by have := hblk3 j hj; omega))
    have R48 := Lib.hid (R47.out.kept hg8 (fun j hj => by have := hblk3 j hj; omega))
    have HB8 := Lib.hid (HB7.out.grown hg8 (by omega) (fun j hj => by have := hblk3 j hj; omega))
    clear r8 hg8 R27 R37 R47 HB7
    go_wp2_with fail
    refine (eqIntS_own _ R48.out R28.out).mono ?_
    rintro e w9 ⟨rfl, hb9⟩
    have h98 := hb9.size
    have R29 := Lib.hid (R28.out.below hb9)
    have R49 := Lib.hid (R48.out.below hb9)
    have HB9 := Lib.hid (HB8.out.trans (hb9.mono (by omega)))
    clear hb9 R28 R48 HB8
    have hn4 : n4 ≤ 61 := by
      obtain ⟨_, _, _, _, h⟩ := R49.out.nums
      have := HL.out
      omega
    go_wp2_with fail
    refine (markIntS_own _ 1 R49.out (by omega) (by omega) (by omega)).mono ?_
    rintro e w10 ⟨rfl, r10, hg10⟩
    have h109 := hg10.size
    have hblk4 : ∀ j, v4.ownBlock = some j → w3.heap.size ≤ j ∧ j < w4.heap.size := fun j hj => ⟨(R49.out.1.lt j hj).1, R49.out.2.2.2 j hj⟩
    have R210 := Lib.hid (R29.out.kept hg10 (fun j hj => by have := hblk4 j hj; omega))
    have R410 := Lib.hid r10
    have HB10 := Lib.hid (HB9.out.grown hg10 (by omega) (fun j hj => by have := hblk4 j hj; omega))
    clear r10 hg10 R29 R49 HB9
    go_wp2_with fail
    refine (heldIntS_own _ 1 R410.out (by omega) (by omega) (by omega)).mono ?_
    rintro e w11 ⟨rfl, hb11⟩
    have h1110 := hb11.size
    have R211 := Lib.hid (R210.out.below hb11)
    have R411 := Lib.hid (R410.out.below hb11)
    have HB11 := Lib.hid (HB10.out.trans (hb11.mono (by omega)))
    clear hb11 R210 R410 HB10
    go_wp2_with fail
    refine (toIntS_own _ _ _ l _ (H0.out.below HB11.out) hn).mono ?_
    rintro e w12 ⟨v12, rfl, r12, hb12⟩
    have h1211 := hb12.size
    obtain ⟨a12, c12, rfl, hN12, -⟩ := r12.nums
    have HN12 := Lib.hid hN12
    have R212 := Lib.hid (R211.out.below hb12)
    have R412 := Lib.hid (R411.out.below hb12)
    have HB12 := Lib.hid (HB11.out.trans (hb12.mono (by omega)))
    clear r12 hN12 hb12 R211 R411 HB11
    go_wp2_with fail
    refine (H2.out _ _ _ _ HN12.out).mono ?_
    rintro e w13 ⟨v13, n13, rfl, r13, hb13⟩
    have h1312 := hb13.size
    have R213 := Lib.hid (R212.out.below hb13)
    have R413 := Lib.hid (R412.out.below hb13)
    have R1313 := Lib.hid r13
    have HB13 := Lib.hid (HB12.out.trans (hb13.mono (by omega)))
    clear r13 hb13 R212 R412 HB12 HN12
    go_wp2_with fail
    refine (eqIntS_own _ R1313.out R213.out).mono ?_
    rintro e w14 ⟨rfl, hb14⟩
    have h1413 := hb14.size
    have R414 := Lib.hid (R413.out.below hb14)
    have HB14 := Lib.hid (HB13.out.trans (hb14.mono (by omega)))
    clear hb14 R213 R413 R1313 HB13
    go_wp2_with fail
    refine (heldIntS_own _ 1 R414.out (by omega) (by omega) (by omega)).mono ?_
    rintro e w15 ⟨rfl, hb15⟩
    have HB15 := Lib.hid (HB14.out.trans (hb15.mono (by omega)))
    clear hb15
    go_wp2_with fail
    go_returns
    exact ⟨rfl, HB15.out⟩
  · go_enter Try.func3, Try.ntmps3
    go_wp2
    go_returns
    exact ⟨rfl, Below.refl _ _⟩
end Go.Proofs.Ytmlkdbmhekiniaa
