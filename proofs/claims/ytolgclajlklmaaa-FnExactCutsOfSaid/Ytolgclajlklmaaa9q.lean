/-
  The exact law of CutsOf, walked.
-/
import Derived.Test.Ytolgclajlklmaaa9l
import Derived.Test.Ytolgclajlklmaaa9n
namespace Go.Proofs.Ytolgclajlklmaaa
set_option linter.unusedSimpArgs false
set_option linter.unusedVariables false
open Go.RowKit
theorem cuts_bound (m : Int) (l : List (Int × Int)) : (Agg.cutsOut m l).length ≤ 100 := by
  unfold Agg.cutsOut
  cases h : Agg.cutsOk m l
  · simp
  · simp only [Agg.cutsOk, Bool.and_eq_true, decide_eq_true_eq] at h
    have := Agg.cutsN_len m.toNat l
    simp only [if_true]
    omega
set_option maxRecDepth 8000 in
set_option maxHeartbeats 4000000 in
theorem law_FnExactCutsOf (a : Option Addr) (n cap : Nat) (l : List (Int × Int)) (m : Int) (w : World) (h : Qrs w a n cap l) :
    Calls Try.prog 10 #[.slice a n cap, .int .i64 m] w fun e w' => e = .returned (.bool true) ∧ Below w.heap.size w w' := by
  have hm : cap ≤ 9223372036854775807 := by have := h.2.2.1; unfold maxLen at this; omega
  have hnc : n ≤ cap := h.2.1
  have H0 := Lib.hid h
  clear h
  by_cases hn : n ≤ 1048576
  · have hbd := cuts_bound m l
    have h1 := fun a cap w h => s_cutsOf_any a n cap l m w h
    have h2 := fun a cap w h => cutsOf_any a n cap l m w h
    obtain ⟨R, hR⟩ : ∃ R, R = Agg.cutsOut m l := ⟨_, rfl⟩
    obtain ⟨b, hb⟩ : ∃ b, b = Agg.cutsOk m l := ⟨_, rfl⟩
    rw [← hR, ← hb] at h1 h2
    rw [← hR] at hbd
    have H1 := Lib.hid h1
    have H2 := Lib.hid h2
    have HBD := Lib.hid hbd
    clear h1 h2 hR hb hbd
    have hge : ¬ ((1048576 : Int) - (n : Int) < 0) := by omega
    have hkp : ¬ ((1 : Int) + 2 * (n : Int) < 0) := by omega
    have HSZ := Lib.hid (szQueryS_big a n cap w (by omega))
    have HB := Lib.hid (Below.refl w.heap.size w)
    go_enter Try.func10, Try.ntmps10
    go_wp2_with fail
    refine HSZ.out.mono ?_
    rintro e wz ⟨rfl, rfl⟩
    clear HSZ
    go_wp2_with fail
    refine (toQueryS_own _ _ _ l _ (H0.out.below HB.out) hn).mono ?_
    rintro e w1 ⟨v1, rfl, r1, hb1⟩
    obtain ⟨a1, c1, rfl, hN1⟩ := r1.ops
    have HN1 := Lib.hid hN1
    clear r1 hN1
    have HB := Lib.hid (HB.out.trans (hb1.mono HB.out.size))
    clear hb1
    go_wp2_with fail
    refine (H1.out _ _ _ HN1.out).mono ?_
    rintro e w2 ⟨u2, n2, rfl, ru2, hb2⟩
    have U2 := Lib.hid ru2
    have z2 : w1.heap.size ≤ w2.heap.size := hb2.size
    have HB0 := Lib.hid (show w.heap.size ≤ w2.heap.size from Nat.le_trans HB.out.size hb2.size)
    clear ru2 HN1
    have HB := Lib.hid (HB.out.trans (hb2.mono HB.out.size))
    clear hb2
    go_wp2_with fail
    refine (toQueryS_own _ _ _ l _ (H0.out.below HB.out) hn).mono ?_
    rintro e w3 ⟨v3, rfl, r3, hb3⟩
    obtain ⟨a3, c3, rfl, hN3⟩ := r3.ops
    have HN3 := Lib.hid hN3
    have X3 := Lib.hid r3
    have z3 : w2.heap.size ≤ w3.heap.size := hb3.size
    clear r3 hN3
    have U2 := Lib.hid (U2.out.below hb3)
    have HB := Lib.hid (HB.out.trans (hb3.mono HB.out.size))
    clear hb3
    go_wp2_with fail
    refine (H2.out _ _ _ HN3.out).mono ?_
    rintro e w5 ⟨u5, n5, rfl, r5, hb5⟩
    have U5 := Lib.hid r5
    have z5 : w3.heap.size ≤ w5.heap.size := hb5.size
    clear r5 HN3
    have U2 := Lib.hid (U2.out.below hb5)
    have X3 := Lib.hid (X3.out.below hb5)
    have HB := Lib.hid (HB.out.trans (hb5.mono HB.out.size))
    clear hb5
    cases b
    all_goals
      go_wp2_with fail
      refine (eqIntS_own _ U5.out U2.out).mono ?_
      rintro e w6 ⟨rfl, hbe⟩
      have U2 := Lib.hid (U2.out.below hbe)
      have X3 := Lib.hid (X3.out.below hbe)
      have U5 := Lib.hid (U5.out.below hbe)
      have HB := Lib.hid (HB.out.trans (hbe.mono HB.out.size))
      clear hbe
      go_wp2_with fail
      refine (toQueryS_own _ _ _ l _ (H0.out.below HB.out) hn).mono ?_
      rintro e w7 ⟨v7, rfl, r7, hb7⟩
      have X7 := Lib.hid r7
      clear r7
      have U2 := Lib.hid (U2.out.below hb7)
      have X3 := Lib.hid (X3.out.below hb7)
      have U5 := Lib.hid (U5.out.below hb7)
      have HB := Lib.hid (HB.out.trans (hb7.mono HB.out.size))
      clear hb7
      go_wp2_with fail
      refine (eqQueryS_own _ X3.out X7.out).mono ?_
      rintro e w8 ⟨rfl, hbe⟩
      have U2 := Lib.hid (U2.out.below hbe)
      have X3 := Lib.hid (X3.out.below hbe)
      have U5 := Lib.hid (U5.out.below hbe)
      have HB := Lib.hid (HB.out.trans (hbe.mono HB.out.size))
      clear hbe
      clear X7
      go_wp2_with fail
      refine (markQueryS_own _ 1 X3.out (by omega) (by omega) hn).mono ?_
      rintro e w9 ⟨rfl, -, hg9⟩
      have hblk : ∀ j, (Value.slice a3 n c3).ownBlock = some j → w2.heap.size ≤ j ∧ j < w3.heap.size := fun j hj => ⟨(X3.out.1.lt j hj).1, X3.out.2.2.2 j hj⟩
      have hb0 := HB0.out
      have U2 := Lib.hid (U2.out.kept hg9 (fun j hj => by have := hblk j hj; omega))
      have U5 := Lib.hid (U5.out.kept hg9 (fun j hj => by have := hblk j hj; omega))
      have HB := Lib.hid (HB.out.grown hg9 HB.out.size (fun j hj => by have := hblk j hj; omega))
      clear hg9 hblk X3
      go_wp2_with fail
      refine (eqIntS_own _ U5.out U2.out).mono ?_
      rintro e w10 ⟨rfl, hbe⟩
      have U2 := Lib.hid (U2.out.below hbe)
      have U5 := Lib.hid (U5.out.below hbe)
      have HB := Lib.hid (HB.out.trans (hbe.mono HB.out.size))
      clear hbe
      have hn5 : n5 ≤ 100 := by obtain ⟨_, _, _, _, hl⟩ := U5.out.nums; have := HBD.out; omega
      go_wp2_with fail
      refine (markIntS_own _ 1 U5.out (by omega) (by omega) (by omega)).mono ?_
      rintro e w13 ⟨rfl, rm, hg13⟩
      have hblk : ∀ j, u5.ownBlock = some j → w3.heap.size ≤ j ∧ j < w5.heap.size := fun j hj => ⟨(U5.out.1.lt j hj).1, U5.out.2.2.2 j hj⟩
      have U2 := Lib.hid (U2.out.kept hg13 (fun j hj => by have := hblk j hj; omega))
      have U5 := Lib.hid rm
      have HB := Lib.hid (HB.out.grown hg13 HB.out.size (fun j hj => by have := hblk j hj; omega))
      clear hg13 hblk rm
      have hn14 : ¬ ((1 : Int) + (n5 : Int) < 0) := by omega
      go_wp2_with fail
      refine (heldIntS_own _ 1 U5.out (by omega) (by omega) (by omega)).mono ?_
      rintro e w14 ⟨rfl, hbe⟩
      have U2 := Lib.hid (U2.out.below hbe)
      have U5 := Lib.hid (U5.out.below hbe)
      have HB := Lib.hid (HB.out.trans (hbe.mono HB.out.size))
      clear hbe
      go_wp2_with fail
      refine (toQueryS_own _ _ _ l _ (H0.out.below HB.out) hn).mono ?_
      rintro e w16 ⟨v16, rfl, r16, hb16⟩
      obtain ⟨a16, c16, rfl, hN16⟩ := r16.ops
      have HN16 := Lib.hid hN16
      clear r16 hN16
      have U2 := Lib.hid (U2.out.below hb16)
      have U5 := Lib.hid (U5.out.below hb16)
      have HB := Lib.hid (HB.out.trans (hb16.mono HB.out.size))
      clear hb16
      go_wp2_with fail
      refine (H2.out _ _ _ HN16.out).mono ?_
      rintro e w17 ⟨u17, n17, rfl, ru17, hb17⟩
      have U17 := Lib.hid ru17
      clear ru17 HN16
      have U2 := Lib.hid (U2.out.below hb17)
      have U5 := Lib.hid (U5.out.below hb17)
      have HB := Lib.hid (HB.out.trans (hb17.mono HB.out.size))
      clear hb17
      go_wp2_with fail
      refine (eqIntS_own _ U17.out U2.out).mono ?_
      rintro e w18 ⟨rfl, hbe⟩
      have U5 := Lib.hid (U5.out.below hbe)
      have HB := Lib.hid (HB.out.trans (hbe.mono HB.out.size))
      clear hbe
      go_wp2_with fail
      refine (heldIntS_own _ 1 U5.out (by omega) (by omega) (by omega)).mono ?_
      rintro e w19 ⟨rfl, hbe⟩
      have HB := Lib.hid (HB.out.trans (hbe.mono HB.out.size))
      clear hbe
      go_wp2_with fail
      go_returns
      exact ⟨rfl, HB.out⟩
  · have HSZ := Lib.hid (szQueryS_neg a n cap w (by omega) (by omega))
    go_enter Try.func10, Try.ntmps10
    go_wp2_with fail
    refine HSZ.out.mono ?_
    rintro e wz ⟨rfl, rfl⟩
    go_wp2
    go_returns
    exact ⟨rfl, Below.refl _ _⟩
end Go.Proofs.Ytolgclajlklmaaa
