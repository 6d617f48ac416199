/-
  The exact law of SharedCosts, walked.
-/
import Derived.Test.Ytolgclajlklmaaa9p
import Derived.Test.Ytolgclajlklmaaa9s
namespace Go.Proofs.Ytolgclajlklmaaa
set_option linter.unusedSimpArgs false
set_option linter.unusedVariables false
open Go.RowKit
set_option maxRecDepth 8000 in
set_option maxHeartbeats 4000000 in
theorem law_FnExactSharedCosts (a : Option Addr) (n cap : Nat) (l : List (Int × Int)) (m : Int) (w : World) (h : Qrs w a n cap l) :
    Calls Try.prog 11 #[.slice a n cap, .int .i64 m] w fun e w' => e = .returned (.bool true) ∧ Below w.heap.size w w' := by
  have hm : cap ≤ 9223372036854775807 := by have := h.2.2.1; unfold maxLen at this; omega
  have hnc : n ≤ cap := h.2.1
  have H0 := Lib.hid h; clear h
  by_cases hn : n ≤ 1048576
  · have h1 := fun a cap w h => s_sharedCosts_any a n cap l m w h
    have h2 := fun a cap w h => sharedCosts_any a n cap l m w h
    obtain ⟨b, hb⟩ : ∃ b, b = Agg.cutsOk m l := ⟨_, rfl⟩
    obtain ⟨⟨r1, r2⟩, hr⟩ : ∃ r, r = Agg.sharedA m l := ⟨_, rfl⟩
    rw [← hb, ← hr] at h1 h2
    have H1 := Lib.hid h1
    have H2 := Lib.hid h2
    clear h1 h2 hb hr
    have hge : ¬ ((1048576 : Int) - (n : Int) < 0) := by omega
    have HSZ := Lib.hid (szQueryS_big a n cap w (by omega))
    go_enter Try.func11, Try.ntmps11
    go_wp2_with fail
    refine HSZ.out.mono ?_
    rintro e wz ⟨rfl, rfl⟩
    clear HSZ
    go_wp2_with fail
    refine (toQueryS_own _ _ _ l _ H0.out hn).mono ?_
    rintro e w1 ⟨v1, rfl, r1', hb1⟩
    obtain ⟨a1, c1, rfl, hN1⟩ := r1'.ops
    have HN1 := Lib.hid hN1
    have HB1 := Lib.hid hb1
    clear r1' hN1 hb1
    go_wp2_with fail
    refine (H1.out _ _ _ HN1.out).mono ?_
    rintro e w2 ⟨rfl, hb2⟩
    have HB2 := Lib.hid (HB1.out.trans (hb2.mono HB1.out.size))
    have h20 := HB2.out.size
    clear hb2 HN1 HB1
    go_wp2_with fail
    refine (toQueryS_own _ _ _ l _ (H0.out.below HB2.out) hn).mono ?_
    rintro e w3 ⟨v3, rfl, r3, hb3⟩
    obtain ⟨a3, c3, rfl, hN3⟩ := r3.ops
    have h32 := hb3.size
    have HN3 := Lib.hid hN3
    have R3 := Lib.hid r3
    have HB3 := Lib.hid (HB2.out.trans (hb3.mono h20))
    clear r3 hN3 hb3 HB2
    go_wp2_with fail
    refine (H2.out _ _ _ HN3.out).mono ?_
    rintro e w4 ⟨rfl, hb4⟩
    have h43 := hb4.size
    have R34 := Lib.hid (R3.out.below hb4)
    have HB4 := Lib.hid (HB3.out.trans (hb4.mono (by omega)))
    clear hb4 HN3 R3 HB3
    cases b
    all_goals
      go_wp2_with fail
      refine (toQueryS_own _ _ _ l _ (H0.out.below HB4.out) hn).mono ?_
      rintro e w6 ⟨v6, rfl, r6, hb6⟩
      have h64 := hb6.size
      have R36 := Lib.hid (R34.out.below hb6)
      have R66 := Lib.hid r6
      have HB6 := Lib.hid (HB4.out.trans (hb6.mono (by omega)))
      clear r6 hb6 R34 HB4
      go_wp2_with fail
      refine (eqQueryS_own _ R36.out R66.out).mono ?_
      rintro e w7 ⟨rfl, hb7⟩
      have HB7 := Lib.hid (HB6.out.trans (hb7.mono (by omega)))
      clear hb7
      go_wp2_with fail
      go_returns
      exact ⟨rfl, HB7.out⟩
  · have HSZ := Lib.hid (szQueryS_neg a n cap w (by omega) (by omega))
    go_enter Try.func11, Try.ntmps11
    go_wp2_with fail
    refine HSZ.out.mono ?_
    rintro e wz ⟨rfl, rfl⟩
    go_wp2
    go_returns
    exact ⟨rfl, Below.refl _ _⟩
end Go.Proofs.Ytolgclajlklmaaa
