/-
  The exact law of FoldItems, walked.
-/
import Derived.Test.YtelhbphlmohclaaM
import Derived.Test.YtelhbphlmohclaaT
import Derived.Test.YtelhbphlmohclaaW
namespace Go.Proofs.Ytelhbphlmohclaa
set_option linter.unusedSimpArgs false
set_option linter.unusedVariables false
open Go.RowKit
set_option maxHeartbeats 4000000 in
theorem law_FnExactFoldItems (k : Int) (a : Option Addr) (n cap : Nat) (zs : List Int) (w : World) (hrow : IsRow .i64 w a n cap zs) :
    Calls Try.prog 11 #[.int .i64 k, .slice a n cap] w fun e w' => e = .returned (.bool true) ∧ Below w.heap.size w w' := by
  have h0 := Nums.of_row hrow
  have hm : cap ≤ 9223372036854775807 := by have := h0.2.2.1; unfold maxLen at this; omega
  have hnc : n ≤ cap := h0.2.1
  by_cases hn : n ≤ 1048576
  · obtain ⟨l, hl⟩ : ∃ l, l = zs.take n := ⟨_, rfl⟩
    rw [← hl] at h0
    clear hl hrow
    obtain ⟨⟨v, b⟩, hb⟩ : ∃ p, p = Agg.aFold k l := ⟨_, rfl⟩
    have h1 := fun a n cap w => s_foldItems_any k a n cap l w
    have h2 := fun a n cap w => foldItems_any k a n cap l w
    rw [← hb] at h1 h2
    have H1 := Lib.hid h1
    have H2 := Lib.hid h2
    clear h1 h2 hb
    have H0 := Lib.hid h0; clear h0
    cases b
    all_goals
      go_enter Try.func11, Try.ntmps11
      go_wp2_with fail
      refine (toIntS_any _ _ _ l _ H0.out hn).mono ?_
      rintro e w1 ⟨b1, rfl, hn1, hb1, -⟩
      have HN1 := Lib.hid hn1; clear hn1
      go_wp2_with fail
      refine (H1.out _ _ _ _ HN1.out).mono ?_
      rintro e w2 ⟨rfl, hb2⟩
      have hB2 : Below w.heap.size w w2 := hb1.trans (hb2.mono hb1.size)
      have hs2 := hB2.size
      clear hb1 hb2
      go_wp2_with fail
      refine (toIntS_any _ _ _ l _ (H0.out.below (by go_grown)) hn).mono ?_
      rintro e w3 ⟨b3, rfl, hn3, hb3, -⟩
      have HN3 := Lib.hid hn3; clear hn3
      obtain ⟨hc3, hf3⟩ := bcell hb3
      have hz3 : w2.heap.size < w3.heap.size := by have := hb3.size; simp at this; omega
      have hB3 : Below w.heap.size w w3 := Below.trans (by go_grown) (hb3.mono (by have := hB2.size; simp; omega))
      have hs3 := hB3.size
      clear hb3
      go_wp2_with fail
      refine (H2.out _ _ _ _ HN3.out).mono ?_
      rintro e w4 ⟨rfl, hb4⟩
      have HN4 := Lib.hid (HN3.out.below hb4)
      obtain ⟨hc4, hf4⟩ := bcell hb4
      have hz4 : w2.heap.size < w4.heap.size := by have := hb4.size; omega
      have hB4 : Below w.heap.size w w4 := hB3.trans (hb4.mono hB3.size)
      have hs4 := hB4.size
      clear hb4
      go_wp2_with fail
      refine (eqValue_same _ _ _ _).mono ?_
      rintro e w5 ⟨rfl, hb5⟩
      have HN5 := Lib.hid (Nums.below (Nums.below HN4.out (by go_grown)) hb5)
      have hB5 : Below w.heap.size w w5 := Below.trans (by go_grown) (hb5.mono (by have := hB4.size; simp; omega))
      have hs5 := hB5.size
      clear hb5 hc3 hc4 hf3 hf4
      go_wp2_with fail
      refine (toIntS_any _ _ _ l _ (H0.out.below (by go_grown)) hn).mono ?_
      rintro e w6 ⟨b6, rfl, hn6, hb6, -⟩
      have HN6 := Lib.hid (HN5.out.below hb6)
      have HM6 := Lib.hid hn6; clear hn6
      have hB6 : Below w.heap.size w w6 := hB5.trans (hb6.mono hB5.size)
      have hs6 := hB6.size
      clear hb6
      go_wp2_with fail
      refine (eqIntS_same _ _ _ _ _ _ l _ HN6.out HM6.out).mono ?_
      rintro e w7 ⟨rfl, hb7⟩
      go_wp2_with fail
      go_returns
      exact ⟨rfl, hB6.trans (hb7.mono hB6.size)⟩
  · go_enter Try.func11, Try.ntmps11
    go_wp2
    go_returns
    exact ⟨rfl, Below.refl _ _⟩
end Go.Proofs.Ytelhbphlmohclaa
