/-
  Laws of chapter 1 about two aggregates, walked: FnCommutes, FnCombineGroups.
-/
import Derived.Test.YtkiafgppooacdaaDw
import Derived.Test.YtkiafgppooacdaaM
import Derived.Test.YtkiafgppooacdaaN
namespace Go.Proofs.Ytkiafgppooacdaa
set_option linter.unusedSimpArgs false
set_option linter.unusedVariables false
open Go.RowKit
set_option maxHeartbeats 8000000 in
theorem law_FnCommutes (a : Option Addr) (n cap : Nat) (zs : List Int) (w : World) (hrow : IsRow .u8 w a n cap zs) :
    Calls Try.prog 5 #[.slice a n cap] w fun e w' => e = .returned (.bool true) ∧ Below w.heap.size w w' := by
  have HB := Lib.hid (Bytes.of_row hrow)
  have hm : cap ≤ 9223372036854775807 := HB.out.2.1
  have hnc : n ≤ cap := HB.out.1
  clear hrow
  by_cases hn : n ≤ 1048576
  · go_enter Try.func5, Try.ntmps5
    go_wp2_with fail
    refine (drawCombineValues_any _ _ _ _ _ HB.out).mono ?_
    rintro e w1 ⟨k, ax, ay, az, bx, by', bz, rfl, fa, fb, hB1⟩
    have hs1 := hB1.size
    obtain ⟨hoo, hcc⟩ := Agg.aComb_back (k := k) fa fb
    clear fa fb
    obtain ⟨⟨⟨x, y, z⟩, o⟩, ho⟩ : ∃ p, p = Agg.aComb k ⟨ax, ay, az⟩ ⟨bx, by', bz⟩ := ⟨_, rfl⟩
    obtain ⟨⟨⟨x', y', z'⟩, o'⟩, ho'⟩ : ∃ p, p = Agg.aComb k ⟨bx, by', bz⟩ ⟨ax, ay, az⟩ := ⟨_, rfl⟩
    obtain ⟨c, hc⟩ : ∃ c, c = (Agg.isKind k && Agg.comm k) := ⟨_, rfl⟩
    have h1 := fun w => combineValues_any k ax ay az bx by' bz w
    have h2 := fun w => combineValues_any k bx by' bz ax ay az w
    have h3 := fun w => commutesOf_any k w
    have h4 := fun w => s_commutes_any k w
    rw [← ho] at h1 hoo hcc
    rw [← ho'] at h2 hoo hcc
    rw [← hc] at h3 h4 hcc
    simp only at hoo
    obtain rfl := hoo
    have H1 := Lib.hid h1
    have H2 := Lib.hid h2
    have H3 := Lib.hid h3
    have H4 := Lib.hid h4
    clear h1 h2 h3 h4 ho ho' hc
    go_wp2_with fail
    refine (H1.out _).mono ?_
    rintro e w2 ⟨rfl, hb2⟩
    obtain ⟨hc2, hf2⟩ := bcell hb2
    have hq2 := hb2.size
    (try simp at hq2)
    have hB2 : Below w.heap.size w w2 := Below.trans (by go_grown) (hb2.mono (by first | (simp; done) | omega | (simp; omega)))
    have hs2 := hB2.size
    (try have hy2_0_0 : w.heap.size < w2.heap.size := by omega)
    (try have hy2_0_1 : w.heap.size + 1 < w2.heap.size := by omega)
    (try have hy2_0_2 : w.heap.size + 1 + 1 < w2.heap.size := by omega)
    (try have hy2_0_3 : w.heap.size + 1 + 1 + 1 < w2.heap.size := by omega)
    (try have hy2_0_4 : w.heap.size + 1 + 1 + 1 + 1 < w2.heap.size := by omega)
    (try have hy2_0_5 : w.heap.size + 1 + 1 + 1 + 1 + 1 < w2.heap.size := by omega)
    (try have hy2_1_0 : w1.heap.size < w2.heap.size := by omega)
    (try have hy2_1_1 : w1.heap.size + 1 < w2.heap.size := by omega)
    (try have hy2_1_2 : w1.heap.size + 1 + 1 < w2.heap.size := by omega)
    (try have hy2_1_3 : w1.heap.size + 1 + 1 + 1 < w2.heap.size := by omega)
    (try have hy2_1_4 : w1.heap.size + 1 + 1 + 1 + 1 < w2.heap.size := by omega)
    (try have hy2_1_5 : w1.heap.size + 1 + 1 + 1 + 1 + 1 < w2.heap.size := by omega)
    clear hb2 hq2
    go_wp2_with fail
    refine (H2.out _).mono ?_
    rintro e w3 ⟨rfl, hb3⟩
    obtain ⟨hc3, hf3⟩ := bcell hb3
    have hq3 := hb3.size
    (try simp at hq3)
    have hB3 : Below w.heap.size w w3 := Below.trans (by go_grown) (hb3.mono (by first | (simp; done) | omega | (simp; omega)))
    have hs3 := hB3.size
    (try have hy3_0_0 : w.heap.size < w3.heap.size := by omega)
    (try have hy3_0_1 : w.heap.size + 1 < w3.heap.size := by omega)
    (try have hy3_0_2 : w.heap.size + 1 + 1 < w3.heap.size := by omega)
    (try have hy3_0_3 : w.heap.size + 1 + 1 + 1 < w3.heap.size := by omega)
    (try have hy3_0_4 : w.heap.size + 1 + 1 + 1 + 1 < w3.heap.size := by omega)
    (try have hy3_0_5 : w.heap.size + 1 + 1 + 1 + 1 + 1 < w3.heap.size := by omega)
    (try have hy3_1_0 : w1.heap.size < w3.heap.size := by omega)
    (try have hy3_1_1 : w1.heap.size + 1 < w3.heap.size := by omega)
    (try have hy3_1_2 : w1.heap.size + 1 + 1 < w3.heap.size := by omega)
    (try have hy3_1_3 : w1.heap.size + 1 + 1 + 1 < w3.heap.size := by omega)
    (try have hy3_1_4 : w1.heap.size + 1 + 1 + 1 + 1 < w3.heap.size := by omega)
    (try have hy3_1_5 : w1.heap.size + 1 + 1 + 1 + 1 + 1 < w3.heap.size := by omega)
    (try have hy3_2_0 : w2.heap.size < w3.heap.size := by omega)
    (try have hy3_2_1 : w2.heap.size + 1 < w3.heap.size := by omega)
    (try have hy3_2_2 : w2.heap.size + 1 + 1 < w3.heap.size := by omega)
    (try have hy3_2_3 : w2.heap.size + 1 + 1 + 1 < w3.heap.size := by omega)
    (try have hy3_2_4 : w2.heap.size + 1 + 1 + 1 + 1 < w3.heap.size := by omega)
    (try have hy3_2_5 : w2.heap.size + 1 + 1 + 1 + 1 + 1 < w3.heap.size := by omega)
    clear hb3 hq3
    go_wp2_with fail
    refine (H3.out _).mono ?_
    rintro e w4 ⟨rfl, hb4⟩
    obtain ⟨hc4, hf4⟩ := bcell hb4
    have hq4 := hb4.size
    (try simp at hq4)
    have hB4 : Below w.heap.size w w4 := Below.trans (by go_grown) (hb4.mono (by first | (simp; done) | omega | (simp; omega)))
    have hs4 := hB4.size
    (try have hy4_0_0 : w.heap.size < w4.heap.size := by omega)
    (try have hy4_0_1 : w.heap.size + 1 < w4.heap.size := by omega)
    (try have hy4_0_2 : w.heap.size + 1 + 1 < w4.heap.size := by omega)
    (try have hy4_0_3 : w.heap.size + 1 + 1 + 1 < w4.heap.size := by omega)
    (try have hy4_0_4 : w.heap.size + 1 + 1 + 1 + 1 < w4.heap.size := by omega)
    (try have hy4_0_5 : w.heap.size + 1 + 1 + 1 + 1 + 1 < w4.heap.size := by omega)
    (try have hy4_1_0 : w1.heap.size < w4.heap.size := by omega)
    (try have hy4_1_1 : w1.heap.size + 1 < w4.heap.size := by omega)
    (try have hy4_1_2 : w1.heap.size + 1 + 1 < w4.heap.size := by omega)
    (try have hy4_1_3 : w1.heap.size + 1 + 1 + 1 < w4.heap.size := by omega)
    (try have hy4_1_4 : w1.heap.size + 1 + 1 + 1 + 1 < w4.heap.size := by omega)
    (try have hy4_1_5 : w1.heap.size + 1 + 1 + 1 + 1 + 1 < w4.heap.size := by omega)
    (try have hy4_2_0 : w2.heap.size < w4.heap.size := by omega)
    (try have hy4_2_1 : w2.heap.size + 1 < w4.heap.size := by omega)
    (try have hy4_2_2 : w2.heap.size + 1 + 1 < w4.heap.size := by omega)
    (try have hy4_2_3 : w2.heap.size + 1 + 1 + 1 < w4.heap.size := by omega)
    (try have hy4_2_4 : w2.heap.size + 1 + 1 + 1 + 1 < w4.heap.size := by omega)
    (try have hy4_2_5 : w2.heap.size + 1 + 1 + 1 + 1 + 1 < w4.heap.size := by omega)
    (try have hy4_3_0 : w3.heap.size < w4.heap.size := by omega)
    (try have hy4_3_1 : w3.heap.size + 1 < w4.heap.size := by omega)
    (try have hy4_3_2 : w3.heap.size + 1 + 1 < w4.heap.size := by omega)
    (try have hy4_3_3 : w3.heap.size + 1 + 1 + 1 < w4.heap.size := by omega)
    (try have hy4_3_4 : w3.heap.size + 1 + 1 + 1 + 1 < w4.heap.size := by omega)
    (try have hy4_3_5 : w3.heap.size + 1 + 1 + 1 + 1 + 1 < w4.heap.size := by omega)
    clear hb4 hq4
    go_wp2_with fail
    refine (H4.out _).mono ?_
    rintro e w5 ⟨rfl, hb5⟩
    obtain ⟨hc5, hf5⟩ := bcell hb5
    have hq5 := hb5.size
    (try simp at hq5)
    have hB5 : Below w.heap.size w w5 := Below.trans (by go_grown) (hb5.mono (by first | (simp; done) | omega | (simp; omega)))
    have hs5 := hB5.size
    (try have hy5_0_0 : w.heap.size < w5.heap.size := by omega)
    (try have hy5_0_1 : w.heap.size + 1 < w5.heap.size := by omega)
    (try have hy5_0_2 : w.heap.size + 1 + 1 < w5.heap.size := by omega)
    (try have hy5_0_3 : w.heap.size + 1 + 1 + 1 < w5.heap.size := by omega)
    (try have hy5_0_4 : w.heap.size + 1 + 1 + 1 + 1 < w5.heap.size := by omega)
    (try have hy5_0_5 : w.heap.size + 1 + 1 + 1 + 1 + 1 < w5.heap.size := by omega)
    (try have hy5_1_0 : w1.heap.size < w5.heap.size := by omega)
    (try have hy5_1_1 : w1.heap.size + 1 < w5.heap.size := by omega)
    (try have hy5_1_2 : w1.heap.size + 1 + 1 < w5.heap.size := by omega)
    (try have hy5_1_3 : w1.heap.size + 1 + 1 + 1 < w5.heap.size := by omega)
    (try have hy5_1_4 : w1.heap.size + 1 + 1 + 1 + 1 < w5.heap.size := by omega)
    (try have hy5_1_5 : w1.heap.size + 1 + 1 + 1 + 1 + 1 < w5.heap.size := by omega)
    (try have hy5_2_0 : w2.heap.size < w5.heap.size := by omega)
    (try have hy5_2_1 : w2.heap.size + 1 < w5.heap.size := by omega)
    (try have hy5_2_2 : w2.heap.size + 1 + 1 < w5.heap.size := by omega)
    (try have hy5_2_3 : w2.heap.size + 1 + 1 + 1 < w5.heap.size := by omega)
    (try have hy5_2_4 : w2.heap.size + 1 + 1 + 1 + 1 < w5.heap.size := by omega)
    (try have hy5_2_5 : w2.heap.size + 1 + 1 + 1 + 1 + 1 < w5.heap.size := by omega)
    (try have hy5_3_0 : w3.heap.size < w5.heap.size := by omega)
    (try have hy5_3_1 : w3.heap.size + 1 < w5.heap.size := by omega)
    (try have hy5_3_2 : w3.heap.size + 1 + 1 < w5.heap.size := by omega)
    (try have hy5_3_3 : w3.heap.size + 1 + 1 + 1 < w5.heap.size := by omega)
    (try have hy5_3_4 : w3.heap.size + 1 + 1 + 1 + 1 < w5.heap.size := by omega)
    (try have hy5_3_5 : w3.heap.size + 1 + 1 + 1 + 1 + 1 < w5.heap.size := by omega)
    (try have hy5_4_0 : w4.heap.size < w5.heap.size := by omega)
    (try have hy5_4_1 : w4.heap.size + 1 < w5.heap.size := by omega)
    (try have hy5_4_2 : w4.heap.size + 1 + 1 < w5.heap.size := by omega)
    (try have hy5_4_3 : w4.heap.size + 1 + 1 + 1 < w5.heap.size := by omega)
    (try have hy5_4_4 : w4.heap.size + 1 + 1 + 1 + 1 < w5.heap.size := by omega)
    (try have hy5_4_5 : w4.heap.size + 1 + 1 + 1 + 1 + 1 < w5.heap.size := by omega)
    clear hb5 hq5
    clear H1 H2
    cases o
    · clear hcc
      go_wp2_with fail
      refine (H3.out _).mono ?_
      rintro e w6 ⟨rfl, hb6⟩
      obtain ⟨hc6, hf6⟩ := bcell hb6
      have hq6 := hb6.size
      (try simp at hq6)
      have hB6 : Below w.heap.size w w6 := Below.trans (by go_grown) (hb6.mono (by first | (simp; done) | omega | (simp; omega)))
      have hs6 := hB6.size
      (try have hy6_0_0 : w.heap.size < w6.heap.size := by omega)
      (try have hy6_0_1 : w.heap.size + 1 < w6.heap.size := by omega)
      (try have hy6_0_2 : w.heap.size + 1 + 1 < w6.heap.size := by omega)
      (try have hy6_0_3 : w.heap.size + 1 + 1 + 1 < w6.heap.size := by omega)
      (try have hy6_0_4 : w.heap.size + 1 + 1 + 1 + 1 < w6.heap.size := by omega)
      (try have hy6_0_5 : w.heap.size + 1 + 1 + 1 + 1 + 1 < w6.heap.size := by omega)
      (try have hy6_1_0 : w1.heap.size < w6.heap.size := by omega)
      (try have hy6_1_1 : w1.heap.size + 1 < w6.heap.size := by omega)
      (try have hy6_1_2 : w1.heap.size + 1 + 1 < w6.heap.size := by omega)
      (try have hy6_1_3 : w1.heap.size + 1 + 1 + 1 < w6.heap.size := by omega)
      (try have hy6_1_4 : w1.heap.size + 1 + 1 + 1 + 1 < w6.heap.size := by omega)
      (try have hy6_1_5 : w1.heap.size + 1 + 1 + 1 + 1 + 1 < w6.heap.size := by omega)
      (try have hy6_2_0 : w2.heap.size < w6.heap.size := by omega)
      (try have hy6_2_1 : w2.heap.size + 1 < w6.heap.size := by omega)
      (try have hy6_2_2 : w2.heap.size + 1 + 1 < w6.heap.size := by omega)
      (try have hy6_2_3 : w2.heap.size + 1 + 1 + 1 < w6.heap.size := by omega)
      (try have hy6_2_4 : w2.heap.size + 1 + 1 + 1 + 1 < w6.heap.size := by omega)
      (try have hy6_2_5 : w2.heap.size + 1 + 1 + 1 + 1 + 1 < w6.heap.size := by omega)
      (try have hy6_3_0 : w3.heap.size < w6.heap.size := by omega)
      (try have hy6_3_1 : w3.heap.size + 1 < w6.heap.size := by omega)
      (try have hy6_3_2 : w3.heap.size + 1 + 1 < w6.heap.size := by omega)
      (try have hy6_3_3 : w3.heap.size + 1 + 1 + 1 < w6.heap.size := by omega)
      (try have hy6_3_4 : w3.heap.size + 1 + 1 + 1 + 1 < w6.heap.size := by omega)
      (try have hy6_3_5 : w3.heap.size + 1 + 1 + 1 + 1 + 1 < w6.heap.size := by omega)
      (try have hy6_4_0 : w4.heap.size < w6.heap.size := by omega)
      (try have hy6_4_1 : w4.heap.size + 1 < w6.heap.size := by omega)
      (try have hy6_4_2 : w4.heap.size + 1 + 1 < w6.heap.size := by omega)
      (try have hy6_4_3 : w4.heap.size + 1 + 1 + 1 < w6.heap.size := by omega)
      (try have hy6_4_4 : w4.heap.size + 1 + 1 + 1 + 1 < w6.heap.size := by omega)
      (try have hy6_4_5 : w4.heap.size + 1 + 1 + 1 + 1 + 1 < w6.heap.size := by omega)
      (try have hy6_5_0 : w5.heap.size < w6.heap.size := by omega)
      (try have hy6_5_1 : w5.heap.size + 1 < w6.heap.size := by omega)
      (try have hy6_5_2 : w5.heap.size + 1 + 1 < w6.heap.size := by omega)
      (try have hy6_5_3 : w5.heap.size + 1 + 1 + 1 < w6.heap.size := by omega)
      (try have hy6_5_4 : w5.heap.size + 1 + 1 + 1 + 1 < w6.heap.size := by omega)
      (try have hy6_5_5 : w5.heap.size + 1 + 1 + 1 + 1 + 1 < w6.heap.size := by omega)
      clear hb6 hq6
      go_wp2_with fail
      refine (H4.out _).mono ?_
      rintro e w7 ⟨rfl, hb7⟩
      obtain ⟨hc7, hf7⟩ := bcell hb7
      have hq7 := hb7.size
      (try simp at hq7)
      have hB7 : Below w.heap.size w w7 := Below.trans (by go_grown) (hb7.mono (by first | (simp; done) | omega | (simp; omega)))
      have hs7 := hB7.size
      (try have hy7_0_0 : w.heap.size < w7.heap.size := by omega)
      (try have hy7_0_1 : w.heap.size + 1 < w7.heap.size := by omega)
      (try have hy7_0_2 : w.heap.size + 1 + 1 < w7.heap.size := by omega)
      (try have hy7_0_3 : w.heap.size + 1 + 1 + 1 < w7.heap.size := by omega)
      (try have hy7_0_4 : w.heap.size + 1 + 1 + 1 + 1 < w7.heap.size := by omega)
      (try have hy7_0_5 : w.heap.size + 1 + 1 + 1 + 1 + 1 < w7.heap.size := by omega)
      (try have hy7_1_0 : w1.heap.size < w7.heap.size := by omega)
      (try have hy7_1_1 : w1.heap.size + 1 < w7.heap.size := by omega)
      (try have hy7_1_2 : w1.heap.size + 1 + 1 < w7.heap.size := by omega)
      (try have hy7_1_3 : w1.heap.size + 1 + 1 + 1 < w7.heap.size := by omega)
      (try have hy7_1_4 : w1.heap.size + 1 + 1 + 1 + 1 < w7.heap.size := by omega)
      (try have hy7_1_5 : w1.heap.size + 1 + 1 + 1 + 1 + 1 < w7.heap.size := by omega)
      (try have hy7_2_0 : w2.heap.size < w7.heap.size := by omega)
      (try have hy7_2_1 : w2.heap.size + 1 < w7.heap.size := by omega)
      (try have hy7_2_2 : w2.heap.size + 1 + 1 < w7.heap.size := by omega)
      (try have hy7_2_3 : w2.heap.size + 1 + 1 + 1 < w7.heap.size := by omega)
      (try have hy7_2_4 : w2.heap.size + 1 + 1 + 1 + 1 < w7.heap.size := by omega)
      (try have hy7_2_5 : w2.heap.size + 1 + 1 + 1 + 1 + 1 < w7.heap.size := by omega)
      (try have hy7_3_0 : w3.heap.size < w7.heap.size := by omega)
      (try have hy7_3_1 : w3.heap.size + 1 < w7.heap.size := by omega)
      (try have hy7_3_2 : w3.heap.size + 1 + 1 < w7.heap.size := by omega)
      (try have hy7_3_3 : w3.heap.size + 1 + 1 + 1 < w7.heap.size := by omega)
      (try have hy7_3_4 : w3.heap.size + 1 + 1 + 1 + 1 < w7.heap.size := by omega)
      (try have hy7_3_5 : w3.heap.size + 1 + 1 + 1 + 1 + 1 < w7.heap.size := by omega)
      (try have hy7_4_0 : w4.heap.size < w7.heap.size := by omega)
      (try have hy7_4_1 : w4.heap.size + 1 < w7.heap.size := by omega)
      (try have hy7_4_2 : w4.heap.size + 1 + 1 < w7.heap.size := by omega)
      (try have hy7_4_3 : w4.heap.size + 1 + 1 + 1 < w7.heap.size := by omega)
      (try have hy7_4_4 : w4.heap.size + 1 + 1 + 1 + 1 < w7.heap.size := by omega)
      (try have hy7_4_5 : w4.heap.size + 1 + 1 + 1 + 1 + 1 < w7.heap.size := by omega)
      (try have hy7_5_0 : w5.heap.size < w7.heap.size := by omega)
      (try have hy7_5_1 : w5.heap.size + 1 < w7.heap.size := by omega)
      (try have hy7_5_2 : w5.heap.size + 1 + 1 < w7.heap.size := by omega)
      (try have hy7_5_3 : w5.heap.size + 1 + 1 + 1 < w7.heap.size := by omega)
      (try have hy7_5_4 : w5.heap.size + 1 + 1 + 1 + 1 < w7.heap.size := by omega)
      (try have hy7_5_5 : w5.heap.size + 1 + 1 + 1 + 1 + 1 < w7.heap.size := by omega)
      (try have hy7_6_0 : w6.heap.size < w7.heap.size := by omega)
      (try have hy7_6_1 : w6.heap.size + 1 < w7.heap.size := by omega)
      (try have hy7_6_2 : w6.heap.size + 1 + 1 < w7.heap.size := by omega)
      (try have hy7_6_3 : w6.heap.size + 1 + 1 + 1 < w7.heap.size := by omega)
      (try have hy7_6_4 : w6.heap.size + 1 + 1 + 1 + 1 < w7.heap.size := by omega)
      (try have hy7_6_5 : w6.heap.size + 1 + 1 + 1 + 1 + 1 < w7.heap.size := by omega)
      clear hb7 hq7
      go_wp2_with fail
      go_returns
      exact ⟨rfl, (by first | (go_grown; done) | (refine below_drewN ?_ _; go_grown; done) | (refine (below_drewN _ ?_); go_grown; done))⟩
    · cases c
      · clear hcc
        go_wp2_with fail
        refine (H3.out _).mono ?_
        rintro e w6 ⟨rfl, hb6⟩
        obtain ⟨hc6, hf6⟩ := bcell hb6
        have hq6 := hb6.size
        (try simp at hq6)
        have hB6 : Below w.heap.size w w6 := Below.trans (by go_grown) (hb6.mono (by first | (simp; done) | omega | (simp; omega)))
        have hs6 := hB6.size
        (try have hy6_0_0 : w.heap.size < w6.heap.size := by omega)
        (try have hy6_0_1 : w.heap.size + 1 < w6.heap.size := by omega)
        (try have hy6_0_2 : w.heap.size + 1 + 1 < w6.heap.size := by omega)
        (try have hy6_0_3 : w.heap.size + 1 + 1 + 1 < w6.heap.size := by omega)
        (try have hy6_0_4 : w.heap.size + 1 + 1 + 1 + 1 < w6.heap.size := by omega)
        (try have hy6_0_5 : w.heap.size + 1 + 1 + 1 + 1 + 1 < w6.heap.size := by omega)
        (try have hy6_1_0 : w1.heap.size < w6.heap.size := by omega)
        (try have hy6_1_1 : w1.heap.size + 1 < w6.heap.size := by omega)
        (try have hy6_1_2 : w1.heap.size + 1 + 1 < w6.heap.size := by omega)
        (try have hy6_1_3 : w1.heap.size + 1 + 1 + 1 < w6.heap.size := by omega)
        (try have hy6_1_4 : w1.heap.size + 1 + 1 + 1 + 1 < w6.heap.size := by omega)
        (try have hy6_1_5 : w1.heap.size + 1 + 1 + 1 + 1 + 1 < w6.heap.size := by omega)
        (try have hy6_2_0 : w2.heap.size < w6.heap.size := by omega)
        (try have hy6_2_1 : w2.heap.size + 1 < w6.heap.size := by omega)
        (try have hy6_2_2 : w2.heap.size + 1 + 1 < w6.heap.size := by omega)
        (try have hy6_2_3 : w2.heap.size + 1 + 1 + 1 < w6.heap.size := by omega)
        (try have hy6_2_4 : w2.heap.size + 1 + 1 + 1 + 1 < w6.heap.size := by omega)
        (try have hy6_2_5 : w2.heap.size + 1 + 1 + 1 + 1 + 1 < w6.heap.size := by omega)
        (try have hy6_3_0 : w3.heap.size < w6.heap.size := by omega)
        (try have hy6_3_1 : w3.heap.size + 1 < w6.heap.size := by omega)
        (try have hy6_3_2 : w3.heap.size + 1 + 1 < w6.heap.size := by omega)
        (try have hy6_3_3 : w3.heap.size + 1 + 1 + 1 < w6.heap.size := by omega)
        (try have hy6_3_4 : w3.heap.size + 1 + 1 + 1 + 1 < w6.heap.size := by omega)
        (try have hy6_3_5 : w3.heap.size + 1 + 1 + 1 + 1 + 1 < w6.heap.size := by omega)
        (try have hy6_4_0 : w4.heap.size < w6.heap.size := by omega)
        (try have hy6_4_1 : w4.heap.size + 1 < w6.heap.size := by omega)
        (try have hy6_4_2 : w4.heap.size + 1 + 1 < w6.heap.size := by omega)
        (try have hy6_4_3 : w4.heap.size + 1 + 1 + 1 < w6.heap.size := by omega)
        (try have hy6_4_4 : w4.heap.size + 1 + 1 + 1 + 1 < w6.heap.size := by omega)
        (try have hy6_4_5 : w4.heap.size + 1 + 1 + 1 + 1 + 1 < w6.heap.size := by omega)
        (try have hy6_5_0 : w5.heap.size < w6.heap.size := by omega)
        (try have hy6_5_1 : w5.heap.size + 1 < w6.heap.size := by omega)
        (try have hy6_5_2 : w5.heap.size + 1 + 1 < w6.heap.size := by omega)
        (try have hy6_5_3 : w5.heap.size + 1 + 1 + 1 < w6.heap.size := by omega)
        (try have hy6_5_4 : w5.heap.size + 1 + 1 + 1 + 1 < w6.heap.size := by omega)
        (try have hy6_5_5 : w5.heap.size + 1 + 1 + 1 + 1 + 1 < w6.heap.size := by omega)
        clear hb6 hq6
        go_wp2_with fail
        refine (H3.out _).mono ?_
        rintro e w7 ⟨rfl, hb7⟩
        obtain ⟨hc7, hf7⟩ := bcell hb7
        have hq7 := hb7.size
        (try simp at hq7)
        have hB7 : Below w.heap.size w w7 := Below.trans (by go_grown) (hb7.mono (by first | (simp; done) | omega | (simp; omega)))
        have hs7 := hB7.size
        (try have hy7_0_0 : w.heap.size < w7.heap.size := by omega)
        (try have hy7_0_1 : w.heap.size + 1 < w7.heap.size := by omega)
        (try have hy7_0_2 : w.heap.size + 1 + 1 < w7.heap.size := by omega)
        (try have hy7_0_3 : w.heap.size + 1 + 1 + 1 < w7.heap.size := by omega)
        (try have hy7_0_4 : w.heap.size + 1 + 1 + 1 + 1 < w7.heap.size := by omega)
        (try have hy7_0_5 : w.heap.size + 1 + 1 + 1 + 1 + 1 < w7.heap.size := by omega)
        (try have hy7_1_0 : w1.heap.size < w7.heap.size := by omega)
        (try have hy7_1_1 : w1.heap.size + 1 < w7.heap.size := by omega)
        (try have hy7_1_2 : w1.heap.size + 1 + 1 < w7.heap.size := by omega)
        (try have hy7_1_3 : w1.heap.size + 1 + 1 + 1 < w7.heap.size := by omega)
        (try have hy7_1_4 : w1.heap.size + 1 + 1 + 1 + 1 < w7.heap.size := by omega)
        (try have hy7_1_5 : w1.heap.size + 1 + 1 + 1 + 1 + 1 < w7.heap.size := by omega)
        (try have hy7_2_0 : w2.heap.size < w7.heap.size := by omega)
        (try have hy7_2_1 : w2.heap.size + 1 < w7.heap.size := by omega)
        (try have hy7_2_2 : w2.heap.size + 1 + 1 < w7.heap.size := by omega)
        (try have hy7_2_3 : w2.heap.size + 1 + 1 + 1 < w7.heap.size := by omega)
        (try have hy7_2_4 : w2.heap.size + 1 + 1 + 1 + 1 < w7.heap.size := by omega)
        (try have hy7_2_5 : w2.heap.size + 1 + 1 + 1 + 1 + 1 < w7.heap.size := by omega)
        (try have hy7_3_0 : w3.heap.size < w7.heap.size := by omega)
        (try have hy7_3_1 : w3.heap.size + 1 < w7.heap.size := by omega)
        (try have hy7_3_2 : w3.heap.size + 1 + 1 < w7.heap.size := by omega)
        (try have hy7_3_3 : w3.heap.size + 1 + 1 + 1 < w7.heap.size := by omega)
        (try have hy7_3_4 : w3.heap.size + 1 + 1 + 1 + 1 < w7.heap.size := by omega)
        (try have hy7_3_5 : w3.heap.size + 1 + 1 + 1 + 1 + 1 < w7.heap.size := by omega)
        (try have hy7_4_0 : w4.heap.size < w7.heap.size := by omega)
        (try have hy7_4_1 : w4.heap.size + 1 < w7.heap.size := by omega)
        (try have hy7_4_2 : w4.heap.size + 1 + 1 < w7.heap.size := by omega)
        (try have hy7_4_3 : w4.heap.size + 1 + 1 + 1 < w7.heap.size := by omega)
        (try have hy7_4_4 : w4.heap.size + 1 + 1 + 1 + 1 < w7.heap.size := by omega)
        (try have hy7_4_5 : w4.heap.size + 1 + 1 + 1 + 1 + 1 < w7.heap.size := by omega)
        (try have hy7_5_0 : w5.heap.size < w7.heap.size := by omega)
        (try have hy7_5_1 : w5.heap.size + 1 < w7.heap.size := by omega)
        (try have hy7_5_2 : w5.heap.size + 1 + 1 < w7.heap.size := by omega)
        (try have hy7_5_3 : w5.heap.size + 1 + 1 + 1 < w7.heap.size := by omega)
        (try have hy7_5_4 : w5.heap.size + 1 + 1 + 1 + 1 < w7.heap.size := by omega)
        (try have hy7_5_5 : w5.heap.size + 1 + 1 + 1 + 1 + 1 < w7.heap.size := by omega)
        (try have hy7_6_0 : w6.heap.size < w7.heap.size := by omega)
        (try have hy7_6_1 : w6.heap.size + 1 < w7.heap.size := by omega)
        (try have hy7_6_2 : w6.heap.size + 1 + 1 < w7.heap.size := by omega)
        (try have hy7_6_3 : w6.heap.size + 1 + 1 + 1 < w7.heap.size := by omega)
        (try have hy7_6_4 : w6.heap.size + 1 + 1 + 1 + 1 < w7.heap.size := by omega)
        (try have hy7_6_5 : w6.heap.size + 1 + 1 + 1 + 1 + 1 < w7.heap.size := by omega)
        clear hb7 hq7
        go_wp2_with fail
        refine (H4.out _).mono ?_
        rintro e w8 ⟨rfl, hb8⟩
        obtain ⟨hc8, hf8⟩ := bcell hb8
        have hq8 := hb8.size
        (try simp at hq8)
        have hB8 : Below w.heap.size w w8 := Below.trans (by go_grown) (hb8.mono (by first | (simp; done) | omega | (simp; omega)))
        have hs8 := hB8.size
        (try have hy8_0_0 : w.heap.size < w8.heap.size := by omega)
        (try have hy8_0_1 : w.heap.size + 1 < w8.heap.size := by omega)
        (try have hy8_0_2 : w.heap.size + 1 + 1 < w8.heap.size := by omega)
        (try have hy8_0_3 : w.heap.size + 1 + 1 + 1 < w8.heap.size := by omega)
        (try have hy8_0_4 : w.heap.size + 1 + 1 + 1 + 1 < w8.heap.size := by omega)
        (try have hy8_0_5 : w.heap.size + 1 + 1 + 1 + 1 + 1 < w8.heap.size := by omega)
        (try have hy8_1_0 : w1.heap.size < w8.heap.size := by omega)
        (try have hy8_1_1 : w1.heap.size + 1 < w8.heap.size := by omega)
        (try have hy8_1_2 : w1.heap.size + 1 + 1 < w8.heap.size := by omega)
        (try have hy8_1_3 : w1.heap.size + 1 + 1 + 1 < w8.heap.size := by omega)
        (try have hy8_1_4 : w1.heap.size + 1 + 1 + 1 + 1 < w8.heap.size := by omega)
        (try have hy8_1_5 : w1.heap.size + 1 + 1 + 1 + 1 + 1 < w8.heap.size := by omega)
        (try have hy8_2_0 : w2.heap.size < w8.heap.size := by omega)
        (try have hy8_2_1 : w2.heap.size + 1 < w8.heap.size := by omega)
        (try have hy8_2_2 : w2.heap.size + 1 + 1 < w8.heap.size := by omega)
        (try have hy8_2_3 : w2.heap.size + 1 + 1 + 1 < w8.heap.size := by omega)
        (try have hy8_2_4 : w2.heap.size + 1 + 1 + 1 + 1 < w8.heap.size := by omega)
        (try have hy8_2_5 : w2.heap.size + 1 + 1 + 1 + 1 + 1 < w8.heap.size := by omega)
        (try have hy8_3_0 : w3.heap.size < w8.heap.size := by omega)
        (try have hy8_3_1 : w3.heap.size + 1 < w8.heap.size := by omega)
        (try have hy8_3_2 : w3.heap.size + 1 + 1 < w8.heap.size := by omega)
        (try have hy8_3_3 : w3.heap.size + 1 + 1 + 1 < w8.heap.size := by omega)
        (try have hy8_3_4 : w3.heap.size + 1 + 1 + 1 + 1 < w8.heap.size := by omega)
        (try have hy8_3_5 : w3.heap.size + 1 + 1 + 1 + 1 + 1 < w8.heap.size := by omega)
        (try have hy8_4_0 : w4.heap.size < w8.heap.size := by omega)
        (try have hy8_4_1 : w4.heap.size + 1 < w8.heap.size := by omega)
        (try have hy8_4_2 : w4.heap.size + 1 + 1 < w8.heap.size := by omega)
        (try have hy8_4_3 : w4.heap.size + 1 + 1 + 1 < w8.heap.size := by omega)
        (try have hy8_4_4 : w4.heap.size + 1 + 1 + 1 + 1 < w8.heap.size := by omega)
        (try have hy8_4_5 : w4.heap.size + 1 + 1 + 1 + 1 + 1 < w8.heap.size := by omega)
        (try have hy8_5_0 : w5.heap.size < w8.heap.size := by omega)
        (try have hy8_5_1 : w5.heap.size + 1 < w8.heap.size := by omega)
        (try have hy8_5_2 : w5.heap.size + 1 + 1 < w8.heap.size := by omega)
        (try have hy8_5_3 : w5.heap.size + 1 + 1 + 1 < w8.heap.size := by omega)
        (try have hy8_5_4 : w5.heap.size + 1 + 1 + 1 + 1 < w8.heap.size := by omega)
        (try have hy8_5_5 : w5.heap.size + 1 + 1 + 1 + 1 + 1 < w8.heap.size := by omega)
        (try have hy8_6_0 : w6.heap.size < w8.heap.size := by omega)
        (try have hy8_6_1 : w6.heap.size + 1 < w8.heap.size := by omega)
        (try have hy8_6_2 : w6.heap.size + 1 + 1 < w8.heap.size := by omega)
        (try have hy8_6_3 : w6.heap.size + 1 + 1 + 1 < w8.heap.size := by omega)
        (try have hy8_6_4 : w6.heap.size + 1 + 1 + 1 + 1 < w8.heap.size := by omega)
        (try have hy8_6_5 : w6.heap.size + 1 + 1 + 1 + 1 + 1 < w8.heap.size := by omega)
        (try have hy8_7_0 : w7.heap.size < w8.heap.size := by omega)
        (try have hy8_7_1 : w7.heap.size + 1 < w8.heap.size := by omega)
        (try have hy8_7_2 : w7.heap.size + 1 + 1 < w8.heap.size := by omega)
        (try have hy8_7_3 : w7.heap.size + 1 + 1 + 1 < w8.heap.size := by omega)
        (try have hy8_7_4 : w7.heap.size + 1 + 1 + 1 + 1 < w8.heap.size := by omega)
        (try have hy8_7_5 : w7.heap.size + 1 + 1 + 1 + 1 + 1 < w8.heap.size := by omega)
        clear hb8 hq8
        go_wp2_with fail
        go_returns
        exact ⟨rfl, (by first | (go_grown; done) | (refine below_drewN ?_ _; go_grown; done) | (refine (below_drewN _ ?_); go_grown; done))⟩
      · have hh := hcc rfl
        simp only [Prod.mk.injEq, Agg.V.mk.injEq, and_true] at hh
        obtain ⟨rfl, rfl, rfl⟩ := hh
        clear hcc H4
        obtain ⟨⟨lv, lo⟩, hl⟩ : ∃ p, p = Agg.aLow k ⟨x, y, z⟩ := ⟨_, rfl⟩
        have h5 := fun w => lowerValue_any k x y z w
        rw [← hl] at h5
        have H5 := Lib.hid h5
        clear h5 hl
        go_wp2_with fail
        refine (H3.out _).mono ?_
        rintro e w6 ⟨rfl, hb6⟩
        obtain ⟨hc6, hf6⟩ := bcell hb6
        have hq6 := hb6.size
        (try simp at hq6)
        have hB6 : Below w.heap.size w w6 := Below.trans (by go_grown) (hb6.mono (by first | (simp; done) | omega | (simp; omega)))
        have hs6 := hB6.size
        (try have hy6_0_0 : w.heap.size < w6.heap.size := by omega)
        (try have hy6_0_1 : w.heap.size + 1 < w6.heap.size := by omega)
        (try have hy6_0_2 : w.heap.size + 1 + 1 < w6.heap.size := by omega)
        (try have hy6_0_3 : w.heap.size + 1 + 1 + 1 < w6.heap.size := by omega)
        (try have hy6_0_4 : w.heap.size + 1 + 1 + 1 + 1 < w6.heap.size := by omega)
        (try have hy6_0_5 : w.heap.size + 1 + 1 + 1 + 1 + 1 < w6.heap.size := by omega)
        (try have hy6_1_0 : w1.heap.size < w6.heap.size := by omega)
        (try have hy6_1_1 : w1.heap.size + 1 < w6.heap.size := by omega)
        (try have hy6_1_2 : w1.heap.size + 1 + 1 < w6.heap.size := by omega)
        (try have hy6_1_3 : w1.heap.size + 1 + 1 + 1 < w6.heap.size := by omega)
        (try have hy6_1_4 : w1.heap.size + 1 + 1 + 1 + 1 < w6.heap.size := by omega)
        (try have hy6_1_5 : w1.heap.size + 1 + 1 + 1 + 1 + 1 < w6.heap.size := by omega)
        (try have hy6_2_0 : w2.heap.size < w6.heap.size := by omega)
        (try have hy6_2_1 : w2.heap.size + 1 < w6.heap.size := by omega)
        (try have hy6_2_2 : w2.heap.size + 1 + 1 < w6.heap.size := by omega)
        (try have hy6_2_3 : w2.heap.size + 1 + 1 + 1 < w6.heap.size := by omega)
        (try have hy6_2_4 : w2.heap.size + 1 + 1 + 1 + 1 < w6.heap.size := by omega)
        (try have hy6_2_5 : w2.heap.size + 1 + 1 + 1 + 1 + 1 < w6.heap.size := by omega)
        (try have hy6_3_0 : w3.heap.size < w6.heap.size := by omega)
        (try have hy6_3_1 : w3.heap.size + 1 < w6.heap.size := by omega)
        (try have hy6_3_2 : w3.heap.size + 1 + 1 < w6.heap.size := by omega)
        (try have hy6_3_3 : w3.heap.size + 1 + 1 + 1 < w6.heap.size := by omega)
        (try have hy6_3_4 : w3.heap.size + 1 + 1 + 1 + 1 < w6.heap.size := by omega)
        (try have hy6_3_5 : w3.heap.size + 1 + 1 + 1 + 1 + 1 < w6.heap.size := by omega)
        (try have hy6_4_0 : w4.heap.size < w6.heap.size := by omega)
        (try have hy6_4_1 : w4.heap.size + 1 < w6.heap.size := by omega)
        (try have hy6_4_2 : w4.heap.size + 1 + 1 < w6.heap.size := by omega)
        (try have hy6_4_3 : w4.heap.size + 1 + 1 + 1 < w6.heap.size := by omega)
        (try have hy6_4_4 : w4.heap.size + 1 + 1 + 1 + 1 < w6.heap.size := by omega)
        (try have hy6_4_5 : w4.heap.size + 1 + 1 + 1 + 1 + 1 < w6.heap.size := by omega)
        (try have hy6_5_0 : w5.heap.size < w6.heap.size := by omega)
        (try have hy6_5_1 : w5.heap.size + 1 < w6.heap.size := by omega)
        (try have hy6_5_2 : w5.heap.size + 1 + 1 < w6.heap.size := by omega)
        (try have hy6_5_3 : w5.heap.size + 1 + 1 + 1 < w6.heap.size := by omega)
        (try have hy6_5_4 : w5.heap.size + 1 + 1 + 1 + 1 < w6.heap.size := by omega)
        (try have hy6_5_5 : w5.heap.size + 1 + 1 + 1 + 1 + 1 < w6.heap.size := by omega)
        clear hb6 hq6
        go_wp2_with fail
        refine (H5.out _).mono ?_
        rintro e w7 ⟨rfl, hb7⟩
        obtain ⟨hc7, hf7⟩ := bcell hb7
        have hq7 := hb7.size
        (try simp at hq7)
        have hB7 : Below w.heap.size w w7 := Below.trans (by go_grown) (hb7.mono (by first | (simp; done) | omega | (simp; omega)))
        have hs7 := hB7.size
        (try have hy7_0_0 : w.heap.size < w7.heap.size := by omega)
        (try have hy7_0_1 : w.heap.size + 1 < w7.heap.size := by omega)
        (try have hy7_0_2 : w.heap.size + 1 + 1 < w7.heap.size := by omega)
        (try have hy7_0_3 : w.heap.size + 1 + 1 + 1 < w7.heap.size := by omega)
        (try have hy7_0_4 : w.heap.size + 1 + 1 + 1 + 1 < w7.heap.size := by omega)
        (try have hy7_0_5 : w.heap.size + 1 + 1 + 1 + 1 + 1 < w7.heap.size := by omega)
        (try have hy7_1_0 : w1.heap.size < w7.heap.size := by omega)
        (try have hy7_1_1 : w1.heap.size + 1 < w7.heap.size := by omega)
        (try have hy7_1_2 : w1.heap.size + 1 + 1 < w7.heap.size := by omega)
        (try have hy7_1_3 : w1.heap.size + 1 + 1 + 1 < w7.heap.size := by omega)
        (try have hy7_1_4 : w1.heap.size + 1 + 1 + 1 + 1 < w7.heap.size := by omega)
        (try have hy7_1_5 : w1.heap.size + 1 + 1 + 1 + 1 + 1 < w7.heap.size := by omega)
        (try have hy7_2_0 : w2.heap.size < w7.heap.size := by omega)
        (try have hy7_2_1 : w2.heap.size + 1 < w7.heap.size := by omega)
        (try have hy7_2_2 : w2.heap.size + 1 + 1 < w7.heap.size := by omega)
        (try have hy7_2_3 : w2.heap.size + 1 + 1 + 1 < w7.heap.size := by omega)
        (try have hy7_2_4 : w2.heap.size + 1 + 1 + 1 + 1 < w7.heap.size := by omega)
        (try have hy7_2_5 : w2.heap.size + 1 + 1 + 1 + 1 + 1 < w7.heap.size := by omega)
        (try have hy7_3_0 : w3.heap.size < w7.heap.size := by omega)
        (try have hy7_3_1 : w3.heap.size + 1 < w7.heap.size := by omega)
        (try have hy7_3_2 : w3.heap.size + 1 + 1 < w7.heap.size := by omega)
        (try have hy7_3_3 : w3.heap.size + 1 + 1 + 1 < w7.heap.size := by omega)
        (try have hy7_3_4 : w3.heap.size + 1 + 1 + 1 + 1 < w7.heap.size := by omega)
        (try have hy7_3_5 : w3.heap.size + 1 + 1 + 1 + 1 + 1 < w7.heap.size := by omega)
        (try have hy7_4_0 : w4.heap.size < w7.heap.size := by omega)
        (try have hy7_4_1 : w4.heap.size + 1 < w7.heap.size := by omega)
        (try have hy7_4_2 : w4.heap.size + 1 + 1 < w7.heap.size := by omega)
        (try have hy7_4_3 : w4.heap.size + 1 + 1 + 1 < w7.heap.size := by omega)
        (try have hy7_4_4 : w4.heap.size + 1 + 1 + 1 + 1 < w7.heap.size := by omega)
        (try have hy7_4_5 : w4.heap.size + 1 + 1 + 1 + 1 + 1 < w7.heap.size := by omega)
        (try have hy7_5_0 : w5.heap.size < w7.heap.size := by omega)
        (try have hy7_5_1 : w5.heap.size + 1 < w7.heap.size := by omega)
        (try have hy7_5_2 : w5.heap.size + 1 + 1 < w7.heap.size := by omega)
        (try have hy7_5_3 : w5.heap.size + 1 + 1 + 1 < w7.heap.size := by omega)
        (try have hy7_5_4 : w5.heap.size + 1 + 1 + 1 + 1 < w7.heap.size := by omega)
        (try have hy7_5_5 : w5.heap.size + 1 + 1 + 1 + 1 + 1 < w7.heap.size := by omega)
        (try have hy7_6_0 : w6.heap.size < w7.heap.size := by omega)
        (try have hy7_6_1 : w6.heap.size + 1 < w7.heap.size := by omega)
        (try have hy7_6_2 : w6.heap.size + 1 + 1 < w7.heap.size := by omega)
        (try have hy7_6_3 : w6.heap.size + 1 + 1 + 1 < w7.heap.size := by omega)
        (try have hy7_6_4 : w6.heap.size + 1 + 1 + 1 + 1 < w7.heap.size := by omega)
        (try have hy7_6_5 : w6.heap.size + 1 + 1 + 1 + 1 + 1 < w7.heap.size := by omega)
        clear hb7 hq7
        go_wp2_with fail
        refine (H5.out _).mono ?_
        rintro e w8 ⟨rfl, hb8⟩
        obtain ⟨hc8, hf8⟩ := bcell hb8
        have hq8 := hb8.size
        (try simp at hq8)
        have hB8 : Below w.heap.size w w8 := Below.trans (by go_grown) (hb8.mono (by first | (simp; done) | omega | (simp; omega)))
        have hs8 := hB8.size
        (try have hy8_0_0 : w.heap.size < w8.heap.size := by omega)
        (try have hy8_0_1 : w.heap.size + 1 < w8.heap.size := by omega)
        (try have hy8_0_2 : w.heap.size + 1 + 1 < w8.heap.size := by omega)
        (try have hy8_0_3 : w.heap.size + 1 + 1 + 1 < w8.heap.size := by omega)
        (try have hy8_0_4 : w.heap.size + 1 + 1 + 1 + 1 < w8.heap.size := by omega)
        (try have hy8_0_5 : w.heap.size + 1 + 1 + 1 + 1 + 1 < w8.heap.size := by omega)
        (try have hy8_1_0 : w1.heap.size < w8.heap.size := by omega)
        (try have hy8_1_1 : w1.heap.size + 1 < w8.heap.size := by omega)
        (try have hy8_1_2 : w1.heap.size + 1 + 1 < w8.heap.size := by omega)
        (try have hy8_1_3 : w1.heap.size + 1 + 1 + 1 < w8.heap.size := by omega)
        (try have hy8_1_4 : w1.heap.size + 1 + 1 + 1 + 1 < w8.heap.size := by omega)
        (try have hy8_1_5 : w1.heap.size + 1 + 1 + 1 + 1 + 1 < w8.heap.size := by omega)
        (try have hy8_2_0 : w2.heap.size < w8.heap.size := by omega)
        (try have hy8_2_1 : w2.heap.size + 1 < w8.heap.size := by omega)
        (try have hy8_2_2 : w2.heap.size + 1 + 1 < w8.heap.size := by omega)
        (try have hy8_2_3 : w2.heap.size + 1 + 1 + 1 < w8.heap.size := by omega)
        (try have hy8_2_4 : w2.heap.size + 1 + 1 + 1 + 1 < w8.heap.size := by omega)
        (try have hy8_2_5 : w2.heap.size + 1 + 1 + 1 + 1 + 1 < w8.heap.size := by omega)
        (try have hy8_3_0 : w3.heap.size < w8.heap.size := by omega)
        (try have hy8_3_1 : w3.heap.size + 1 < w8.heap.size := by omega)
        (try have hy8_3_2 : w3.heap.size + 1 + 1 < w8.heap.size := by omega)
        (try have hy8_3_3 : w3.heap.size + 1 + 1 + 1 < w8.heap.size := by omega)
        (try have hy8_3_4 : w3.heap.size + 1 + 1 + 1 + 1 < w8.heap.size := by omega)
        (try have hy8_3_5 : w3.heap.size + 1 + 1 + 1 + 1 + 1 < w8.heap.size := by omega)
        (try have hy8_4_0 : w4.heap.size < w8.heap.size := by omega)
        (try have hy8_4_1 : w4.heap.size + 1 < w8.heap.size := by omega)
        (try have hy8_4_2 : w4.heap.size + 1 + 1 < w8.heap.size := by omega)
        (try have hy8_4_3 : w4.heap.size + 1 + 1 + 1 < w8.heap.size := by omega)
        (try have hy8_4_4 : w4.heap.size + 1 + 1 + 1 + 1 < w8.heap.size := by omega)
        (try have hy8_4_5 : w4.heap.size + 1 + 1 + 1 + 1 + 1 < w8.heap.size := by omega)
        (try have hy8_5_0 : w5.heap.size < w8.heap.size := by omega)
        (try have hy8_5_1 : w5.heap.size + 1 < w8.heap.size := by omega)
        (try have hy8_5_2 : w5.heap.size + 1 + 1 < w8.heap.size := by omega)
        (try have hy8_5_3 : w5.heap.size + 1 + 1 + 1 < w8.heap.size := by omega)
        (try have hy8_5_4 : w5.heap.size + 1 + 1 + 1 + 1 < w8.heap.size := by omega)
        (try have hy8_5_5 : w5.heap.size + 1 + 1 + 1 + 1 + 1 < w8.heap.size := by omega)
        (try have hy8_6_0 : w6.heap.size < w8.heap.size := by omega)
        (try have hy8_6_1 : w6.heap.size + 1 < w8.heap.size := by omega)
        (try have hy8_6_2 : w6.heap.size + 1 + 1 < w8.heap.size := by omega)
        (try have hy8_6_3 : w6.heap.size + 1 + 1 + 1 < w8.heap.size := by omega)
        (try have hy8_6_4 : w6.heap.size + 1 + 1 + 1 + 1 < w8.heap.size := by omega)
        (try have hy8_6_5 : w6.heap.size + 1 + 1 + 1 + 1 + 1 < w8.heap.size := by omega)
        (try have hy8_7_0 : w7.heap.size < w8.heap.size := by omega)
        (try have hy8_7_1 : w7.heap.size + 1 < w8.heap.size := by omega)
        (try have hy8_7_2 : w7.heap.size + 1 + 1 < w8.heap.size := by omega)
        (try have hy8_7_3 : w7.heap.size + 1 + 1 + 1 < w8.heap.size := by omega)
        (try have hy8_7_4 : w7.heap.size + 1 + 1 + 1 + 1 < w8.heap.size := by omega)
        (try have hy8_7_5 : w7.heap.size + 1 + 1 + 1 + 1 + 1 < w8.heap.size := by omega)
        clear hb8 hq8
        cases lo
        all_goals
          go_wp2_with fail
          go_returns
          exact ⟨rfl, (by first | (go_grown; done) | (refine below_drewN ?_ _; go_grown; done) | (refine (below_drewN _ ?_); go_grown; done))⟩
  · go_enter Try.func5, Try.ntmps5
    go_wp2
    go_returns
    exact ⟨rfl, Below.refl _ _⟩
end Go.Proofs.Ytkiafgppooacdaa
