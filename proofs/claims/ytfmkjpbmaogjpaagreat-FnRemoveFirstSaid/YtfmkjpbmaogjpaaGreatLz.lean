/-
  The law that removing is undone, walked.
-/
import Derived.Test.YtfmkjpbmaogjpaaGreatDz
import Derived.Test.YtfmkjpbmaogjpaaGreatO
namespace Go.Proofs.YtfmkjpbmaogjpaaGreat
set_option linter.unusedSimpArgs false
set_option linter.unusedVariables false
open Go.RowKit
set_option maxRecDepth 20000 in
set_option maxHeartbeats 8000000 in
theorem law_FnRemoveFirst (a : Option Addr) (n cap : Nat) (zs : List Int) (w : World) (hrow : IsRow .u8 w a n cap zs) :
    Calls Tryz.prog 3 #[.slice a n cap] w fun e w' => e = .returned (.bool true) ∧ Below w.heap.size w w' := by
  have HB := Lib.hid (Bytes.of_row hrow)
  have hm : cap ≤ 9223372036854775807 := HB.out.2.1
  have hnc : n ≤ cap := HB.out.1
  clear hrow
  by_cases hn : n ≤ 1048576
  · go_enter Tryz.func3, Tryz.ntmps3
    go_wp2_with fail
    refine (drawRemoveFirst_any _ _ _ _ _ HB.out).mono ?_
    rintro e w1 ⟨k, ax, ay, az, bx, by', bz, rfl, hB1⟩
    have hs1 := hB1.size
    obtain ⟨⟨⟨x, y, z⟩, o⟩, ho⟩ : ∃ p, p = Agg.aRest k ⟨ax, ay, az⟩ ⟨bx, by', bz⟩ := ⟨_, rfl⟩
    have h1 := fun w => removeFirst_any k ax ay az bx by' bz w
    have h2 := fun w => s_removeFirst_any k ax ay az bx by' bz w
    rw [← ho] at h1 h2
    have H1 := Lib.hid h1
    have H2 := Lib.hid h2
    have HO := Lib.hid ho.symm
    clear h1 h2 ho
    (try go_wp2_with fail)
    refine (H1.out _).mono ?_
    rintro e w2 ⟨rfl, hb2⟩
    obtain ⟨hc2, hf2⟩ := bcell hb2
    have hq2 := hb2.size
    (try simp at hq2)
    have hB2 : Below w.heap.size w w2 := Below.trans (by go_grown) (hb2.mono (by first | (simp; done) | omega | (simp; omega)))
    have hs2 := hB2.size
    (try have hy2_0_0 : w.heap.size < w2.heap.size := by omega)
    (try have hy2_0_1 : w.heap.size + 1 < w2.heap.size := by omega)
    (try have hy2_0_2 : w.heap.size + 1 + 1 < w2.heap.size := by omega)
    (try have hy2_0_3 : w.heap.size + 1 + 1 + 1 < w2.heap.size := by omega)
    (try have hy2_0_4 : w.heap.size + 1 + 1 + 1 + 1 < w2.heap.size := by omega)
    (try have hy2_0_5 : w.heap.size + 1 + 1 + 1 + 1 + 1 < w2.heap.size := by omega)
    (try have hx2_0_1 : w.heap.size < w2.heap.size + 1 := by omega)
    (try have hx2_0_2 : w.heap.size < w2.heap.size + 1 + 1 := by omega)
    (try have hy2_1_0 : w1.heap.size < w2.heap.size := by omega)
    (try have hy2_1_1 : w1.heap.size + 1 < w2.heap.size := by omega)
    (try have hy2_1_2 : w1.heap.size + 1 + 1 < w2.heap.size := by omega)
    (try have hy2_1_3 : w1.heap.size + 1 + 1 + 1 < w2.heap.size := by omega)
    (try have hy2_1_4 : w1.heap.size + 1 + 1 + 1 + 1 < w2.heap.size := by omega)
    (try have hy2_1_5 : w1.heap.size + 1 + 1 + 1 + 1 + 1 < w2.heap.size := by omega)
    (try have hx2_1_1 : w1.heap.size < w2.heap.size + 1 := by omega)
    (try have hx2_1_2 : w1.heap.size < w2.heap.size + 1 + 1 := by omega)
    clear hb2 hq2
    (try go_wp2_with fail)
    refine (H2.out _).mono ?_
    rintro e w3 ⟨rfl, hb3⟩
    obtain ⟨hc3, hf3⟩ := bcell hb3
    have hq3 := hb3.size
    (try simp at hq3)
    have hB3 : Below w.heap.size w w3 := Below.trans (by go_grown) (hb3.mono (by first | (simp; done) | omega | (simp; omega)))
    have hs3 := hB3.size
    (try have hy3_0_0 : w.heap.size < w3.heap.size := by omega)
    (try have hy3_0_1 : w.heap.size + 1 < w3.heap.size := by omega)
    (try have hy3_0_2 : w.heap.size + 1 + 1 < w3.heap.size := by omega)
    (try have hy3_0_3 : w.heap.size + 1 + 1 + 1 < w3.heap.size := by omega)
    (try have hy3_0_4 : w.heap.size + 1 + 1 + 1 + 1 < w3.heap.size := by omega)
    (try have hy3_0_5 : w.heap.size + 1 + 1 + 1 + 1 + 1 < w3.heap.size := by omega)
    (try have hx3_0_1 : w.heap.size < w3.heap.size + 1 := by omega)
    (try have hx3_0_2 : w.heap.size < w3.heap.size + 1 + 1 := by omega)
    (try have hy3_1_0 : w1.heap.size < w3.heap.size := by omega)
    (try have hy3_1_1 : w1.heap.size + 1 < w3.heap.size := by omega)
    (try have hy3_1_2 : w1.heap.size + 1 + 1 < w3.heap.size := by omega)
    (try have hy3_1_3 : w1.heap.size + 1 + 1 + 1 < w3.heap.size := by omega)
    (try have hy3_1_4 : w1.heap.size + 1 + 1 + 1 + 1 < w3.heap.size := by omega)
    (try have hy3_1_5 : w1.heap.size + 1 + 1 + 1 + 1 + 1 < w3.heap.size := by omega)
    (try have hx3_1_1 : w1.heap.size < w3.heap.size + 1 := by omega)
    (try have hx3_1_2 : w1.heap.size < w3.heap.size + 1 + 1 := by omega)
    (try have hy3_2_0 : w2.heap.size < w3.heap.size := by omega)
    (try have hy3_2_1 : w2.heap.size + 1 < w3.heap.size := by omega)
    (try have hy3_2_2 : w2.heap.size + 1 + 1 < w3.heap.size := by omega)
    (try have hy3_2_3 : w2.heap.size + 1 + 1 + 1 < w3.heap.size := by omega)
    (try have hy3_2_4 : w2.heap.size + 1 + 1 + 1 + 1 < w3.heap.size := by omega)
    (try have hy3_2_5 : w2.heap.size + 1 + 1 + 1 + 1 + 1 < w3.heap.size := by omega)
    (try have hx3_2_1 : w2.heap.size < w3.heap.size + 1 := by omega)
    (try have hx3_2_2 : w2.heap.size < w3.heap.size + 1 + 1 := by omega)
    clear hb3 hq3
    clear H1 H2
    cases o
    · go_wp2_with fail
      go_returns
      exact ⟨rfl, (by first | (go_grown; done) | (refine below_drewN ?_ _; go_grown; done) | (refine (below_drewN _ ?_); go_grown; done))⟩
    · obtain ⟨hv, hc⟩ := Agg.aRest_back HO.out
      have h3 := fun w => combineValues_any k ax ay az x y z w
      have h4 := fun w => valueValid_any k x y z w
      rw [hc] at h3
      rw [hv] at h4
      have H3 := Lib.hid h3
      have H4 := Lib.hid h4
      clear h3 h4 hc hv
      (try go_wp2_with fail)
      refine (H3.out _).mono ?_
      rintro e w4 ⟨rfl, hb4⟩
      obtain ⟨hc4, hf4⟩ := bcell hb4
      have hq4 := hb4.size
      (try simp at hq4)
      have hB4 : Below w.heap.size w w4 := Below.trans (by go_grown) (hb4.mono (by first | (simp; done) | omega | (simp; omega)))
      have hs4 := hB4.size
      (try have hy4_0_0 : w.heap.size < w4.heap.size := by omega)
      (try have hy4_0_1 : w.heap.size + 1 < w4.heap.size := by omega)
      (try have hy4_0_2 : w.heap.size + 1 + 1 < w4.heap.size := by omega)
      (try have hy4_0_3 : w.heap.size + 1 + 1 + 1 < w4.heap.size := by omega)
      (try have hy4_0_4 : w.heap.size + 1 + 1 + 1 + 1 < w4.heap.size := by omega)
      (try have hy4_0_5 : w.heap.size + 1 + 1 + 1 + 1 + 1 < w4.heap.size := by omega)
      (try have hx4_0_1 : w.heap.size < w4.heap.size + 1 := by omega)
      (try have hx4_0_2 : w.heap.size < w4.heap.size + 1 + 1 := by omega)
      (try have hy4_1_0 : w1.heap.size < w4.heap.size := by omega)
      (try have hy4_1_1 : w1.heap.size + 1 < w4.heap.size := by omega)
      (try have hy4_1_2 : w1.heap.size + 1 + 1 < w4.heap.size := by omega)
      (try have hy4_1_3 : w1.heap.size + 1 + 1 + 1 < w4.heap.size := by omega)
      (try have hy4_1_4 : w1.heap.size + 1 + 1 + 1 + 1 < w4.heap.size := by omega)
      (try have hy4_1_5 : w1.heap.size + 1 + 1 + 1 + 1 + 1 < w4.heap.size := by omega)
      (try have hx4_1_1 : w1.heap.size < w4.heap.size + 1 := by omega)
      (try have hx4_1_2 : w1.heap.size < w4.heap.size + 1 + 1 := by omega)
      (try have hy4_2_0 : w2.heap.size < w4.heap.size := by omega)
      (try have hy4_2_1 : w2.heap.size + 1 < w4.heap.size := by omega)
      (try have hy4_2_2 : w2.heap.size + 1 + 1 < w4.heap.size := by omega)
      (try have hy4_2_3 : w2.heap.size + 1 + 1 + 1 < w4.heap.size := by omega)
      (try have hy4_2_4 : w2.heap.size + 1 + 1 + 1 + 1 < w4.heap.size := by omega)
      (try have hy4_2_5 : w2.heap.size + 1 + 1 + 1 + 1 + 1 < w4.heap.size := by omega)
      (try have hx4_2_1 : w2.heap.size < w4.heap.size + 1 := by omega)
      (try have hx4_2_2 : w2.heap.size < w4.heap.size + 1 + 1 := by omega)
      (try have hy4_3_0 : w3.heap.size < w4.heap.size := by omega)
      (try have hy4_3_1 : w3.heap.size + 1 < w4.heap.size := by omega)
      (try have hy4_3_2 : w3.heap.size + 1 + 1 < w4.heap.size := by omega)
      (try have hy4_3_3 : w3.heap.size + 1 + 1 + 1 < w4.heap.size := by omega)
      (try have hy4_3_4 : w3.heap.size + 1 + 1 + 1 + 1 < w4.heap.size := by omega)
      (try have hy4_3_5 : w3.heap.size + 1 + 1 + 1 + 1 + 1 < w4.heap.size := by omega)
      (try have hx4_3_1 : w3.heap.size < w4.heap.size + 1 := by omega)
      (try have hx4_3_2 : w3.heap.size < w4.heap.size + 1 + 1 := by omega)
      clear hb4 hq4
      (try go_wp2_with fail)
      refine (H4.out _).mono ?_
      rintro e w5 ⟨rfl, hb5⟩
      obtain ⟨hc5, hf5⟩ := bcell hb5
      have hq5 := hb5.size
      (try simp at hq5)
      have hB5 : Below w.heap.size w w5 := Below.trans (by go_grown) (hb5.mono (by first | (simp; done) | omega | (simp; omega)))
      have hs5 := hB5.size
      (try have hy5_0_0 : w.heap.size < w5.heap.size := by omega)
      (try have hy5_0_1 : w.heap.size + 1 < w5.heap.size := by omega)
      (try have hy5_0_2 : w.heap.size + 1 + 1 < w5.heap.size := by omega)
      (try have hy5_0_3 : w.heap.size + 1 + 1 + 1 < w5.heap.size := by omega)
      (try have hy5_0_4 : w.heap.size + 1 + 1 + 1 + 1 < w5.heap.size := by omega)
      (try have hy5_0_5 : w.heap.size + 1 + 1 + 1 + 1 + 1 < w5.heap.size := by omega)
      (try have hx5_0_1 : w.heap.size < w5.heap.size + 1 := by omega)
      (try have hx5_0_2 : w.heap.size < w5.heap.size + 1 + 1 := by omega)
      (try have hy5_1_0 : w1.heap.size < w5.heap.size := by omega)
      (try have hy5_1_1 : w1.heap.size + 1 < w5.heap.size := by omega)
      (try have hy5_1_2 : w1.heap.size + 1 + 1 < w5.heap.size := by omega)
      (try have hy5_1_3 : w1.heap.size + 1 + 1 + 1 < w5.heap.size := by omega)
      (try have hy5_1_4 : w1.heap.size + 1 + 1 + 1 + 1 < w5.heap.size := by omega)
      (try have hy5_1_5 : w1.heap.size + 1 + 1 + 1 + 1 + 1 < w5.heap.size := by omega)
      (try have hx5_1_1 : w1.heap.size < w5.heap.size + 1 := by omega)
      (try have hx5_1_2 : w1.heap.size < w5.heap.size + 1 + 1 := by omega)
      (try have hy5_2_0 : w2.heap.size < w5.heap.size := by omega)
      (try have hy5_2_1 : w2.heap.size + 1 < w5.heap.size := by omega)
      (try have hy5_2_2 : w2.heap.size + 1 + 1 < w5.heap.size := by omega)
      (try have hy5_2_3 : w2.heap.size + 1 + 1 + 1 < w5.heap.size := by omega)
      (try have hy5_2_4 : w2.heap.size + 1 + 1 + 1 + 1 < w5.heap.size := by omega)
      (try have hy5_2_5 : w2.heap.size + 1 + 1 + 1 + 1 + 1 < w5.heap.size := by omega)
      (try have hx5_2_1 : w2.heap.size < w5.heap.size + 1 := by omega)
      (try have hx5_2_2 : w2.heap.size < w5.heap.size + 1 + 1 := by omega)
      (try have hy5_3_0 : w3.heap.size < w5.heap.size := by omega)
      (try have hy5_3_1 : w3.heap.size + 1 < w5.heap.size := by omega)
      (try have hy5_3_2 : w3.heap.size + 1 + 1 < w5.heap.size := by omega)
      (try have hy5_3_3 : w3.heap.size + 1 + 1 + 1 < w5.heap.size := by omega)
      (try have hy5_3_4 : w3.heap.size + 1 + 1 + 1 + 1 < w5.heap.size := by omega)
      (try have hy5_3_5 : w3.heap.size + 1 + 1 + 1 + 1 + 1 < w5.heap.size := by omega)
      (try have hx5_3_1 : w3.heap.size < w5.heap.size + 1 := by omega)
      (try have hx5_3_2 : w3.heap.size < w5.heap.size + 1 + 1 := by omega)
      (try have hy5_4_0 : w4.heap.size < w5.heap.size := by omega)
      (try have hy5_4_1 : w4.heap.size + 1 < w5.heap.size := by omega)
      (try have hy5_4_2 : w4.heap.size + 1 + 1 < w5.heap.size := by omega)
      (try have hy5_4_3 : w4.heap.size + 1 + 1 + 1 < w5.heap.size := by omega)
      (try have hy5_4_4 : w4.heap.size + 1 + 1 + 1 + 1 < w5.heap.size := by omega)
      (try have hy5_4_5 : w4.heap.size + 1 + 1 + 1 + 1 + 1 < w5.heap.size := by omega)
      (try have hx5_4_1 : w4.heap.size < w5.heap.size + 1 := by omega)
      (try have hx5_4_2 : w4.heap.size < w5.heap.size + 1 + 1 := by omega)
      clear hb5 hq5
      go_wp2_with fail
      go_returns
      exact ⟨rfl, (by first | (go_grown; done) | (refine below_drewN ?_ _; go_grown; done) | (refine (below_drewN _ ?_); go_grown; done))⟩
  · go_enter Tryz.func3, Tryz.ntmps3
    go_wp2
    go_returns
    exact ⟨rfl, Below.refl _ _⟩
end Go.Proofs.YtfmkjpbmaogjpaaGreat
