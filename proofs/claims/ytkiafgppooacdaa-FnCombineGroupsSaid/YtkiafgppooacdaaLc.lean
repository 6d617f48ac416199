/-
  The law that grouping does not matter, walked.
-/
import Derived.Test.YtkiafgppooacdaaLb
namespace Go.Proofs.Ytkiafgppooacdaa
set_option linter.unusedSimpArgs false
set_option linter.unusedVariables false
open Go.RowKit
theorem Agg.aComb_true {k : Int} {a b v : Agg.V} (h : Agg.aComb k a b = (v, true)) : Agg.isKind k = true ∧ Agg.ok k a = true ∧ Agg.ok k b = true ∧ Agg.ok k v = true ∧ v = Agg.comb k a b := by
  unfold Agg.aComb Agg.give at h
  split at h
  · rename_i hh
    simp only [Bool.and_eq_true, Agg.valid] at hh
    simp only [Prod.mk.injEq, and_true] at h
    subst h
    exact ⟨hh.1.1.1, hh.1.1.2, hh.1.2.2, hh.2, rfl⟩
  · simp at h
theorem Agg.aComb_of {k : Int} {a b v : Agg.V} (hk : Agg.isKind k = true) (ha : Agg.ok k a = true) (hb : Agg.ok k b = true) (hv : Agg.ok k v = true) (e : Agg.comb k a b = v) : Agg.aComb k a b = (v, true) := by
  subst e
  simp [Agg.aComb, Agg.give, Agg.valid, hk, ha, hb, hv]
/-- Both groupings. -/
theorem Agg.aComb_groups {k : Int} {a b c ab bc l : Agg.V} (h1 : Agg.aComb k a b = (ab, true)) (h2 : Agg.aComb k ab c = (l, true)) (h3 : Agg.aComb k b c = (bc, true)) : Agg.aComb k a bc = (l, true) := by
  obtain ⟨hk, ha, hb, hab, rfl⟩ := Agg.aComb_true h1
  obtain ⟨-, -, hc, hl, rfl⟩ := Agg.aComb_true h2
  obtain ⟨-, -, -, hbc, rfl⟩ := Agg.aComb_true h3
  exact Agg.aComb_of hk ha hbc hl (Agg.assoc hk ha hb hc).symm
theorem Agg.aComb_units {k : Int} {a b ab : Agg.V} (h1 : Agg.aComb k a b = (ab, true)) : Agg.aUnit k = (Agg.unit k, true) ∧ Agg.aComb k (Agg.unit k) a = (a, true) ∧ Agg.aComb k a (Agg.unit k) = (a, true) := by
  obtain ⟨hk, ha, hb, hab, rfl⟩ := Agg.aComb_true h1
  exact ⟨by simp [Agg.aUnit, Agg.give, hk], Agg.aComb_of hk (Agg.ok_unit hk) ha ha (Agg.comb_unit_left hk ha), Agg.aComb_of hk ha (Agg.ok_unit hk) ha (Agg.comb_unit_right hk ha)⟩
set_option maxRecDepth 20000 in
set_option maxHeartbeats 16000000 in
theorem law_FnCombineGroups (a : Option Addr) (n cap : Nat) (zs : List Int) (a2 : Option Addr) (n2 cap2 : Nat) (zs2 : List Int) (w : World) (hrow : IsRow .u8 w a n cap zs) (hrow2 : IsRow .u8 w a2 n2 cap2 zs2) :
    Calls Try.prog 4 #[.slice a n cap, .slice a2 n2 cap2] w fun e w' => e = .returned (.bool true) ∧ Below w.heap.size w w' := by
  have HB := Lib.hid (Bytes.of_row hrow)
  have hm : cap ≤ 9223372036854775807 := HB.out.2.1
  have hnc : n ≤ cap := HB.out.1
  have HB' := Lib.hid (Bytes.of_row hrow2)
  have hm' : cap2 ≤ 9223372036854775807 := HB'.out.2.1
  have hnc' : n2 ≤ cap2 := HB'.out.1
  clear hrow hrow2
  by_cases hn : n ≤ 1048576
  · by_cases hn2 : n2 ≤ 1048576
    · go_enter Try.func4, Try.ntmps4
      go_wp2_with fail
      refine (drawCombineValues_any _ _ _ _ _ HB.out).mono ?_
      rintro e w1 ⟨k, ax, ay, az, bx, by', bz, rfl, fa, fb, hB1⟩
      clear fa fb
      have hs1 := hB1.size
      obtain ⟨⟨⟨x, y, z⟩, o⟩, ho⟩ : ∃ p, p = Agg.aComb k ⟨ax, ay, az⟩ ⟨bx, by', bz⟩ := ⟨_, rfl⟩
      have h1 := fun w => combineValues_any k ax ay az bx by' bz w
      have h2 := fun w => s_combineValues_any k ax ay az bx by' bz w
      rw [← ho] at h1 h2
      have H1 := Lib.hid h1
      have H2 := Lib.hid h2
      clear h1 h2
      have HO := Lib.hid ho.symm
      clear ho
      go_wp2_with fail
      refine (H1.out _).mono ?_
      rintro e w2 ⟨rfl, hb2⟩
      obtain ⟨hc2, hf2⟩ := bcell hb2
      have hq2 := hb2.size
      (try simp at hq2)
      have hB2 : Below w.heap.size w w2 := Below.trans (by go_grown) (hb2.mono (by first | (simp; done) | omega | (simp; omega)))
      have hs2 := hB2.size
      (try have hy2_0_0 : w.heap.size < w2.heap.size := by omega)
      (try have hy2_0_1 : w.heap.size + 1 < w2.heap.size := by omega)
      (try have hy2_0_2 : w.heap.size + 1 + 1 < w2.heap.size := by omega)
      (try have hy2_0_3 : w.heap.size + 1 + 1 + 1 < w2.heap.size := by omega)
      (try have hy2_0_4 : w.heap.size + 1 + 1 + 1 + 1 < w2.heap.size := by omega)
      (try have hy2_0_5 : w.heap.size + 1 + 1 + 1 + 1 + 1 < w2.heap.size := by omega)
      (try have hx2_0_1 : w.heap.size < w2.heap.size + 1 := by omega)
      (try have hx2_0_2 : w.heap.size < w2.heap.size + 1 + 1 := by omega)
      (try have hy2_1_0 : w1.heap.size < w2.heap.size := by omega)
      (try have hy2_1_1 : w1.heap.size + 1 < w2.heap.size := by omega)
      (try have hy2_1_2 : w1.heap.size + 1 + 1 < w2.heap.size := by omega)
      (try have hy2_1_3 : w1.heap.size + 1 + 1 + 1 < w2.heap.size := by omega)
      (try have hy2_1_4 : w1.heap.size + 1 + 1 + 1 + 1 < w2.heap.size := by omega)
      (try have hy2_1_5 : w1.heap.size + 1 + 1 + 1 + 1 + 1 < w2.heap.size := by omega)
      (try have hx2_1_1 : w1.heap.size < w2.heap.size + 1 := by omega)
      (try have hx2_1_2 : w1.heap.size < w2.heap.size + 1 + 1 := by omega)
      clear hb2 hq2
      go_wp2_with fail
      refine (H2.out _).mono ?_
      rintro e w3 ⟨rfl, hb3⟩
      obtain ⟨hc3, hf3⟩ := bcell hb3
      have hq3 := hb3.size
      (try simp at hq3)
      have hB3 : Below w.heap.size w w3 := Below.trans (by go_grown) (hb3.mono (by first | (simp; done) | omega | (simp; omega)))
      have hs3 := hB3.size
      (try have hy3_0_0 : w.heap.size < w3.heap.size := by omega)
      (try have hy3_0_1 : w.heap.size + 1 < w3.heap.size := by omega)
      (try have hy3_0_2 : w.heap.size + 1 + 1 < w3.heap.size := by omega)
      (try have hy3_0_3 : w.heap.size + 1 + 1 + 1 < w3.heap.size := by omega)
      (try have hy3_0_4 : w.heap.size + 1 + 1 + 1 + 1 < w3.heap.size := by omega)
      (try have hy3_0_5 : w.heap.size + 1 + 1 + 1 + 1 + 1 < w3.heap.size := by omega)
      (try have hx3_0_1 : w.heap.size < w3.heap.size + 1 := by omega)
      (try have hx3_0_2 : w.heap.size < w3.heap.size + 1 + 1 := by omega)
      (try have hy3_1_0 : w1.heap.size < w3.heap.size := by omega)
      (try have hy3_1_1 : w1.heap.size + 1 < w3.heap.size := by omega)
      (try have hy3_1_2 : w1.heap.size + 1 + 1 < w3.heap.size := by omega)
      (try have hy3_1_3 : w1.heap.size + 1 + 1 + 1 < w3.heap.size := by omega)
      (try have hy3_1_4 : w1.heap.size + 1 + 1 + 1 + 1 < w3.heap.size := by omega)
      (try have hy3_1_5 : w1.heap.size + 1 + 1 + 1 + 1 + 1 < w3.heap.size := by omega)
      (try have hx3_1_1 : w1.heap.size < w3.heap.size + 1 := by omega)
      (try have hx3_1_2 : w1.heap.size < w3.heap.size + 1 + 1 := by omega)
      (try have hy3_2_0 : w2.heap.size < w3.heap.size := by omega)
      (try have hy3_2_1 : w2.heap.size + 1 < w3.heap.size := by omega)
      (try have hy3_2_2 : w2.heap.size + 1 + 1 < w3.heap.size := by omega)
      (try have hy3_2_3 : w2.heap.size + 1 + 1 + 1 < w3.heap.size := by omega)
      (try have hy3_2_4 : w2.heap.size + 1 + 1 + 1 + 1 < w3.heap.size := by omega)
      (try have hy3_2_5 : w2.heap.size + 1 + 1 + 1 + 1 + 1 < w3.heap.size := by omega)
      (try have hx3_2_1 : w2.heap.size < w3.heap.size + 1 := by omega)
      (try have hx3_2_2 : w2.heap.size < w3.heap.size + 1 + 1 := by omega)
      clear hb3 hq3
      clear H1 H2
      cases o
      · go_wp2_with fail
        go_returns
        exact ⟨rfl, (by first | (go_grown; done) | (refine below_drewN ?_ _; go_grown; done) | (refine (below_drewN _ ?_); go_grown; done))⟩
      · obtain ⟨hu1, hu2, hu3⟩ := Agg.aComb_units HO.out
        obtain ⟨⟨ux, uy, uz⟩, hU⟩ : ∃ U, U = Agg.unit k := ⟨_, rfl⟩
        rw [← hU] at hu1 hu2 hu3
        have h3 := fun w => unitOf_any k w
        have h4 := fun w => combineValues_any k ux uy uz ax ay az w
        have h5 := fun w => combineValues_any k ax ay az ux uy uz w
        rw [hu1] at h3
        rw [hu2] at h4
        rw [hu3] at h5
        have H3 := Lib.hid h3
        have H4 := Lib.hid h4
        have H5 := Lib.hid h5
        clear h3 h4 h5 hu1 hu2 hu3 hU
        go_wp2_with fail
        refine (drawCombineValues_any _ _ _ _ _ (HB'.out.below (by go_grown))).mono ?_
        rintro e w4 ⟨j, cx, cy, cz, dx, dy, dz, rfl, fa, fb, hb4⟩
        obtain ⟨hc4, hf4⟩ := bcell hb4
        have hq4 := hb4.size
        (try simp at hq4)
        have hB4 : Below w.heap.size w w4 := Below.trans (by go_grown) (hb4.mono (by first | (simp; done) | omega | (simp; omega)))
        have hs4 := hB4.size
        (try have hy4_0_0 : w.heap.size < w4.heap.size := by omega)
        (try have hy4_0_1 : w.heap.size + 1 < w4.heap.size := by omega)
        (try have hy4_0_2 : w.heap.size + 1 + 1 < w4.heap.size := by omega)
        (try have hy4_0_3 : w.heap.size + 1 + 1 + 1 < w4.heap.size := by omega)
        (try have hy4_0_4 : w.heap.size + 1 + 1 + 1 + 1 < w4.heap.size := by omega)
        (try have hy4_0_5 : w.heap.size + 1 + 1 + 1 + 1 + 1 < w4.heap.size := by omega)
        (try have hx4_0_1 : w.heap.size < w4.heap.size + 1 := by omega)
        (try have hx4_0_2 : w.heap.size < w4.heap.size + 1 + 1 := by omega)
        (try have hy4_1_0 : w1.heap.size < w4.heap.size := by omega)
        (try have hy4_1_1 : w1.heap.size + 1 < w4.heap.size := by omega)
        (try have hy4_1_2 : w1.heap.size + 1 + 1 < w4.heap.size := by omega)
        (try have hy4_1_3 : w1.heap.size + 1 + 1 + 1 < w4.heap.size := by omega)
        (try have hy4_1_4 : w1.heap.size + 1 + 1 + 1 + 1 < w4.heap.size := by omega)
        (try have hy4_1_5 : w1.heap.size + 1 + 1 + 1 + 1 + 1 < w4.heap.size := by omega)
        (try have hx4_1_1 : w1.heap.size < w4.heap.size + 1 := by omega)
        (try have hx4_1_2 : w1.heap.size < w4.heap.size + 1 + 1 := by omega)
        (try have hy4_2_0 : w2.heap.size < w4.heap.size := by omega)
        (try have hy4_2_1 : w2.heap.size + 1 < w4.heap.size := by omega)
        (try have hy4_2_2 : w2.heap.size + 1 + 1 < w4.heap.size := by omega)
        (try have hy4_2_3 : w2.heap.size + 1 + 1 + 1 < w4.heap.size := by omega)
        (try have hy4_2_4 : w2.heap.size + 1 + 1 + 1 + 1 < w4.heap.size := by omega)
        (try have hy4_2_5 : w2.heap.size + 1 + 1 + 1 + 1 + 1 < w4.heap.size := by omega)
        (try have hx4_2_1 : w2.heap.size < w4.heap.size + 1 := by omega)
        (try have hx4_2_2 : w2.heap.size < w4.heap.size + 1 + 1 := by omega)
        (try have hy4_3_0 : w3.heap.size < w4.heap.size := by omega)
        (try have hy4_3_1 : w3.heap.size + 1 < w4.heap.size := by omega)
        (try have hy4_3_2 : w3.heap.size + 1 + 1 < w4.heap.size := by omega)
        (try have hy4_3_3 : w3.heap.size + 1 + 1 + 1 < w4.heap.size := by omega)
        (try have hy4_3_4 : w3.heap.size + 1 + 1 + 1 + 1 < w4.heap.size := by omega)
        (try have hy4_3_5 : w3.heap.size + 1 + 1 + 1 + 1 + 1 < w4.heap.size := by omega)
        (try have hx4_3_1 : w3.heap.size < w4.heap.size + 1 := by omega)
        (try have hx4_3_2 : w3.heap.size < w4.heap.size + 1 + 1 := by omega)
        clear hb4 hq4
        clear fa fb
        go_wp2_with fail
        refine (H3.out _).mono ?_
        rintro e w5 ⟨rfl, hb5⟩
        obtain ⟨hc5, hf5⟩ := bcell hb5
        have hq5 := hb5.size
        (try simp at hq5)
        have hB5 : Below w.heap.size w w5 := Below.trans (by go_grown) (hb5.mono (by first | (simp; done) | omega | (simp; omega)))
        have hs5 := hB5.size
        (try have hy5_0_0 : w.heap.size < w5.heap.size := by omega)
        (try have hy5_0_1 : w.heap.size + 1 < w5.heap.size := by omega)
        (try have hy5_0_2 : w.heap.size + 1 + 1 < w5.heap.size := by omega)
        (try have hy5_0_3 : w.heap.size + 1 + 1 + 1 < w5.heap.size := by omega)
        (try have hy5_0_4 : w.heap.size + 1 + 1 + 1 + 1 < w5.heap.size := by omega)
        (try have hy5_0_5 : w.heap.size + 1 + 1 + 1 + 1 + 1 < w5.heap.size := by omega)
        (try have hx5_0_1 : w.heap.size < w5.heap.size + 1 := by omega)
        (try have hx5_0_2 : w.heap.size < w5.heap.size + 1 + 1 := by omega)
        (try have hy5_1_0 : w1.heap.size < w5.heap.size := by omega)
        (try have hy5_1_1 : w1.heap.size + 1 < w5.heap.size := by omega)
        (try have hy5_1_2 : w1.heap.size + 1 + 1 < w5.heap.size := by omega)
        (try have hy5_1_3 : w1.heap.size + 1 + 1 + 1 < w5.heap.size := by omega)
        (try have hy5_1_4 : w1.heap.size + 1 + 1 + 1 + 1 < w5.heap.size := by omega)
        (try have hy5_1_5 : w1.heap.size + 1 + 1 + 1 + 1 + 1 < w5.heap.size := by omega)
        (try have hx5_1_1 : w1.heap.size < w5.heap.size + 1 := by omega)
        (try have hx5_1_2 : w1.heap.size < w5.heap.size + 1 + 1 := by omega)
        (try have hy5_2_0 : w2.heap.size < w5.heap.size := by omega)
        (try have hy5_2_1 : w2.heap.size + 1 < w5.heap.size := by omega)
        (try have hy5_2_2 : w2.heap.size + 1 + 1 < w5.heap.size := by omega)
        (try have hy5_2_3 : w2.heap.size + 1 + 1 + 1 < w5.heap.size := by omega)
        (try have hy5_2_4 : w2.heap.size + 1 + 1 + 1 + 1 < w5.heap.size := by omega)
        (try have hy5_2_5 : w2.heap.size + 1 + 1 + 1 + 1 + 1 < w5.heap.size := by omega)
        (try have hx5_2_1 : w2.heap.size < w5.heap.size + 1 := by omega)
        (try have hx5_2_2 : w2.heap.size < w5.heap.size + 1 + 1 := by omega)
        (try have hy5_3_0 : w3.heap.size < w5.heap.size := by omega)
        (try have hy5_3_1 : w3.heap.size + 1 < w5.heap.size := by omega)
        (try have hy5_3_2 : w3.heap.size + 1 + 1 < w5.heap.size := by omega)
        (try have hy5_3_3 : w3.heap.size + 1 + 1 + 1 < w5.heap.size := by omega)
        (try have hy5_3_4 : w3.heap.size + 1 + 1 + 1 + 1 < w5.heap.size := by omega)
        (try have hy5_3_5 : w3.heap.size + 1 + 1 + 1 + 1 + 1 < w5.heap.size := by omega)
        (try have hx5_3_1 : w3.heap.size < w5.heap.size + 1 := by omega)
        (try have hx5_3_2 : w3.heap.size < w5.heap.size + 1 + 1 := by omega)
        (try have hy5_4_0 : w4.heap.size < w5.heap.size := by omega)
        (try have hy5_4_1 : w4.heap.size + 1 < w5.heap.size := by omega)
        (try have hy5_4_2 : w4.heap.size + 1 + 1 < w5.heap.size := by omega)
        (try have hy5_4_3 : w4.heap.size + 1 + 1 + 1 < w5.heap.size := by omega)
        (try have hy5_4_4 : w4.heap.size + 1 + 1 + 1 + 1 < w5.heap.size := by omega)
        (try have hy5_4_5 : w4.heap.size + 1 + 1 + 1 + 1 + 1 < w5.heap.size := by omega)
        (try have hx5_4_1 : w4.heap.size < w5.heap.size + 1 := by omega)
        (try have hx5_4_2 : w4.heap.size < w5.heap.size + 1 + 1 := by omega)
        clear hb5 hq5
        go_wp2_with fail
        refine (H4.out _).mono ?_
        rintro e w6 ⟨rfl, hb6⟩
        obtain ⟨hc6, hf6⟩ := bcell hb6
        have hq6 := hb6.size
        (try simp at hq6)
        have hB6 : Below w.heap.size w w6 := Below.trans (by go_grown) (hb6.mono (by first | (simp; done) | omega | (simp; omega)))
        have hs6 := hB6.size
        (try have hy6_0_0 : w.heap.size < w6.heap.size := by omega)
        (try have hy6_0_1 : w.heap.size + 1 < w6.heap.size := by omega)
        (try have hy6_0_2 : w.heap.size + 1 + 1 < w6.heap.size := by omega)
        (try have hy6_0_3 : w.heap.size + 1 + 1 + 1 < w6.heap.size := by omega)
        (try have hy6_0_4 : w.heap.size + 1 + 1 + 1 + 1 < w6.heap.size := by omega)
        (try have hy6_0_5 : w.heap.size + 1 + 1 + 1 + 1 + 1 < w6.heap.size := by omega)
        (try have hx6_0_1 : w.heap.size < w6.heap.size + 1 := by omega)
        (try have hx6_0_2 : w.heap.size < w6.heap.size + 1 + 1 := by omega)
        (try have hy6_1_0 : w1.heap.size < w6.heap.size := by omega)
        (try have hy6_1_1 : w1.heap.size + 1 < w6.heap.size := by omega)
        (try have hy6_1_2 : w1.heap.size + 1 + 1 < w6.heap.size := by omega)
        (try have hy6_1_3 : w1.heap.size + 1 + 1 + 1 < w6.heap.size := by omega)
        (try have hy6_1_4 : w1.heap.size + 1 + 1 + 1 + 1 < w6.heap.size := by omega)
        (try have hy6_1_5 : w1.heap.size + 1 + 1 + 1 + 1 + 1 < w6.heap.size := by omega)
        (try have hx6_1_1 : w1.heap.size < w6.heap.size + 1 := by omega)
        (try have hx6_1_2 : w1.heap.size < w6.heap.size + 1 + 1 := by omega)
        (try have hy6_2_0 : w2.heap.size < w6.heap.size := by omega)
        (try have hy6_2_1 : w2.heap.size + 1 < w6.heap.size := by omega)
        (try have hy6_2_2 : w2.heap.size + 1 + 1 < w6.heap.size := by omega)
        (try have hy6_2_3 : w2.heap.size + 1 + 1 + 1 < w6.heap.size := by omega)
        (try have hy6_2_4 : w2.heap.size + 1 + 1 + 1 + 1 < w6.heap.size := by omega)
        (try have hy6_2_5 : w2.heap.size + 1 + 1 + 1 + 1 + 1 < w6.heap.size := by omega)
        (try have hx6_2_1 : w2.heap.size < w6.heap.size + 1 := by omega)
        (try have hx6_2_2 : w2.heap.size < w6.heap.size + 1 + 1 := by omega)
        (try have hy6_3_0 : w3.heap.size < w6.heap.size := by omega)
        (try have hy6_3_1 : w3.heap.size + 1 < w6.heap.size := by omega)
        (try have hy6_3_2 : w3.heap.size + 1 + 1 < w6.heap.size := by omega)
        (try have hy6_3_3 : w3.heap.size + 1 + 1 + 1 < w6.heap.size := by omega)
        (try have hy6_3_4 : w3.heap.size + 1 + 1 + 1 + 1 < w6.heap.size := by omega)
        (try have hy6_3_5 : w3.heap.size + 1 + 1 + 1 + 1 + 1 < w6.heap.size := by omega)
        (try have hx6_3_1 : w3.heap.size < w6.heap.size + 1 := by omega)
        (try have hx6_3_2 : w3.heap.size < w6.heap.size + 1 + 1 := by omega)
        (try have hy6_4_0 : w4.heap.size < w6.heap.size := by omega)
        (try have hy6_4_1 : w4.heap.size + 1 < w6.heap.size := by omega)
        (try have hy6_4_2 : w4.heap.size + 1 + 1 < w6.heap.size := by omega)
        (try have hy6_4_3 : w4.heap.size + 1 + 1 + 1 < w6.heap.size := by omega)
        (try have hy6_4_4 : w4.heap.size + 1 + 1 + 1 + 1 < w6.heap.size := by omega)
        (try have hy6_4_5 : w4.heap.size + 1 + 1 + 1 + 1 + 1 < w6.heap.size := by omega)
        (try have hx6_4_1 : w4.heap.size < w6.heap.size + 1 := by omega)
        (try have hx6_4_2 : w4.heap.size < w6.heap.size + 1 + 1 := by omega)
        (try have hy6_5_0 : w5.heap.size < w6.heap.size := by omega)
        (try have hy6_5_1 : w5.heap.size + 1 < w6.heap.size := by omega)
        (try have hy6_5_2 : w5.heap.size + 1 + 1 < w6.heap.size := by omega)
        (try have hy6_5_3 : w5.heap.size + 1 + 1 + 1 < w6.heap.size := by omega)
        (try have hy6_5_4 : w5.heap.size + 1 + 1 + 1 + 1 < w6.heap.size := by omega)
        (try have hy6_5_5 : w5.heap.size + 1 + 1 + 1 + 1 + 1 < w6.heap.size := by omega)
        (try have hx6_5_1 : w5.heap.size < w6.heap.size + 1 := by omega)
        (try have hx6_5_2 : w5.heap.size < w6.heap.size + 1 + 1 := by omega)
        clear hb6 hq6
        go_wp2_with fail
        refine (H5.out _).mono ?_
        rintro e w7 ⟨rfl, hb7⟩
        obtain ⟨hc7, hf7⟩ := bcell hb7
        have hq7 := hb7.size
        (try simp at hq7)
        have hB7 : Below w.heap.size w w7 := Below.trans (by go_grown) (hb7.mono (by first | (simp; done) | omega | (simp; omega)))
        have hs7 := hB7.size
        (try have hy7_0_0 : w.heap.size < w7.heap.size := by omega)
        (try have hy7_0_1 : w.heap.size + 1 < w7.heap.size := by omega)
        (try have hy7_0_2 : w.heap.size + 1 + 1 < w7.heap.size := by omega)
        (try have hy7_0_3 : w.heap.size + 1 + 1 + 1 < w7.heap.size := by omega)
        (try have hy7_0_4 : w.heap.size + 1 + 1 + 1 + 1 < w7.heap.size := by omega)
        (try have hy7_0_5 : w.heap.size + 1 + 1 + 1 + 1 + 1 < w7.heap.size := by omega)
        (try have hx7_0_1 : w.heap.size < w7.heap.size + 1 := by omega)
        (try have hx7_0_2 : w.heap.size < w7.heap.size + 1 + 1 := by omega)
        (try have hy7_1_0 : w1.heap.size < w7.heap.size := by omega)
        (try have hy7_1_1 : w1.heap.size + 1 < w7.heap.size := by omega)
        (try have hy7_1_2 : w1.heap.size + 1 + 1 < w7.heap.size := by omega)
        (try have hy7_1_3 : w1.heap.size + 1 + 1 + 1 < w7.heap.size := by omega)
        (try have hy7_1_4 : w1.heap.size + 1 + 1 + 1 + 1 < w7.heap.size := by omega)
        (try have hy7_1_5 : w1.heap.size + 1 + 1 + 1 + 1 + 1 < w7.heap.size := by omega)
        (try have hx7_1_1 : w1.heap.size < w7.heap.size + 1 := by omega)
        (try have hx7_1_2 : w1.heap.size < w7.heap.size + 1 + 1 := by omega)
        (try have hy7_2_0 : w2.heap.size < w7.heap.size := by omega)
        (try have hy7_2_1 : w2.heap.size + 1 < w7.heap.size := by omega)
        (try have hy7_2_2 : w2.heap.size + 1 + 1 < w7.heap.size := by omega)
        (try have hy7_2_3 : w2.heap.size + 1 + 1 + 1 < w7.heap.size := by omega)
        (try have hy7_2_4 : w2.heap.size + 1 + 1 + 1 + 1 < w7.heap.size := by omega)
        (try have hy7_2_5 : w2.heap.size + 1 + 1 + 1 + 1 + 1 < w7.heap.size := by omega)
        (try have hx7_2_1 : w2.heap.size < w7.heap.size + 1 := by omega)
        (try have hx7_2_2 : w2.heap.size < w7.heap.size + 1 + 1 := by omega)
        (try have hy7_3_0 : w3.heap.size < w7.heap.size := by omega)
        (try have hy7_3_1 : w3.heap.size + 1 < w7.heap.size := by omega)
        (try have hy7_3_2 : w3.heap.size + 1 + 1 < w7.heap.size := by omega)
        (try have hy7_3_3 : w3.heap.size + 1 + 1 + 1 < w7.heap.size := by omega)
        (try have hy7_3_4 : w3.heap.size + 1 + 1 + 1 + 1 < w7.heap.size := by omega)
        (try have hy7_3_5 : w3.heap.size + 1 + 1 + 1 + 1 + 1 < w7.heap.size := by omega)
        (try have hx7_3_1 : w3.heap.size < w7.heap.size + 1 := by omega)
        (try have hx7_3_2 : w3.heap.size < w7.heap.size + 1 + 1 := by omega)
        (try have hy7_4_0 : w4.heap.size < w7.heap.size := by omega)
        (try have hy7_4_1 : w4.heap.size + 1 < w7.heap.size := by omega)
        (try have hy7_4_2 : w4.heap.size + 1 + 1 < w7.heap.size := by omega)
        (try have hy7_4_3 : w4.heap.size + 1 + 1 + 1 < w7.heap.size := by omega)
        (try have hy7_4_4 : w4.heap.size + 1 + 1 + 1 + 1 < w7.heap.size := by omega)
        (try have hy7_4_5 : w4.heap.size + 1 + 1 + 1 + 1 + 1 < w7.heap.size := by omega)
        (try have hx7_4_1 : w4.heap.size < w7.heap.size + 1 := by omega)
        (try have hx7_4_2 : w4.heap.size < w7.heap.size + 1 + 1 := by omega)
        (try have hy7_5_0 : w5.heap.size < w7.heap.size := by omega)
        (try have hy7_5_1 : w5.heap.size + 1 < w7.heap.size := by omega)
        (try have hy7_5_2 : w5.heap.size + 1 + 1 < w7.heap.size := by omega)
        (try have hy7_5_3 : w5.heap.size + 1 + 1 + 1 < w7.heap.size := by omega)
        (try have hy7_5_4 : w5.heap.size + 1 + 1 + 1 + 1 < w7.heap.size := by omega)
        (try have hy7_5_5 : w5.heap.size + 1 + 1 + 1 + 1 + 1 < w7.heap.size := by omega)
        (try have hx7_5_1 : w5.heap.size < w7.heap.size + 1 := by omega)
        (try have hx7_5_2 : w5.heap.size < w7.heap.size + 1 + 1 := by omega)
        (try have hy7_6_0 : w6.heap.size < w7.heap.size := by omega)
        (try have hy7_6_1 : w6.heap.size + 1 < w7.heap.size := by omega)
        (try have hy7_6_2 : w6.heap.size + 1 + 1 < w7.heap.size := by omega)
        (try have hy7_6_3 : w6.heap.size + 1 + 1 + 1 < w7.heap.size := by omega)
        (try have hy7_6_4 : w6.heap.size + 1 + 1 + 1 + 1 < w7.heap.size := by omega)
        (try have hy7_6_5 : w6.heap.size + 1 + 1 + 1 + 1 + 1 < w7.heap.size := by omega)
        (try have hx7_6_1 : w6.heap.size < w7.heap.size + 1 := by omega)
        (try have hx7_6_2 : w6.heap.size < w7.heap.size + 1 + 1 := by omega)
        clear hb7 hq7
        clear H3 H4 H5
        by_cases hj : j = k
        · subst hj
          obtain ⟨vc, hvc⟩ : ∃ b, b = Agg.valid j ⟨cx, cy, cz⟩ := ⟨_, rfl⟩
          obtain ⟨vd, hvd⟩ : ∃ b, b = Agg.valid j ⟨dx, dy, dz⟩ := ⟨_, rfl⟩
          have h6 := fun w => valueValid_any j cx cy cz w
          have h7 := fun w => valueValid_any j dx dy dz w
          rw [← hvc] at h6
          rw [← hvd] at h7
          have H6 := Lib.hid h6
          have H7 := Lib.hid h7
          clear h6 h7 hvc hvd
          go_wp2_with fail
          refine (H6.out _).mono ?_
          rintro e w8 ⟨rfl, hb8⟩
          obtain ⟨hc8, hf8⟩ := bcell hb8
          have hq8 := hb8.size
          (try simp at hq8)
          have hB8 : Below w.heap.size w w8 := Below.trans (by go_grown) (hb8.mono (by first | (simp; done) | omega | (simp; omega)))
          have hs8 := hB8.size
          (try have hy8_0_0 : w.heap.size < w8.heap.size := by omega)
          (try have hy8_0_1 : w.heap.size + 1 < w8.heap.size := by omega)
          (try have hy8_0_2 : w.heap.size + 1 + 1 < w8.heap.size := by omega)
          (try have hy8_0_3 : w.heap.size + 1 + 1 + 1 < w8.heap.size := by omega)
          (try have hy8_0_4 : w.heap.size + 1 + 1 + 1 + 1 < w8.heap.size := by omega)
          (try have hy8_0_5 : w.heap.size + 1 + 1 + 1 + 1 + 1 < w8.heap.size := by omega)
          (try have hx8_0_1 : w.heap.size < w8.heap.size + 1 := by omega)
          (try have hx8_0_2 : w.heap.size < w8.heap.size + 1 + 1 := by omega)
          (try have hy8_1_0 : w1.heap.size < w8.heap.size := by omega)
          (try have hy8_1_1 : w1.heap.size + 1 < w8.heap.size := by omega)
          (try have hy8_1_2 : w1.heap.size + 1 + 1 < w8.heap.size := by omega)
          (try have hy8_1_3 : w1.heap.size + 1 + 1 + 1 < w8.heap.size := by omega)
          (try have hy8_1_4 : w1.heap.size + 1 + 1 + 1 + 1 < w8.heap.size := by omega)
          (try have hy8_1_5 : w1.heap.size + 1 + 1 + 1 + 1 + 1 < w8.heap.size := by omega)
          (try have hx8_1_1 : w1.heap.size < w8.heap.size + 1 := by omega)
          (try have hx8_1_2 : w1.heap.size < w8.heap.size + 1 + 1 := by omega)
          (try have hy8_2_0 : w2.heap.size < w8.heap.size := by omega)
          (try have hy8_2_1 : w2.heap.size + 1 < w8.heap.size := by omega)
          (try have hy8_2_2 : w2.heap.size + 1 + 1 < w8.heap.size := by omega)
          (try have hy8_2_3 : w2.heap.size + 1 + 1 + 1 < w8.heap.size := by omega)
          (try have hy8_2_4 : w2.heap.size + 1 + 1 + 1 + 1 < w8.heap.size := by omega)
          (try have hy8_2_5 : w2.heap.size + 1 + 1 + 1 + 1 + 1 < w8.heap.size := by omega)
          (try have hx8_2_1 : w2.heap.size < w8.heap.size + 1 := by omega)
          (try have hx8_2_2 : w2.heap.size < w8.heap.size + 1 + 1 := by omega)
          (try have hy8_3_0 : w3.heap.size < w8.heap.size := by omega)
          (try have hy8_3_1 : w3.heap.size + 1 < w8.heap.size := by omega)
          (try have hy8_3_2 : w3.heap.size + 1 + 1 < w8.heap.size := by omega)
          (try have hy8_3_3 : w3.heap.size + 1 + 1 + 1 < w8.heap.size := by omega)
          (try have hy8_3_4 : w3.heap.size + 1 + 1 + 1 + 1 < w8.heap.size := by omega)
          (try have hy8_3_5 : w3.heap.size + 1 + 1 + 1 + 1 + 1 < w8.heap.size := by omega)
          (try have hx8_3_1 : w3.heap.size < w8.heap.size + 1 := by omega)
          (try have hx8_3_2 : w3.heap.size < w8.heap.size + 1 + 1 := by omega)
          (try have hy8_4_0 : w4.heap.size < w8.heap.size := by omega)
          (try have hy8_4_1 : w4.heap.size + 1 < w8.heap.size := by omega)
          (try have hy8_4_2 : w4.heap.size + 1 + 1 < w8.heap.size := by omega)
          (try have hy8_4_3 : w4.heap.size + 1 + 1 + 1 < w8.heap.size := by omega)
          (try have hy8_4_4 : w4.heap.size + 1 + 1 + 1 + 1 < w8.heap.size := by omega)
          (try have hy8_4_5 : w4.heap.size + 1 + 1 + 1 + 1 + 1 < w8.heap.size := by omega)
          (try have hx8_4_1 : w4.heap.size < w8.heap.size + 1 := by omega)
          (try have hx8_4_2 : w4.heap.size < w8.heap.size + 1 + 1 := by omega)
          (try have hy8_5_0 : w5.heap.size < w8.heap.size := by omega)
          (try have hy8_5_1 : w5.heap.size + 1 < w8.heap.size := by omega)
          (try have hy8_5_2 : w5.heap.size + 1 + 1 < w8.heap.size := by omega)
          (try have hy8_5_3 : w5.heap.size + 1 + 1 + 1 < w8.heap.size := by omega)
          (try have hy8_5_4 : w5.heap.size + 1 + 1 + 1 + 1 < w8.heap.size := by omega)
          (try have hy8_5_5 : w5.heap.size + 1 + 1 + 1 + 1 + 1 < w8.heap.size := by omega)
          (try have hx8_5_1 : w5.heap.size < w8.heap.size + 1 := by omega)
          (try have hx8_5_2 : w5.heap.size < w8.heap.size + 1 + 1 := by omega)
          (try have hy8_6_0 : w6.heap.size < w8.heap.size := by omega)
          (try have hy8_6_1 : w6.heap.size + 1 < w8.heap.size := by omega)
          (try have hy8_6_2 : w6.heap.size + 1 + 1 < w8.heap.size := by omega)
          (try have hy8_6_3 : w6.heap.size + 1 + 1 + 1 < w8.heap.size := by omega)
          (try have hy8_6_4 : w6.heap.size + 1 + 1 + 1 + 1 < w8.heap.size := by omega)
          (try have hy8_6_5 : w6.heap.size + 1 + 1 + 1 + 1 + 1 < w8.heap.size := by omega)
          (try have hx8_6_1 : w6.heap.size < w8.heap.size + 1 := by omega)
          (try have hx8_6_2 : w6.heap.size < w8.heap.size + 1 + 1 := by omega)
          (try have hy8_7_0 : w7.heap.size < w8.heap.size := by omega)
          (try have hy8_7_1 : w7.heap.size + 1 < w8.heap.size := by omega)
          (try have hy8_7_2 : w7.heap.size + 1 + 1 < w8.heap.size := by omega)
          (try have hy8_7_3 : w7.heap.size + 1 + 1 + 1 < w8.heap.size := by omega)
          (try have hy8_7_4 : w7.heap.size + 1 + 1 + 1 + 1 < w8.heap.size := by omega)
          (try have hy8_7_5 : w7.heap.size + 1 + 1 + 1 + 1 + 1 < w8.heap.size := by omega)
          (try have hx8_7_1 : w7.heap.size < w8.heap.size + 1 := by omega)
          (try have hx8_7_2 : w7.heap.size < w8.heap.size + 1 + 1 := by omega)
          clear hb8 hq8
          cases vc
          · go_wp2_with fail
            go_returns
            exact ⟨rfl, (by first | (go_grown; done) | (refine below_drewN ?_ _; go_grown; done) | (refine (below_drewN _ ?_); go_grown; done))⟩
          · skip
            go_wp2_with fail
            refine (H7.out _).mono ?_
            rintro e w9 ⟨rfl, hb9⟩
            obtain ⟨hc9, hf9⟩ := bcell hb9
            have hq9 := hb9.size
            (try simp at hq9)
            have hB9 : Below w.heap.size w w9 := Below.trans (by go_grown) (hb9.mono (by first | (simp; done) | omega | (simp; omega)))
            have hs9 := hB9.size
            (try have hy9_0_0 : w.heap.size < w9.heap.size := by omega)
            (try have hy9_0_1 : w.heap.size + 1 < w9.heap.size := by omega)
            (try have hy9_0_2 : w.heap.size + 1 + 1 < w9.heap.size := by omega)
            (try have hy9_0_3 : w.heap.size + 1 + 1 + 1 < w9.heap.size := by omega)
            (try have hy9_0_4 : w.heap.size + 1 + 1 + 1 + 1 < w9.heap.size := by omega)
            (try have hy9_0_5 : w.heap.size + 1 + 1 + 1 + 1 + 1 < w9.heap.size := by omega)
            (try have hx9_0_1 : w.heap.size < w9.heap.size + 1 := by omega)
            (try have hx9_0_2 : w.heap.size < w9.heap.size + 1 + 1 := by omega)
            (try have hy9_1_0 : w1.heap.size < w9.heap.size := by omega)
            (try have hy9_1_1 : w1.heap.size + 1 < w9.heap.size := by omega)
            (try have hy9_1_2 : w1.heap.size + 1 + 1 < w9.heap.size := by omega)
            (try have hy9_1_3 : w1.heap.size + 1 + 1 + 1 < w9.heap.size := by omega)
            (try have hy9_1_4 : w1.heap.size + 1 + 1 + 1 + 1 < w9.heap.size := by omega)
            (try have hy9_1_5 : w1.heap.size + 1 + 1 + 1 + 1 + 1 < w9.heap.size := by omega)
            (try have hx9_1_1 : w1.heap.size < w9.heap.size + 1 := by omega)
            (try have hx9_1_2 : w1.heap.size < w9.heap.size + 1 + 1 := by omega)
            (try have hy9_2_0 : w2.heap.size < w9.heap.size := by omega)
            (try have hy9_2_1 : w2.heap.size + 1 < w9.heap.size := by omega)
            (try have hy9_2_2 : w2.heap.size + 1 + 1 < w9.heap.size := by omega)
            (try have hy9_2_3 : w2.heap.size + 1 + 1 + 1 < w9.heap.size := by omega)
            (try have hy9_2_4 : w2.heap.size + 1 + 1 + 1 + 1 < w9.heap.size := by omega)
            (try have hy9_2_5 : w2.heap.size + 1 + 1 + 1 + 1 + 1 < w9.heap.size := by omega)
            (try have hx9_2_1 : w2.heap.size < w9.heap.size + 1 := by omega)
            (try have hx9_2_2 : w2.heap.size < w9.heap.size + 1 + 1 := by omega)
            (try have hy9_3_0 : w3.heap.size < w9.heap.size := by omega)
            (try have hy9_3_1 : w3.heap.size + 1 < w9.heap.size := by omega)
            (try have hy9_3_2 : w3.heap.size + 1 + 1 < w9.heap.size := by omega)
            (try have hy9_3_3 : w3.heap.size + 1 + 1 + 1 < w9.heap.size := by omega)
            (try have hy9_3_4 : w3.heap.size + 1 + 1 + 1 + 1 < w9.heap.size := by omega)
            (try have hy9_3_5 : w3.heap.size + 1 + 1 + 1 + 1 + 1 < w9.heap.size := by omega)
            (try have hx9_3_1 : w3.heap.size < w9.heap.size + 1 := by omega)
            (try have hx9_3_2 : w3.heap.size < w9.heap.size + 1 + 1 := by omega)
            (try have hy9_4_0 : w4.heap.size < w9.heap.size := by omega)
            (try have hy9_4_1 : w4.heap.size + 1 < w9.heap.size := by omega)
            (try have hy9_4_2 : w4.heap.size + 1 + 1 < w9.heap.size := by omega)
            (try have hy9_4_3 : w4.heap.size + 1 + 1 + 1 < w9.heap.size := by omega)
            (try have hy9_4_4 : w4.heap.size + 1 + 1 + 1 + 1 < w9.heap.size := by omega)
            (try have hy9_4_5 : w4.heap.size + 1 + 1 + 1 + 1 + 1 < w9.heap.size := by omega)
            (try have hx9_4_1 : w4.heap.size < w9.heap.size + 1 := by omega)
            (try have hx9_4_2 : w4.heap.size < w9.heap.size + 1 + 1 := by omega)
            (try have hy9_5_0 : w5.heap.size < w9.heap.size := by omega)
            (try have hy9_5_1 : w5.heap.size + 1 < w9.heap.size := by omega)
            (try have hy9_5_2 : w5.heap.size + 1 + 1 < w9.heap.size := by omega)
            (try have hy9_5_3 : w5.heap.size + 1 + 1 + 1 < w9.heap.size := by omega)
            (try have hy9_5_4 : w5.heap.size + 1 + 1 + 1 + 1 < w9.heap.size := by omega)
            (try have hy9_5_5 : w5.heap.size + 1 + 1 + 1 + 1 + 1 < w9.heap.size := by omega)
            (try have hx9_5_1 : w5.heap.size < w9.heap.size + 1 := by omega)
            (try have hx9_5_2 : w5.heap.size < w9.heap.size + 1 + 1 := by omega)
            (try have hy9_6_0 : w6.heap.size < w9.heap.size := by omega)
            (try have hy9_6_1 : w6.heap.size + 1 < w9.heap.size := by omega)
            (try have hy9_6_2 : w6.heap.size + 1 + 1 < w9.heap.size := by omega)
            (try have hy9_6_3 : w6.heap.size + 1 + 1 + 1 < w9.heap.size := by omega)
            (try have hy9_6_4 : w6.heap.size + 1 + 1 + 1 + 1 < w9.heap.size := by omega)
            (try have hy9_6_5 : w6.heap.size + 1 + 1 + 1 + 1 + 1 < w9.heap.size := by omega)
            (try have hx9_6_1 : w6.heap.size < w9.heap.size + 1 := by omega)
            (try have hx9_6_2 : w6.heap.size < w9.heap.size + 1 + 1 := by omega)
            (try have hy9_7_0 : w7.heap.size < w9.heap.size := by omega)
            (try have hy9_7_1 : w7.heap.size + 1 < w9.heap.size := by omega)
            (try have hy9_7_2 : w7.heap.size + 1 + 1 < w9.heap.size := by omega)
            (try have hy9_7_3 : w7.heap.size + 1 + 1 + 1 < w9.heap.size := by omega)
            (try have hy9_7_4 : w7.heap.size + 1 + 1 + 1 + 1 < w9.heap.size := by omega)
            (try have hy9_7_5 : w7.heap.size + 1 + 1 + 1 + 1 + 1 < w9.heap.size := by omega)
            (try have hx9_7_1 : w7.heap.size < w9.heap.size + 1 := by omega)
            (try have hx9_7_2 : w7.heap.size < w9.heap.size + 1 + 1 := by omega)
            (try have hy9_8_0 : w8.heap.size < w9.heap.size := by omega)
            (try have hy9_8_1 : w8.heap.size + 1 < w9.heap.size := by omega)
            (try have hy9_8_2 : w8.heap.size + 1 + 1 < w9.heap.size := by omega)
            (try have hy9_8_3 : w8.heap.size + 1 + 1 + 1 < w9.heap.size := by omega)
            (try have hy9_8_4 : w8.heap.size + 1 + 1 + 1 + 1 < w9.heap.size := by omega)
            (try have hy9_8_5 : w8.heap.size + 1 + 1 + 1 + 1 + 1 < w9.heap.size := by omega)
            (try have hx9_8_1 : w8.heap.size < w9.heap.size + 1 := by omega)
            (try have hx9_8_2 : w8.heap.size < w9.heap.size + 1 + 1 := by omega)
            clear hb9 hq9
            cases vd
            · go_wp2_with fail
              go_returns
              exact ⟨rfl, (by first | (go_grown; done) | (refine below_drewN ?_ _; go_grown; done) | (refine (below_drewN _ ?_); go_grown; done))⟩
            · obtain ⟨⟨⟨lx, ly, lz⟩, p⟩, hp⟩ : ∃ p, p = Agg.aComb j ⟨x, y, z⟩ ⟨cx, cy, cz⟩ := ⟨_, rfl⟩
              obtain ⟨⟨⟨mx, my, mz⟩, q⟩, hq⟩ : ∃ p, p = Agg.aComb j ⟨bx, by', bz⟩ ⟨cx, cy, cz⟩ := ⟨_, rfl⟩
              have h8 := fun w => combineValues_any j x y z cx cy cz w
              have h9 := fun w => combineValues_any j bx by' bz cx cy cz w
              rw [← hp] at h8
              rw [← hq] at h9
              have H8 := Lib.hid h8
              have H9 := Lib.hid h9
              clear h8 h9
              have HP := Lib.hid hp.symm
              have HQ := Lib.hid hq.symm
              clear hp hq
              go_wp2_with fail
              refine (H8.out _).mono ?_
              rintro e w10 ⟨rfl, hb10⟩
              obtain ⟨hc10, hf10⟩ := bcell hb10
              have hq10 := hb10.size
              (try simp at hq10)
              have hB10 : Below w.heap.size w w10 := Below.trans (by go_grown) (hb10.mono (by first | (simp; done) | omega | (simp; omega)))
              have hs10 := hB10.size
              (try have hy10_0_0 : w.heap.size < w10.heap.size := by omega)
              (try have hy10_0_1 : w.heap.size + 1 < w10.heap.size := by omega)
              (try have hy10_0_2 : w.heap.size + 1 + 1 < w10.heap.size := by omega)
              (try have hy10_0_3 : w.heap.size + 1 + 1 + 1 < w10.heap.size := by omega)
              (try have hy10_0_4 : w.heap.size + 1 + 1 + 1 + 1 < w10.heap.size := by omega)
              (try have hy10_0_5 : w.heap.size + 1 + 1 + 1 + 1 + 1 < w10.heap.size := by omega)
              (try have hx10_0_1 : w.heap.size < w10.heap.size + 1 := by omega)
              (try have hx10_0_2 : w.heap.size < w10.heap.size + 1 + 1 := by omega)
              (try have hy10_1_0 : w1.heap.size < w10.heap.size := by omega)
              (try have hy10_1_1 : w1.heap.size + 1 < w10.heap.size := by omega)
              (try have hy10_1_2 : w1.heap.size + 1 + 1 < w10.heap.size := by omega)
              (try have hy10_1_3 : w1.heap.size + 1 + 1 + 1 < w10.heap.size := by omega)
              (try have hy10_1_4 : w1.heap.size + 1 + 1 + 1 + 1 < w10.heap.size := by omega)
              (try have hy10_1_5 : w1.heap.size + 1 + 1 + 1 + 1 + 1 < w10.heap.size := by omega)
              (try have hx10_1_1 : w1.heap.size < w10.heap.size + 1 := by omega)
              (try have hx10_1_2 : w1.heap.size < w10.heap.size + 1 + 1 := by omega)
              (try have hy10_2_0 : w2.heap.size < w10.heap.size := by omega)
              (try have hy10_2_1 : w2.heap.size + 1 < w10.heap.size := by omega)
              (try have hy10_2_2 : w2.heap.size + 1 + 1 < w10.heap.size := by omega)
              (try have hy10_2_3 : w2.heap.size + 1 + 1 + 1 < w10.heap.size := by omega)
              (try have hy10_2_4 : w2.heap.size + 1 + 1 + 1 + 1 < w10.heap.size := by omega)
              (try have hy10_2_5 : w2.heap.size + 1 + 1 + 1 + 1 + 1 < w10.heap.size := by omega)
              (try have hx10_2_1 : w2.heap.size < w10.heap.size + 1 := by omega)
              (try have hx10_2_2 : w2.heap.size < w10.heap.size + 1 + 1 := by omega)
              (try have hy10_3_0 : w3.heap.size < w10.heap.size := by omega)
              (try have hy10_3_1 : w3.heap.size + 1 < w10.heap.size := by omega)
              (try have hy10_3_2 : w3.heap.size + 1 + 1 < w10.heap.size := by omega)
              (try have hy10_3_3 : w3.heap.size + 1 + 1 + 1 < w10.heap.size := by omega)
              (try have hy10_3_4 : w3.heap.size + 1 + 1 + 1 + 1 < w10.heap.size := by omega)
              (try have hy10_3_5 : w3.heap.size + 1 + 1 + 1 + 1 + 1 < w10.heap.size := by omega)
              (try have hx10_3_1 : w3.heap.size < w10.heap.size + 1 := by omega)
              (try have hx10_3_2 : w3.heap.size < w10.heap.size + 1 + 1 := by omega)
              (try have hy10_4_0 : w4.heap.size < w10.heap.size := by omega)
              (try have hy10_4_1 : w4.heap.size + 1 < w10.heap.size := by omega)
              (try have hy10_4_2 : w4.heap.size + 1 + 1 < w10.heap.size := by omega)
              (try have hy10_4_3 : w4.heap.size + 1 + 1 + 1 < w10.heap.size := by omega)
              (try have hy10_4_4 : w4.heap.size + 1 + 1 + 1 + 1 < w10.heap.size := by omega)
              (try have hy10_4_5 : w4.heap.size + 1 + 1 + 1 + 1 + 1 < w10.heap.size := by omega)
              (try have hx10_4_1 : w4.heap.size < w10.heap.size + 1 := by omega)
              (try have hx10_4_2 : w4.heap.size < w10.heap.size + 1 + 1 := by omega)
              (try have hy10_5_0 : w5.heap.size < w10.heap.size := by omega)
              (try have hy10_5_1 : w5.heap.size + 1 < w10.heap.size := by omega)
              (try have hy10_5_2 : w5.heap.size + 1 + 1 < w10.heap.size := by omega)
              (try have hy10_5_3 : w5.heap.size + 1 + 1 + 1 < w10.heap.size := by omega)
              (try have hy10_5_4 : w5.heap.size + 1 + 1 + 1 + 1 < w10.heap.size := by omega)
              (try have hy10_5_5 : w5.heap.size + 1 + 1 + 1 + 1 + 1 < w10.heap.size := by omega)
              (try have hx10_5_1 : w5.heap.size < w10.heap.size + 1 := by omega)
              (try have hx10_5_2 : w5.heap.size < w10.heap.size + 1 + 1 := by omega)
              (try have hy10_6_0 : w6.heap.size < w10.heap.size := by omega)
              (try have hy10_6_1 : w6.heap.size + 1 < w10.heap.size := by omega)
              (try have hy10_6_2 : w6.heap.size + 1 + 1 < w10.heap.size := by omega)
              (try have hy10_6_3 : w6.heap.size + 1 + 1 + 1 < w10.heap.size := by omega)
              (try have hy10_6_4 : w6.heap.size + 1 + 1 + 1 + 1 < w10.heap.size := by omega)
              (try have hy10_6_5 : w6.heap.size + 1 + 1 + 1 + 1 + 1 < w10.heap.size := by omega)
              (try have hx10_6_1 : w6.heap.size < w10.heap.size + 1 := by omega)
              (try have hx10_6_2 : w6.heap.size < w10.heap.size + 1 + 1 := by omega)
              (try have hy10_7_0 : w7.heap.size < w10.heap.size := by omega)
              (try have hy10_7_1 : w7.heap.size + 1 < w10.heap.size := by omega)
              (try have hy10_7_2 : w7.heap.size + 1 + 1 < w10.heap.size := by omega)
              (try have hy10_7_3 : w7.heap.size + 1 + 1 + 1 < w10.heap.size := by omega)
              (try have hy10_7_4 : w7.heap.size + 1 + 1 + 1 + 1 < w10.heap.size := by omega)
              (try have hy10_7_5 : w7.heap.size + 1 + 1 + 1 + 1 + 1 < w10.heap.size := by omega)
              (try have hx10_7_1 : w7.heap.size < w10.heap.size + 1 := by omega)
              (try have hx10_7_2 : w7.heap.size < w10.heap.size + 1 + 1 := by omega)
              (try have hy10_8_0 : w8.heap.size < w10.heap.size := by omega)
              (try have hy10_8_1 : w8.heap.size + 1 < w10.heap.size := by omega)
              (try have hy10_8_2 : w8.heap.size + 1 + 1 < w10.heap.size := by omega)
              (try have hy10_8_3 : w8.heap.size + 1 + 1 + 1 < w10.heap.size := by omega)
              (try have hy10_8_4 : w8.heap.size + 1 + 1 + 1 + 1 < w10.heap.size := by omega)
              (try have hy10_8_5 : w8.heap.size + 1 + 1 + 1 + 1 + 1 < w10.heap.size := by omega)
              (try have hx10_8_1 : w8.heap.size < w10.heap.size + 1 := by omega)
              (try have hx10_8_2 : w8.heap.size < w10.heap.size + 1 + 1 := by omega)
              (try have hy10_9_0 : w9.heap.size < w10.heap.size := by omega)
              (try have hy10_9_1 : w9.heap.size + 1 < w10.heap.size := by omega)
              (try have hy10_9_2 : w9.heap.size + 1 + 1 < w10.heap.size := by omega)
              (try have hy10_9_3 : w9.heap.size + 1 + 1 + 1 < w10.heap.size := by omega)
              (try have hy10_9_4 : w9.heap.size + 1 + 1 + 1 + 1 < w10.heap.size := by omega)
              (try have hy10_9_5 : w9.heap.size + 1 + 1 + 1 + 1 + 1 < w10.heap.size := by omega)
              (try have hx10_9_1 : w9.heap.size < w10.heap.size + 1 := by omega)
              (try have hx10_9_2 : w9.heap.size < w10.heap.size + 1 + 1 := by omega)
              clear hb10 hq10
              go_wp2_with fail
              refine (H9.out _).mono ?_
              rintro e w11 ⟨rfl, hb11⟩
              obtain ⟨hc11, hf11⟩ := bcell hb11
              have hq11 := hb11.size
              (try simp at hq11)
              have hB11 : Below w.heap.size w w11 := Below.trans (by go_grown) (hb11.mono (by first | (simp; done) | omega | (simp; omega)))
              have hs11 := hB11.size
              (try have hy11_0_0 : w.heap.size < w11.heap.size := by omega)
              (try have hy11_0_1 : w.heap.size + 1 < w11.heap.size := by omega)
              (try have hy11_0_2 : w.heap.size + 1 + 1 < w11.heap.size := by omega)
              (try have hy11_0_3 : w.heap.size + 1 + 1 + 1 < w11.heap.size := by omega)
              (try have hy11_0_4 : w.heap.size + 1 + 1 + 1 + 1 < w11.heap.size := by omega)
              (try have hy11_0_5 : w.heap.size + 1 + 1 + 1 + 1 + 1 < w11.heap.size := by omega)
              (try have hx11_0_1 : w.heap.size < w11.heap.size + 1 := by omega)
              (try have hx11_0_2 : w.heap.size < w11.heap.size + 1 + 1 := by omega)
              (try have hy11_1_0 : w1.heap.size < w11.heap.size := by omega)
              (try have hy11_1_1 : w1.heap.size + 1 < w11.heap.size := by omega)
              (try have hy11_1_2 : w1.heap.size + 1 + 1 < w11.heap.size := by omega)
              (try have hy11_1_3 : w1.heap.size + 1 + 1 + 1 < w11.heap.size := by omega)
              (try have hy11_1_4 : w1.heap.size + 1 + 1 + 1 + 1 < w11.heap.size := by omega)
              (try have hy11_1_5 : w1.heap.size + 1 + 1 + 1 + 1 + 1 < w11.heap.size := by omega)
              (try have hx11_1_1 : w1.heap.size < w11.heap.size + 1 := by omega)
              (try have hx11_1_2 : w1.heap.size < w11.heap.size + 1 + 1 := by omega)
              (try have hy11_2_0 : w2.heap.size < w11.heap.size := by omega)
              (try have hy11_2_1 : w2.heap.size + 1 < w11.heap.size := by omega)
              (try have hy11_2_2 : w2.heap.size + 1 + 1 < w11.heap.size := by omega)
              (try have hy11_2_3 : w2.heap.size + 1 + 1 + 1 < w11.heap.size := by omega)
              (try have hy11_2_4 : w2.heap.size + 1 + 1 + 1 + 1 < w11.heap.size := by omega)
              (try have hy11_2_5 : w2.heap.size + 1 + 1 + 1 + 1 + 1 < w11.heap.size := by omega)
              (try have hx11_2_1 : w2.heap.size < w11.heap.size + 1 := by omega)
              (try have hx11_2_2 : w2.heap.size < w11.heap.size + 1 + 1 := by omega)
              (try have hy11_3_0 : w3.heap.size < w11.heap.size := by omega)
              (try have hy11_3_1 : w3.heap.size + 1 < w11.heap.size := by omega)
              (try have hy11_3_2 : w3.heap.size + 1 + 1 < w11.heap.size := by omega)
              (try have hy11_3_3 : w3.heap.size + 1 + 1 + 1 < w11.heap.size := by omega)
              (try have hy11_3_4 : w3.heap.size + 1 + 1 + 1 + 1 < w11.heap.size := by omega)
              (try have hy11_3_5 : w3.heap.size + 1 + 1 + 1 + 1 + 1 < w11.heap.size := by omega)
              (try have hx11_3_1 : w3.heap.size < w11.heap.size + 1 := by omega)
              (try have hx11_3_2 : w3.heap.size < w11.heap.size + 1 + 1 := by omega)
              (try have hy11_4_0 : w4.heap.size < w11.heap.size := by omega)
              (try have hy11_4_1 : w4.heap.size + 1 < w11.heap.size := by omega)
              (try have hy11_4_2 : w4.heap.size + 1 + 1 < w11.heap.size := by omega)
              (try have hy11_4_3 : w4.heap.size + 1 + 1 + 1 < w11.heap.size := by omega)
              (try have hy11_4_4 : w4.heap.size + 1 + 1 + 1 + 1 < w11.heap.size := by omega)
              (try have hy11_4_5 : w4.heap.size + 1 + 1 + 1 + 1 + 1 < w11.heap.size := by omega)
              (try have hx11_4_1 : w4.heap.size < w11.heap.size + 1 := by omega)
              (try have hx11_4_2 : w4.heap.size < w11.heap.size + 1 + 1 := by omega)
              (try have hy11_5_0 : w5.heap.size < w11.heap.size := by omega)
              (try have hy11_5_1 : w5.heap.size + 1 < w11.heap.size := by omega)
              (try have hy11_5_2 : w5.heap.size + 1 + 1 < w11.heap.size := by omega)
              (try have hy11_5_3 : w5.heap.size + 1 + 1 + 1 < w11.heap.size := by omega)
              (try have hy11_5_4 : w5.heap.size + 1 + 1 + 1 + 1 < w11.heap.size := by omega)
              (try have hy11_5_5 : w5.heap.size + 1 + 1 + 1 + 1 + 1 < w11.heap.size := by omega)
              (try have hx11_5_1 : w5.heap.size < w11.heap.size + 1 := by omega)
              (try have hx11_5_2 : w5.heap.size < w11.heap.size + 1 + 1 := by omega)
              (try have hy11_6_0 : w6.heap.size < w11.heap.size := by omega)
              (try have hy11_6_1 : w6.heap.size + 1 < w11.heap.size := by omega)
              (try have hy11_6_2 : w6.heap.size + 1 + 1 < w11.heap.size := by omega)
              (try have hy11_6_3 : w6.heap.size + 1 + 1 + 1 < w11.heap.size := by omega)
              (try have hy11_6_4 : w6.heap.size + 1 + 1 + 1 + 1 < w11.heap.size := by omega)
              (try have hy11_6_5 : w6.heap.size + 1 + 1 + 1 + 1 + 1 < w11.heap.size := by omega)
              (try have hx11_6_1 : w6.heap.size < w11.heap.size + 1 := by omega)
              (try have hx11_6_2 : w6.heap.size < w11.heap.size + 1 + 1 := by omega)
              (try have hy11_7_0 : w7.heap.size < w11.heap.size := by omega)
              (try have hy11_7_1 : w7.heap.size + 1 < w11.heap.size := by omega)
              (try have hy11_7_2 : w7.heap.size + 1 + 1 < w11.heap.size := by omega)
              (try have hy11_7_3 : w7.heap.size + 1 + 1 + 1 < w11.heap.size := by omega)
              (try have hy11_7_4 : w7.heap.size + 1 + 1 + 1 + 1 < w11.heap.size := by omega)
              (try have hy11_7_5 : w7.heap.size + 1 + 1 + 1 + 1 + 1 < w11.heap.size := by omega)
              (try have hx11_7_1 : w7.heap.size < w11.heap.size + 1 := by omega)
              (try have hx11_7_2 : w7.heap.size < w11.heap.size + 1 + 1 := by omega)
              (try have hy11_8_0 : w8.heap.size < w11.heap.size := by omega)
              (try have hy11_8_1 : w8.heap.size + 1 < w11.heap.size := by omega)
              (try have hy11_8_2 : w8.heap.size + 1 + 1 < w11.heap.size := by omega)
              (try have hy11_8_3 : w8.heap.size + 1 + 1 + 1 < w11.heap.size := by omega)
              (try have hy11_8_4 : w8.heap.size + 1 + 1 + 1 + 1 < w11.heap.size := by omega)
              (try have hy11_8_5 : w8.heap.size + 1 + 1 + 1 + 1 + 1 < w11.heap.size := by omega)
              (try have hx11_8_1 : w8.heap.size < w11.heap.size + 1 := by omega)
              (try have hx11_8_2 : w8.heap.size < w11.heap.size + 1 + 1 := by omega)
              (try have hy11_9_0 : w9.heap.size < w11.heap.size := by omega)
              (try have hy11_9_1 : w9.heap.size + 1 < w11.heap.size := by omega)
              (try have hy11_9_2 : w9.heap.size + 1 + 1 < w11.heap.size := by omega)
              (try have hy11_9_3 : w9.heap.size + 1 + 1 + 1 < w11.heap.size := by omega)
              (try have hy11_9_4 : w9.heap.size + 1 + 1 + 1 + 1 < w11.heap.size := by omega)
              (try have hy11_9_5 : w9.heap.size + 1 + 1 + 1 + 1 + 1 < w11.heap.size := by omega)
              (try have hx11_9_1 : w9.heap.size < w11.heap.size + 1 := by omega)
              (try have hx11_9_2 : w9.heap.size < w11.heap.size + 1 + 1 := by omega)
              (try have hy11_10_0 : w10.heap.size < w11.heap.size := by omega)
              (try have hy11_10_1 : w10.heap.size + 1 < w11.heap.size := by omega)
              (try have hy11_10_2 : w10.heap.size + 1 + 1 < w11.heap.size := by omega)
              (try have hy11_10_3 : w10.heap.size + 1 + 1 + 1 < w11.heap.size := by omega)
              (try have hy11_10_4 : w10.heap.size + 1 + 1 + 1 + 1 < w11.heap.size := by omega)
              (try have hy11_10_5 : w10.heap.size + 1 + 1 + 1 + 1 + 1 < w11.heap.size := by omega)
              (try have hx11_10_1 : w10.heap.size < w11.heap.size + 1 := by omega)
              (try have hx11_10_2 : w10.heap.size < w11.heap.size + 1 + 1 := by omega)
              clear hb11 hq11
              clear H8 H9
              cases p
              · go_wp2_with fail
                go_returns
                exact ⟨rfl, (by first | (go_grown; done) | (refine below_drewN ?_ _; go_grown; done) | (refine (below_drewN _ ?_); go_grown; done))⟩
              · cases q
                · go_wp2_with fail
                  go_returns
                  exact ⟨rfl, (by first | (go_grown; done) | (refine below_drewN ?_ _; go_grown; done) | (refine (below_drewN _ ?_); go_grown; done))⟩
                · have h10 := fun w => combineValues_any j ax ay az mx my mz w
                  rw [Agg.aComb_groups HO.out HP.out HQ.out] at h10
                  have H10 := Lib.hid h10
                  clear h10
                  go_wp2_with fail
                  refine (H10.out _).mono ?_
                  rintro e w12 ⟨rfl, hb12⟩
                  obtain ⟨hc12, hf12⟩ := bcell hb12
                  have hq12 := hb12.size
                  (try simp at hq12)
                  have hB12 : Below w.heap.size w w12 := Below.trans (by go_grown) (hb12.mono (by first | (simp; done) | omega | (simp; omega)))
                  have hs12 := hB12.size
                  (try have hy12_0_0 : w.heap.size < w12.heap.size := by omega)
                  (try have hy12_0_1 : w.heap.size + 1 < w12.heap.size := by omega)
                  (try have hy12_0_2 : w.heap.size + 1 + 1 < w12.heap.size := by omega)
                  (try have hy12_0_3 : w.heap.size + 1 + 1 + 1 < w12.heap.size := by omega)
                  (try have hy12_0_4 : w.heap.size + 1 + 1 + 1 + 1 < w12.heap.size := by omega)
                  (try have hy12_0_5 : w.heap.size + 1 + 1 + 1 + 1 + 1 < w12.heap.size := by omega)
                  (try have hx12_0_1 : w.heap.size < w12.heap.size + 1 := by omega)
                  (try have hx12_0_2 : w.heap.size < w12.heap.size + 1 + 1 := by omega)
                  (try have hy12_1_0 : w1.heap.size < w12.heap.size := by omega)
                  (try have hy12_1_1 : w1.heap.size + 1 < w12.heap.size := by omega)
                  (try have hy12_1_2 : w1.heap.size + 1 + 1 < w12.heap.size := by omega)
                  (try have hy12_1_3 : w1.heap.size + 1 + 1 + 1 < w12.heap.size := by omega)
                  (try have hy12_1_4 : w1.heap.size + 1 + 1 + 1 + 1 < w12.heap.size := by omega)
                  (try have hy12_1_5 : w1.heap.size + 1 + 1 + 1 + 1 + 1 < w12.heap.size := by omega)
                  (try have hx12_1_1 : w1.heap.size < w12.heap.size + 1 := by omega)
                  (try have hx12_1_2 : w1.heap.size < w12.heap.size + 1 + 1 := by omega)
                  (try have hy12_2_0 : w2.heap.size < w12.heap.size := by omega)
                  (try have hy12_2_1 : w2.heap.size + 1 < w12.heap.size := by omega)
                  (try have hy12_2_2 : w2.heap.size + 1 + 1 < w12.heap.size := by omega)
                  (try have hy12_2_3 : w2.heap.size + 1 + 1 + 1 < w12.heap.size := by omega)
                  (try have hy12_2_4 : w2.heap.size + 1 + 1 + 1 + 1 < w12.heap.size := by omega)
                  (try have hy12_2_5 : w2.heap.size + 1 + 1 + 1 + 1 + 1 < w12.heap.size := by omega)
                  (try have hx12_2_1 : w2.heap.size < w12.heap.size + 1 := by omega)
                  (try have hx12_2_2 : w2.heap.size < w12.heap.size + 1 + 1 := by omega)
                  (try have hy12_3_0 : w3.heap.size < w12.heap.size := by omega)
                  (try have hy12_3_1 : w3.heap.size + 1 < w12.heap.size := by omega)
                  (try have hy12_3_2 : w3.heap.size + 1 + 1 < w12.heap.size := by omega)
                  (try have hy12_3_3 : w3.heap.size + 1 + 1 + 1 < w12.heap.size := by omega)
                  (try have hy12_3_4 : w3.heap.size + 1 + 1 + 1 + 1 < w12.heap.size := by omega)
                  (try have hy12_3_5 : w3.heap.size + 1 + 1 + 1 + 1 + 1 < w12.heap.size := by omega)
                  (try have hx12_3_1 : w3.heap.size < w12.heap.size + 1 := by omega)
                  (try have hx12_3_2 : w3.heap.size < w12.heap.size + 1 + 1 := by omega)
                  (try have hy12_4_0 : w4.heap.size < w12.heap.size := by omega)
                  (try have hy12_4_1 : w4.heap.size + 1 < w12.heap.size := by omega)
                  (try have hy12_4_2 : w4.heap.size + 1 + 1 < w12.heap.size := by omega)
                  (try have hy12_4_3 : w4.heap.size + 1 + 1 + 1 < w12.heap.size := by omega)
                  (try have hy12_4_4 : w4.heap.size + 1 + 1 + 1 + 1 < w12.heap.size := by omega)
                  (try have hy12_4_5 : w4.heap.size + 1 + 1 + 1 + 1 + 1 < w12.heap.size := by omega)
                  (try have hx12_4_1 : w4.heap.size < w12.heap.size + 1 := by omega)
                  (try have hx12_4_2 : w4.heap.size < w12.heap.size + 1 + 1 := by omega)
                  (try have hy12_5_0 : w5.heap.size < w12.heap.size := by omega)
                  (try have hy12_5_1 : w5.heap.size + 1 < w12.heap.size := by omega)
                  (try have hy12_5_2 : w5.heap.size + 1 + 1 < w12.heap.size := by omega)
                  (try have hy12_5_3 : w5.heap.size + 1 + 1 + 1 < w12.heap.size := by omega)
                  (try have hy12_5_4 : w5.heap.size + 1 + 1 + 1 + 1 < w12.heap.size := by omega)
                  (try have hy12_5_5 : w5.heap.size + 1 + 1 + 1 + 1 + 1 < w12.heap.size := by omega)
                  (try have hx12_5_1 : w5.heap.size < w12.heap.size + 1 := by omega)
                  (try have hx12_5_2 : w5.heap.size < w12.heap.size + 1 + 1 := by omega)
                  (try have hy12_6_0 : w6.heap.size < w12.heap.size := by omega)
                  (try have hy12_6_1 : w6.heap.size + 1 < w12.heap.size := by omega)
                  (try have hy12_6_2 : w6.heap.size + 1 + 1 < w12.heap.size := by omega)
                  (try have hy12_6_3 : w6.heap.size + 1 + 1 + 1 < w12.heap.size := by omega)
                  (try have hy12_6_4 : w6.heap.size + 1 + 1 + 1 + 1 < w12.heap.size := by omega)
                  (try have hy12_6_5 : w6.heap.size + 1 + 1 + 1 + 1 + 1 < w12.heap.size := by omega)
                  (try have hx12_6_1 : w6.heap.size < w12.heap.size + 1 := by omega)
                  (try have hx12_6_2 : w6.heap.size < w12.heap.size + 1 + 1 := by omega)
                  (try have hy12_7_0 : w7.heap.size < w12.heap.size := by omega)
                  (try have hy12_7_1 : w7.heap.size + 1 < w12.heap.size := by omega)
                  (try have hy12_7_2 : w7.heap.size + 1 + 1 < w12.heap.size := by omega)
                  (try have hy12_7_3 : w7.heap.size + 1 + 1 + 1 < w12.heap.size := by omega)
                  (try have hy12_7_4 : w7.heap.size + 1 + 1 + 1 + 1 < w12.heap.size := by omega)
                  (try have hy12_7_5 : w7.heap.size + 1 + 1 + 1 + 1 + 1 < w12.heap.size := by omega)
                  (try have hx12_7_1 : w7.heap.size < w12.heap.size + 1 := by omega)
                  (try have hx12_7_2 : w7.heap.size < w12.heap.size + 1 + 1 := by omega)
                  (try have hy12_8_0 : w8.heap.size < w12.heap.size := by omega)
                  (try have hy12_8_1 : w8.heap.size + 1 < w12.heap.size := by omega)
                  (try have hy12_8_2 : w8.heap.size + 1 + 1 < w12.heap.size := by omega)
                  (try have hy12_8_3 : w8.heap.size + 1 + 1 + 1 < w12.heap.size := by omega)
                  (try have hy12_8_4 : w8.heap.size + 1 + 1 + 1 + 1 < w12.heap.size := by omega)
                  (try have hy12_8_5 : w8.heap.size + 1 + 1 + 1 + 1 + 1 < w12.heap.size := by omega)
                  (try have hx12_8_1 : w8.heap.size < w12.heap.size + 1 := by omega)
                  (try have hx12_8_2 : w8.heap.size < w12.heap.size + 1 + 1 := by omega)
                  (try have hy12_9_0 : w9.heap.size < w12.heap.size := by omega)
                  (try have hy12_9_1 : w9.heap.size + 1 < w12.heap.size := by omega)
                  (try have hy12_9_2 : w9.heap.size + 1 + 1 < w12.heap.size := by omega)
                  (try have hy12_9_3 : w9.heap.size + 1 + 1 + 1 < w12.heap.size := by omega)
                  (try have hy12_9_4 : w9.heap.size + 1 + 1 + 1 + 1 < w12.heap.size := by omega)
                  (try have hy12_9_5 : w9.heap.size + 1 + 1 + 1 + 1 + 1 < w12.heap.size := by omega)
                  (try have hx12_9_1 : w9.heap.size < w12.heap.size + 1 := by omega)
                  (try have hx12_9_2 : w9.heap.size < w12.heap.size + 1 + 1 := by omega)
                  (try have hy12_10_0 : w10.heap.size < w12.heap.size := by omega)
                  (try have hy12_10_1 : w10.heap.size + 1 < w12.heap.size := by omega)
                  (try have hy12_10_2 : w10.heap.size + 1 + 1 < w12.heap.size := by omega)
                  (try have hy12_10_3 : w10.heap.size + 1 + 1 + 1 < w12.heap.size := by omega)
                  (try have hy12_10_4 : w10.heap.size + 1 + 1 + 1 + 1 < w12.heap.size := by omega)
                  (try have hy12_10_5 : w10.heap.size + 1 + 1 + 1 + 1 + 1 < w12.heap.size := by omega)
                  (try have hx12_10_1 : w10.heap.size < w12.heap.size + 1 := by omega)
                  (try have hx12_10_2 : w10.heap.size < w12.heap.size + 1 + 1 := by omega)
                  (try have hy12_11_0 : w11.heap.size < w12.heap.size := by omega)
                  (try have hy12_11_1 : w11.heap.size + 1 < w12.heap.size := by omega)
                  (try have hy12_11_2 : w11.heap.size + 1 + 1 < w12.heap.size := by omega)
                  (try have hy12_11_3 : w11.heap.size + 1 + 1 + 1 < w12.heap.size := by omega)
                  (try have hy12_11_4 : w11.heap.size + 1 + 1 + 1 + 1 < w12.heap.size := by omega)
                  (try have hy12_11_5 : w11.heap.size + 1 + 1 + 1 + 1 + 1 < w12.heap.size := by omega)
                  (try have hx12_11_1 : w11.heap.size < w12.heap.size + 1 := by omega)
                  (try have hx12_11_2 : w11.heap.size < w12.heap.size + 1 + 1 := by omega)
                  clear hb12 hq12
                  go_wp2_with fail
                  go_returns
                  exact ⟨rfl, (by first | (go_grown; done) | (refine below_drewN ?_ _; go_grown; done) | (refine (below_drewN _ ?_); go_grown; done))⟩
        · go_wp2_with fail
          go_returns
          exact ⟨rfl, (by first | (go_grown; done) | (refine below_drewN ?_ _; go_grown; done) | (refine (below_drewN _ ?_); go_grown; done))⟩
    · go_enter Try.func4, Try.ntmps4
      go_wp2
      go_returns
      exact ⟨rfl, Below.refl _ _⟩
  · go_enter Try.func4, Try.ntmps4
    go_wp2
    go_returns
    exact ⟨rfl, Below.refl _ _⟩
end Go.Proofs.Ytkiafgppooacdaa
