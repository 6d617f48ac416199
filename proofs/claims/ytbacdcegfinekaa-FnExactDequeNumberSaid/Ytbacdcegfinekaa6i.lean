/-
  The exact law of DequeNumber, walked.
-/
import Derived.Test.YtbacdcegfinekaaQx
import Derived.Test.Ytbacdcegfinekaa6x
import Derived.Deep.RegionHeld3
import Derived.Deep.Cut
namespace Go.Proofs.Ytbacdcegfinekaa
set_option linter.unusedSimpArgs false
set_option linter.unusedVariables false
open Go.RowKit
set_option maxRecDepth 8000 in
set_option maxHeartbeats 8000000 in
theorem law_FnExactDequeNumber (k : Int) (ia : Option Addr) (n ic : Nat) (pa : Option Addr) (m pc : Nat) (fi nx dr : Int) (I P : List Int) (w : World) (hI : Nums .i64 w ia n ic I) (hP : Nums .i64 w pa m pc P) :
    Calls Try.prog 9 #[.int .i64 k, .agg #[.slice ia n ic, .slice pa m pc, .int .i64 fi, .int .i64 nx, .int .i64 dr]] w fun e w' => e = .returned (.bool true) ∧ Below w.heap.size w w' := by
  have hcI : ic ≤ 9223372036854775807 := by have := hI.2.2.1; unfold maxLen at this; omega
  have hnI : n ≤ ic := hI.2.1
  have HIL := Lib.hid (show I.length = n from hI.1)
  have HI := Lib.hid hI
  have hcP : pc ≤ 9223372036854775807 := by have := hP.2.2.1; unfold maxLen at this; omega
  have hnP : m ≤ pc := hP.2.1
  have HPL := Lib.hid (show P.length = m from hP.1)
  have HP := Lib.hid hP
  have hSZ := fun w => szDeque_any ia n ic pa m pc fi nx dr w (by omega) (by omega)
  obtain ⟨W, hW⟩ : ∃ W, W = w.alloc (.cells #[.slice ia n ic, .slice pa m pc, .int .i64 fi, .int .i64 nx, .int .i64 dr] 24) := ⟨_, rfl⟩
  have HA := Lib.hid (show Box5 W w.heap.size 24 (.slice ia n ic) (.slice pa m pc) (.int .i64 fi) (.int .i64 nx) (.int .i64 dr) from by rw [hW]; exact Box5.new w _ _ _ _ _ _)
  have HB := Lib.hid (show Below w.heap.size w W from by rw [hW]; exact (Below.refl _ _).alloc (Nat.le_refl _) _)
  clear hI hP
  by_cases hsz : n + m ≤ 1048576
  · rw [if_pos hsz] at hSZ
    have HSZ := Lib.hid hSZ
    have hpos : ¬ ((1048576 : Int) - (n : Int) - (m : Int) < 0) := by omega
    have hmI : n ≤ 1048576 := by omega
    have hmP : m ≤ 1048576 := by omega
    obtain ⟨nb, hs⟩ : ∃ s, s = Agg.aDqNum k ⟨I, P, fi, nx, dr⟩ := ⟨_, rfl⟩
    have h1 := fun ia ic pa pc w hI hP => s_dequeNumber_any k ia I.length ic pa P.length pc fi nx dr I P w hI hP
    have h2 := fun ia ic pa pc w hI hP => dequeNumber_any k ia I.length ic pa P.length pc fi nx dr I P w hI hP
    rw [← hs] at h1 h2
    obtain ⟨nn, bb⟩ := nb
    have H1 := Lib.hid h1
    have H2 := Lib.hid h2
    clear h1 h2 hs hSZ
    go_enter Try.func9, Try.ntmps9
    go_wp2_with fail
    rw [← hW]
    clear hW
    refine (HSZ.out _).mono ?_
    rintro e w1 ⟨rfl, hb1⟩
    have HA := Lib.hid (HA.out.call hb1)
    have HB := Lib.hid (HB.out.trans (hb1.mono HB.out.size))
    clear hb1
    obtain ⟨q0, q1, q2, q3, q4⟩ := HA.out.cells
    go_wp2_with fail
    refine (toDeque_own _ _ _ _ _ _ _ _ _ I P _ (HI.out.below HB.out) (HP.out.below HB.out) hmI hmP).mono ?_
    rintro e w2 ⟨vv, rfl, rr, hb2⟩
    obtain ⟨ia2, ic2, pa2, pc2, rfl, hRI, hRP⟩ := rr.read
    have HA := Lib.hid (HA.out.call hb2)
    have HB := Lib.hid (HB.out.trans (hb2.mono HB.out.size))
    have HRI := Lib.hid hRI
    have HRP := Lib.hid hRP
    clear hb2 rr hRI hRP q0 q1 q2 q3 q4
    go_wp2_with fail
    refine (H1.out _ _ _ _ _ HRI.out HRP.out).mono ?_
    rintro e w3 ⟨rfl, hb3⟩
    have HA := Lib.hid (HA.out.call hb3)
    have HB := Lib.hid (HB.out.trans (hb3.mono HB.out.size))
    clear hb3
    obtain ⟨q0, q1, q2, q3, q4⟩ := HA.out.cells
    go_wp2_with fail
    refine (toDeque_own _ _ _ _ _ _ _ _ _ I P _ (HI.out.below HB.out) (HP.out.below HB.out) hmI hmP).mono ?_
    rintro e w4 ⟨vv, rfl, rr, hb4⟩
    obtain ⟨ia4, ic4, pa4, pc4, rfl, hXI, hXP⟩ := rr.read
    obtain ⟨W5, hW5⟩ : ∃ W5, W5 = w4.alloc (.cells #[.slice ia4 I.length ic4, .slice pa4 P.length pc4, .int .i64 fi, .int .i64 nx, .int .i64 dr] 28) := ⟨_, rfl⟩
    have hb5 : Below w4.heap.size w4 W5 := by rw [hW5]; exact (Below.refl _ _).alloc (Nat.le_refl _) _
    have HX := Lib.hid (show Box5 W5 w4.heap.size 28 (.slice ia4 I.length ic4) (.slice pa4 P.length pc4) (.int .i64 fi) (.int .i64 nx) (.int .i64 dr) from by rw [hW5]; exact Box5.new _ _ _ _ _ _ _)
    have RX := Lib.hid (rr.below hb5)
    have HXI := Lib.hid (hXI.below hb5)
    have HXP := Lib.hid (hXP.below hb5)
    have hb35 := hb4.trans (hb5.mono hb4.size)
    have HA := Lib.hid (HA.out.call hb35)
    have HB := Lib.hid (HB.out.trans (hb35.mono HB.out.size))
    clear hb4 hb5 hb35 rr hXI hXP q0 q1 q2 q3 q4
    go_upto_region 7 with (fail)
    rw [← hW5]
    clear hW5
    obtain ⟨q0, q1, q2, q3, q4⟩ := HX.out.cells
    go_wp2_with fail
    refine (H2.out _ _ _ _ _ HXI.out HXP.out).mono ?_
    rintro e w6 ⟨rfl, hb6⟩
    have HA := Lib.hid (HA.out.call hb6)
    have HB := Lib.hid (HB.out.trans (hb6.mono HB.out.size))
    have HX := Lib.hid (HX.out.call hb6)
    have RX := Lib.hid (RX.out.below hb6)
    clear hb6 q0 q1 q2 q3 q4
    cases bb
    all_goals
      obtain ⟨q0, q1, q2, q3, q4⟩ := HX.out.cells
      go_wp2_with fail
      clear q0 q1 q2 q3 q4
      have sq3 : ∀ X, Snc w6 X → (X.cell? ⟨w4.heap.size, 0, none⟩ = some (.slice ia4 I.length ic4) ∧ X.cell? ⟨w4.heap.size, 1, none⟩ = some (.slice pa4 P.length pc4) ∧ X.cell? ⟨w4.heap.size, 2, none⟩ = some (.int .i64 fi) ∧ X.cell? ⟨w4.heap.size, 3, none⟩ = some (.int .i64 nx) ∧ X.cell? ⟨w4.heap.size, 4, none⟩ = some (.int .i64 dr)) ∧ (X.cell? ⟨w.heap.size, 0, none⟩ = some (.slice ia n ic) ∧ X.cell? ⟨w.heap.size, 1, none⟩ = some (.slice pa m pc) ∧ X.cell? ⟨w.heap.size, 2, none⟩ = some (.int .i64 fi) ∧ X.cell? ⟨w.heap.size, 3, none⟩ = some (.int .i64 nx) ∧ X.cell? ⟨w.heap.size, 4, none⟩ = some (.int .i64 dr)) := fun X h => ⟨(HX.out.call h.1).cells, (HA.out.call h.1).cells⟩
      have SQ3 := Lib.hid sq3
      clear sq3
      refine wp_region_held_drew (S := fun X => (X.cell? ⟨w4.heap.size, 0, none⟩ = some (.slice ia4 I.length ic4) ∧ X.cell? ⟨w4.heap.size, 1, none⟩ = some (.slice pa4 P.length pc4) ∧ X.cell? ⟨w4.heap.size, 2, none⟩ = some (.int .i64 fi) ∧ X.cell? ⟨w4.heap.size, 3, none⟩ = some (.int .i64 nx) ∧ X.cell? ⟨w4.heap.size, 4, none⟩ = some (.int .i64 dr)) ∧ (X.cell? ⟨w.heap.size, 0, none⟩ = some (.slice ia n ic) ∧ X.cell? ⟨w.heap.size, 1, none⟩ = some (.slice pa m pc) ∧ X.cell? ⟨w.heap.size, 2, none⟩ = some (.int .i64 fi) ∧ X.cell? ⟨w.heap.size, 3, none⟩ = some (.int .i64 nx) ∧ X.cell? ⟨w.heap.size, 4, none⟩ = some (.int .i64 dr))) (by kernel_rfl) (by exact SQ3.out _ (Snc.refl w6).drew) (fun hHeld => ?_)
      have HT := Lib.hid (Snc.refl w6).drew
      first | (refine wpAnyH_take (i := 0) (v := ?_) rfl (by kernel_rfl) (by kernel_rfl) (by kernel_rfl) (fun _ _ _ h => h) (Or.inl ⟨by rfl, ?_⟩) (by assumption) ?_; rotate_left; (intro X hSw; (try dsimp only at hSw); go_simp; (try with_reducible rfl)); (try simp only [Act.put, List.setIfInBounds_toArray, List.set_cons_zero, List.set_cons_succ, List.getElem_toArray, List.getElem_cons_zero, List.getElem_cons_succ])) | fail "take 0"
      first | (refine wpAnyH_take (i := 1) (v := ?_) rfl (by kernel_rfl) (by kernel_rfl) (by kernel_rfl) (fun _ _ _ h => h) (Or.inl ⟨by rfl, ?_⟩) (by assumption) ?_; rotate_left; (intro X hSw; (try dsimp only at hSw); go_simp; (try with_reducible rfl)); (try simp only [Act.put, List.setIfInBounds_toArray, List.set_cons_zero, List.set_cons_succ, List.getElem_toArray, List.getElem_cons_zero, List.getElem_cons_succ])) | fail "take 1"
      refine wpAnyH_ready (rs := [2]) (by kernel_rfl) (by simp) ?_
      refine AllReadyH.cons rfl (fun K hK => ?_) AllReadyH.nil
      go_simp
      refine (toDeque_own _ _ _ _ _ _ _ _ _ I P _ (HI.out.below (HB.out.trans (HT.out.1.mono HB.out.size))) (HP.out.below (HB.out.trans (HT.out.1.mono HB.out.size))) hmI hmP).mono ?_
      rintro e w7 ⟨vv, rfl, rr, hb7⟩
      have HT := Lib.hid (HT.out.call hb7)
      have R6 := Lib.hid rr
      clear hb7 rr
      (try dsimp only)
      refine hK.out _ _ (by exact SQ3.out _ HT.out) (fun hHeld => ?_)
      clear hK K
      (try simp only [Act.put, List.setIfInBounds_toArray, List.set_cons_zero, List.set_cons_succ, List.getElem_toArray, List.getElem_cons_zero, List.getElem_cons_succ])
      refine wpAnyH_ready (rs := [3]) (by kernel_rfl) (by simp) ?_
      refine AllReadyH.cons rfl (fun K hK => ?_) AllReadyH.nil
      go_simp
      refine (eqDeque_own _ (RX.out.below HT.out.1) R6.out).mono ?_
      rintro e w8 ⟨rfl, hb8⟩
      have HT := Lib.hid (HT.out.call hb8)
      clear hb8
      (try dsimp only)
      refine hK.out _ _ (by exact SQ3.out _ HT.out) (fun hHeld => ?_)
      clear hK K
      (try simp only [Act.put, List.setIfInBounds_toArray, List.set_cons_zero, List.set_cons_succ, List.getElem_toArray, List.getElem_cons_zero, List.getElem_cons_succ])
      first | (refine wpAnyH_take (i := 4) (v := ?_) rfl (by kernel_rfl) (by kernel_rfl) (by kernel_rfl) (fun _ _ _ h => h) (Or.inl ⟨by rfl, ?_⟩) (by assumption) ?_; rotate_left; (intro X hSw; (try dsimp only at hSw); go_simp; (try with_reducible rfl)); (try simp only [Act.put, List.setIfInBounds_toArray, List.set_cons_zero, List.set_cons_succ, List.getElem_toArray, List.getElem_cons_zero, List.getElem_cons_succ])) | fail "take 4"
      refine wpAnyH_done (by kernel_rfl) ?_ _
      go_wp2_with fail
      go_returns
      exact ⟨rfl, HB.out.trans (HT.out.1.mono HB.out.size)⟩
  · rw [if_neg hsz] at hSZ
    have HSZ := Lib.hid hSZ
    clear hSZ
    go_enter Try.func9, Try.ntmps9
    go_wp2_with fail
    rw [← hW]
    clear hW
    refine (HSZ.out _).mono ?_
    rintro e w1 ⟨rfl, hb1⟩
    have HB1 := Lib.hid (HB.out.trans (hb1.mono HB.out.size))
    clear hb1
    go_wp2_with fail
    go_returns
    exact ⟨rfl, HB1.out⟩
end Go.Proofs.Ytbacdcegfinekaa
