/-
  The exact law of InverseValid, walked.
-/
import Derived.Test.Ytehfijijapfomaa6v
import Derived.Test.Ytehfijijapfomaa6e
import Derived.Deep.RegionHeld3
import Derived.Deep.Cut
namespace Go.Proofs.Ytehfijijapfomaa
set_option linter.unusedSimpArgs false
set_option linter.unusedVariables false
open Go.RowKit
set_option maxRecDepth 8000 in
set_option maxHeartbeats 8000000 in
theorem law_FnExactInverseValid (k : Int) (ia : Option Addr) (m ic : Nat) (ax ay az : Int) (I : List Int) (w : World) (hI : Nums .i64 w ia m ic I) :
    Calls Try.prog 3 #[.int .i64 k, .agg #[.slice ia m ic, .int .i64 ax, .int .i64 ay, .int .i64 az]] w fun e w' => e = .returned (.bool true) ∧ Below w.heap.size w w' := by
  have hcI : ic ≤ 9223372036854775807 := by have := hI.2.2.1; unfold maxLen at this; omega
  have hnI : m ≤ ic := hI.2.1
  have HIL := Lib.hid (show I.length = m from hI.1)
  have HI := Lib.hid hI
  have hSZ := fun w => szInverse_any ia m ic ax ay az w (by omega)
  obtain ⟨W, hW⟩ : ∃ W, W = w.alloc (.cells #[.slice ia m ic, .int .i64 ax, .int .i64 ay, .int .i64 az] 26) := ⟨_, rfl⟩
  have HA := Lib.hid (show Box4 W w.heap.size 26 (.slice ia m ic) (.int .i64 ax) (.int .i64 ay) (.int .i64 az) from by rw [hW]; exact Box4.new w _ _ _ _ _)
  have HB := Lib.hid (show Below w.heap.size w W from by rw [hW]; exact (Below.refl _ _).alloc (Nat.le_refl _) _)
  clear hI
  by_cases hsz : m ≤ 1048576
  · rw [if_pos hsz] at hSZ
    have HSZ := Lib.hid hSZ
    have hpos : ¬ ((1048576 : Int) - (m : Int) < 0) := by omega
    have hmI : m ≤ 1048576 := by omega
    obtain ⟨sb, hs⟩ : ∃ s, s = Agg.ivOk k ⟨I, ⟨ax, ay, az⟩⟩ := ⟨_, rfl⟩
    have h1 := fun ia ic w hI => s_inverseValid_any k ia I.length ic ax ay az I w hI
    have h2 := fun ia ic w hI => inverseValid_any k ia I.length ic ax ay az I w hI
    rw [← hs] at h1 h2
    have H1 := Lib.hid h1
    have H2 := Lib.hid h2
    clear h1 h2 hs hSZ
    go_enter Try.func3, Try.ntmps3
    go_wp2_with fail
    rw [← hW]
    clear hW
    refine (HSZ.out _).mono ?_
    rintro e w1 ⟨rfl, hb1⟩
    have HA := Lib.hid (HA.out.call hb1)
    have HB := Lib.hid (HB.out.trans (hb1.mono HB.out.size))
    clear hb1
    obtain ⟨q0, q1, q2, q3⟩ := HA.out.cells
    go_wp2_with fail
    refine (toInverse_own _ _ _ _ _ _ I _ (HI.out.below HB.out) hmI).mono ?_
    rintro e w2 ⟨vv, rfl, rr, hb2⟩
    obtain ⟨ia2, ic2, rfl, hRI⟩ := rr.read
    have HA := Lib.hid (HA.out.call hb2)
    have HB := Lib.hid (HB.out.trans (hb2.mono HB.out.size))
    have HRI := Lib.hid hRI
    clear hb2 rr hRI q0 q1 q2 q3
    go_wp2_with fail
    refine (H1.out _ _ _ HRI.out).mono ?_
    rintro e w3 ⟨rfl, hb3⟩
    have HA := Lib.hid (HA.out.call hb3)
    have HB := Lib.hid (HB.out.trans (hb3.mono HB.out.size))
    clear hb3
    obtain ⟨q0, q1, q2, q3⟩ := HA.out.cells
    go_wp2_with fail
    refine (toInverse_own _ _ _ _ _ _ I _ (HI.out.below HB.out) hmI).mono ?_
    rintro e w4 ⟨vv, rfl, rr, hb4⟩
    obtain ⟨ia4, ic4, rfl, hXI⟩ := rr.read
    obtain ⟨W5, hW5⟩ : ∃ W5, W5 = w4.alloc (.cells #[.slice ia4 I.length ic4, .int .i64 ax, .int .i64 ay, .int .i64 az] 31) := ⟨_, rfl⟩
    have hb5 : Below w4.heap.size w4 W5 := by rw [hW5]; exact (Below.refl _ _).alloc (Nat.le_refl _) _
    have HX := Lib.hid (show Box4 W5 w4.heap.size 31 (.slice ia4 I.length ic4) (.int .i64 ax) (.int .i64 ay) (.int .i64 az) from by rw [hW5]; exact Box4.new _ _ _ _ _ _)
    have RX := Lib.hid (rr.below hb5)
    have HXI := Lib.hid (hXI.below hb5)
    have hb35 := hb4.trans (hb5.mono hb4.size)
    have HA := Lib.hid (HA.out.call hb35)
    have HB := Lib.hid (HB.out.trans (hb35.mono HB.out.size))
    clear hb4 hb5 hb35 rr hXI q0 q1 q2 q3
    go_upto_region 7 with (fail)
    rw [← hW5]
    clear hW5
    obtain ⟨q0, q1, q2, q3⟩ := HX.out.cells
    go_wp2_with fail
    refine (H2.out _ _ _ HXI.out).mono ?_
    rintro e w6 ⟨rfl, hb6⟩
    have HA := Lib.hid (HA.out.call hb6)
    have HB := Lib.hid (HB.out.trans (hb6.mono HB.out.size))
    have HX := Lib.hid (HX.out.call hb6)
    have RX := Lib.hid (RX.out.below hb6)
    clear hb6 q0 q1 q2 q3
    cases sb
    all_goals
      obtain ⟨q0, q1, q2, q3⟩ := HX.out.cells
      go_wp2_with fail
      clear q0 q1 q2 q3
      have sq3 : ∀ X, Snc w6 X → (X.cell? ⟨w4.heap.size, 0, none⟩ = some (.slice ia4 I.length ic4) ∧ X.cell? ⟨w4.heap.size, 1, none⟩ = some (.int .i64 ax) ∧ X.cell? ⟨w4.heap.size, 2, none⟩ = some (.int .i64 ay) ∧ X.cell? ⟨w4.heap.size, 3, none⟩ = some (.int .i64 az)) ∧ (X.cell? ⟨w.heap.size, 0, none⟩ = some (.slice ia m ic) ∧ X.cell? ⟨w.heap.size, 1, none⟩ = some (.int .i64 ax) ∧ X.cell? ⟨w.heap.size, 2, none⟩ = some (.int .i64 ay) ∧ X.cell? ⟨w.heap.size, 3, none⟩ = some (.int .i64 az)) := fun X h => ⟨(HX.out.call h.1).cells, (HA.out.call h.1).cells⟩
      have SQ3 := Lib.hid sq3
      clear sq3
      refine wp_region_held_drew (S := fun X => (X.cell? ⟨w4.heap.size, 0, none⟩ = some (.slice ia4 I.length ic4) ∧ X.cell? ⟨w4.heap.size, 1, none⟩ = some (.int .i64 ax) ∧ X.cell? ⟨w4.heap.size, 2, none⟩ = some (.int .i64 ay) ∧ X.cell? ⟨w4.heap.size, 3, none⟩ = some (.int .i64 az)) ∧ (X.cell? ⟨w.heap.size, 0, none⟩ = some (.slice ia m ic) ∧ X.cell? ⟨w.heap.size, 1, none⟩ = some (.int .i64 ax) ∧ X.cell? ⟨w.heap.size, 2, none⟩ = some (.int .i64 ay) ∧ X.cell? ⟨w.heap.size, 3, none⟩ = some (.int .i64 az))) (by kernel_rfl) (by exact SQ3.out _ (Snc.refl w6).drew) (fun hHeld => ?_)
      have HT := Lib.hid (Snc.refl w6).drew
      first | (refine wpAnyH_take (i := 0) (v := ?_) rfl (by kernel_rfl) (by kernel_rfl) (by kernel_rfl) (fun _ _ _ h => h) (Or.inl ⟨by rfl, ?_⟩) (by assumption) ?_; rotate_left; (intro X hSw; (try dsimp only at hSw); go_simp; (try with_reducible rfl)); (try simp only [Act.put, List.setIfInBounds_toArray, List.set_cons_zero, List.set_cons_succ, List.getElem_toArray, List.getElem_cons_zero, List.getElem_cons_succ])) | fail "take 0"
      first | (refine wpAnyH_take (i := 1) (v := ?_) rfl (by kernel_rfl) (by kernel_rfl) (by kernel_rfl) (fun _ _ _ h => h) (Or.inl ⟨by rfl, ?_⟩) (by assumption) ?_; rotate_left; (intro X hSw; (try dsimp only at hSw); go_simp; (try with_reducible rfl)); (try simp only [Act.put, List.setIfInBounds_toArray, List.set_cons_zero, List.set_cons_succ, List.getElem_toArray, List.getElem_cons_zero, List.getElem_cons_succ])) | fail "take 1"
      refine wpAnyH_ready (rs := [2]) (by kernel_rfl) (by simp) ?_
      refine AllReadyH.cons rfl (fun K hK => ?_) AllReadyH.nil
      go_simp
      refine (toInverse_own _ _ _ _ _ _ I _ (HI.out.below (HB.out.trans (HT.out.1.mono HB.out.size))) hmI).mono ?_
      rintro e w7 ⟨vv, rfl, rr, hb7⟩
      have HT := Lib.hid (HT.out.call hb7)
      have R6 := Lib.hid rr
      clear hb7 rr
      (try dsimp only)
      refine hK.out _ _ (by exact SQ3.out _ HT.out) (fun hHeld => ?_)
      clear hK K
      (try simp only [Act.put, List.setIfInBounds_toArray, List.set_cons_zero, List.set_cons_succ, List.getElem_toArray, List.getElem_cons_zero, List.getElem_cons_succ])
      refine wpAnyH_ready (rs := [3]) (by kernel_rfl) (by simp) ?_
      refine AllReadyH.cons rfl (fun K hK => ?_) AllReadyH.nil
      go_simp
      refine (eqInverse_own _ (RX.out.below HT.out.1) R6.out).mono ?_
      rintro e w8 ⟨rfl, hb8⟩
      have HT := Lib.hid (HT.out.call hb8)
      clear hb8
      (try dsimp only)
      refine hK.out _ _ (by exact SQ3.out _ HT.out) (fun hHeld => ?_)
      clear hK K
      (try simp only [Act.put, List.setIfInBounds_toArray, List.set_cons_zero, List.set_cons_succ, List.getElem_toArray, List.getElem_cons_zero, List.getElem_cons_succ])
      first | (refine wpAnyH_take (i := 4) (v := ?_) rfl (by kernel_rfl) (by kernel_rfl) (by kernel_rfl) (fun _ _ _ h => h) (Or.inl ⟨by rfl, ?_⟩) (by assumption) ?_; rotate_left; (intro X hSw; (try dsimp only at hSw); go_simp; (try with_reducible rfl)); (try simp only [Act.put, List.setIfInBounds_toArray, List.set_cons_zero, List.set_cons_succ, List.getElem_toArray, List.getElem_cons_zero, List.getElem_cons_succ])) | fail "take 4"
      refine wpAnyH_done (by kernel_rfl) ?_ _
      go_wp2_with fail
      go_returns
      exact ⟨rfl, HB.out.trans (HT.out.1.mono HB.out.size)⟩
  · rw [if_neg hsz] at hSZ
    have HSZ := Lib.hid hSZ
    clear hSZ
    go_enter Try.func3, Try.ntmps3
    go_wp2_with fail
    rw [← hW]
    clear hW
    refine (HSZ.out _).mono ?_
    rintro e w1 ⟨rfl, hb1⟩
    have HB1 := Lib.hid (HB.out.trans (hb1.mono HB.out.size))
    clear hb1
    go_wp2_with fail
    go_returns
    exact ⟨rfl, HB1.out⟩
end Go.Proofs.Ytehfijijapfomaa
