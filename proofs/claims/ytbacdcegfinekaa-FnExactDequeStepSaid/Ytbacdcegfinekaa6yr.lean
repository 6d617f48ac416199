/-
  The exact law of DequeStep, walked.
-/
import Derived.Test.YtbacdcegfinekaaQx
import Derived.Test.Ytbacdcegfinekaa6yp
import Derived.Test.Ytbacdcegfinekaa6yk
import Derived.Test.YtbacdcegfinekaaTa
import Derived.Deep.RegionHeld3
import Derived.Deep.DeepCutAuto
namespace Go.Proofs.Ytbacdcegfinekaa
set_option linter.unusedSimpArgs false
set_option linter.unusedVariables false
open Go.RowKit
set_option maxRecDepth 8000 in
set_option maxHeartbeats 32000000 in
theorem law_FnExactDequeStep (k : Int) (ia : Option Addr) (n ic : Nat) (pa : Option Addr) (m pc : Nat) (fi nx dr : Int) (I L : List Int) (p : Bool) (x : Int) (w : World) (hI : Nums .i64 w ia n ic I) (hL : Nums .i64 w pa m pc L) :
    Calls Try.prog 3 #[.int .i64 k, .agg #[.slice ia n ic, .slice pa m pc, .int .i64 fi, .int .i64 nx, .int .i64 dr], .agg #[.bool p, .int .i64 x]] w fun e w' => e = .returned (.bool true) ∧ Below w.heap.size w w' := by
  have hcI : ic ≤ 9223372036854775807 := by have := hI.2.2.1; unfold maxLen at this; omega
  have hnI : n ≤ ic := hI.2.1
  have HIL := Lib.hid (show I.length = n from hI.1)
  have HI := Lib.hid hI
  have hcL : pc ≤ 9223372036854775807 := by have := hL.2.2.1; unfold maxLen at this; omega
  have hnL : m ≤ pc := hL.2.1
  have HLL := Lib.hid (show L.length = m from hL.1)
  have HL := Lib.hid hL
  have hSZ := fun w => szDeque_any ia n ic pa m pc fi nx dr w (by omega) (by omega)
  obtain ⟨W, hW⟩ : ∃ W, W = (w.alloc (.cells #[.slice ia n ic, .slice pa m pc, .int .i64 fi, .int .i64 nx, .int .i64 dr] 24)).alloc (.cells #[.bool p, .int .i64 x] 26) := ⟨_, rfl⟩
  have HA := Lib.hid (show Box5 W w.heap.size 24 (.slice ia n ic) (.slice pa m pc) (.int .i64 fi) (.int .i64 nx) (.int .i64 dr) from by rw [hW]; exact (Box5.new w _ _ _ _ _ _).alloc _)
  have HP := Lib.hid (show Box2d W (w.heap.size + 1) 26 (.bool p) (.int .i64 x) from by rw [hW]; exact Box2d.new1 _ _ _ (by simp))
  have HB := Lib.hid (show Below w.heap.size w W from by rw [hW]; exact ((Below.refl _ _).alloc (Nat.le_refl _) _).alloc (by simp) _)
  clear hI hL
  by_cases hsz : n + m ≤ 1048576
  · rw [if_pos hsz] at hSZ
    have HSZ := Lib.hid hSZ
    have hpos : ¬ ((1048576 : Int) - (n : Int) - (m : Int) < 0) := by omega
    have hfn : n ≤ 1048576 := by omega
    have hm : m ≤ 1048576 := by omega
    have hlI : I.length ≤ 1048576 := by have := HIL.out; omega
    have hlL : L.length ≤ 1048576 := by have := HLL.out; omega
    obtain ⟨S, hS⟩ : ∃ S, S = Agg.aDq k ⟨I, L, fi, nx, dr⟩ (p, x) := ⟨_, rfl⟩
    obtain ⟨b, hb⟩ : ∃ b, b = Agg.dqCan k ⟨I, L, fi, nx, dr⟩ (p, x) := ⟨_, rfl⟩
    have hSb : S.items.length + S.places.length ≤ 1000 := by
      rw [hS]
      exact Agg.aDq_bound k ⟨I, L, fi, nx, dr⟩ (p, x)
    have h1 := fun ia ic pa pc w hI hL => s_dequeStep_any k ia I.length ic pa L.length pc fi nx dr I L p x w hI hL 
    have h2 := fun ia ic pa pc w hI hL => dequeStep_any k ia I.length ic pa L.length pc fi nx dr I L p x w hI hL 
    rw [← hS, ← hb] at h1 h2
    have H1 := Lib.hid h1
    have H2 := Lib.hid h2
    have HSB := Lib.hid hSb
    clear h1 h2 hS hb hSZ hSb
    go_enter Try.func3, Try.ntmps3
    go_wp2_with fail
    rw [← hW]
    clear hW
    refine (HSZ.out _).mono ?_
    rintro e w1 ⟨rfl, hb1⟩
    have HA := Lib.hid (HA.out.call hb1)
    have HP := Lib.hid (HP.out.call hb1)
    have HB := Lib.hid (HB.out.trans (hb1.mono HB.out.size))
    clear hb1
    obtain ⟨q0, q1, q2, q3, q4⟩ := HA.out.cells
    obtain ⟨p0, p1⟩ := HP.out.cells
    go_wp2_with fail
    clear q0 q1 q2 q3 q4 p0 p1
    have HP0 := Lib.hid HP.out.lt
    have sq1 : ∀ X, Snc w1 X → (X.cell? ⟨w.heap.size, 0, none⟩ = some (.slice ia n ic) ∧ X.cell? ⟨w.heap.size, 1, none⟩ = some (.slice pa m pc) ∧ X.cell? ⟨w.heap.size, 2, none⟩ = some (.int .i64 fi) ∧ X.cell? ⟨w.heap.size, 3, none⟩ = some (.int .i64 nx) ∧ X.cell? ⟨w.heap.size, 4, none⟩ = some (.int .i64 dr)) ∧ X.cell? ⟨w.heap.size + 1, 0, none⟩ = some (.bool p) ∧ X.cell? ⟨w.heap.size + 1, 1, none⟩ = some (.int .i64 x) := fun X h => ⟨(HA.out.call h.1).cells, (HP.out.call h.1).cells⟩
    have SQ1 := Lib.hid sq1
    clear sq1
    go_cut [8, 9] (fun s s' wx => ∃ c : Nat, s = .pointer (some ⟨c, 0, none⟩) ∧ s' = .bool b ∧ DqAns w1.heap.size wx.heap.size wx c S ∧ Snc w1 wx)
    case first =>
      refine wp_region_held_drew (S := (fun X => (X.cell? ⟨w.heap.size, 0, none⟩ = some (.slice ia n ic) ∧ X.cell? ⟨w.heap.size, 1, none⟩ = some (.slice pa m pc) ∧ X.cell? ⟨w.heap.size, 2, none⟩ = some (.int .i64 fi) ∧ X.cell? ⟨w.heap.size, 3, none⟩ = some (.int .i64 nx) ∧ X.cell? ⟨w.heap.size, 4, none⟩ = some (.int .i64 dr)) ∧ X.cell? ⟨w.heap.size + 1, 0, none⟩ = some (.bool p) ∧ X.cell? ⟨w.heap.size + 1, 1, none⟩ = some (.int .i64 x))) (by kernel_rfl) (by exact SQ1.out _ (Snc.refl w1).drew) (fun hHeld => ?_)
      have HT := Lib.hid (Snc.refl w1).drew
      first | (refine wpAnyH_take (i := 0) (v := ?_) rfl (by kernel_rfl) (by kernel_rfl) (by kernel_rfl) (fun _ _ _ h => h) (Or.inl ⟨by rfl, ?_⟩) (by assumption) ?_; rotate_left; (intro X hSw; (try dsimp only at hSw); go_simp; (try with_reducible rfl)); (try simp only [Act.put, List.setIfInBounds_toArray, List.set_cons_zero, List.set_cons_succ, List.getElem_toArray, List.getElem_cons_zero, List.getElem_cons_succ])) | fail "take 0"
      first | (refine wpAnyH_take (i := 1) (v := ?_) rfl (by kernel_rfl) (by kernel_rfl) (by kernel_rfl) (fun _ _ _ h => h) (Or.inl ⟨by rfl, ?_⟩) (by assumption) ?_; rotate_left; (intro X hSw; (try dsimp only at hSw); go_simp; (try with_reducible rfl)); (try simp only [Act.put, List.setIfInBounds_toArray, List.set_cons_zero, List.set_cons_succ, List.getElem_toArray, List.getElem_cons_zero, List.getElem_cons_succ])) | fail "take 1"
      first | (refine wpAnyH_take (i := 3) (v := ?_) rfl (by kernel_rfl) (by kernel_rfl) (by kernel_rfl) (fun _ _ _ h => h) (Or.inl ⟨by rfl, ?_⟩) (by assumption) ?_; rotate_left; (intro X hSw; (try dsimp only at hSw); go_simp; (try with_reducible rfl)); (try simp only [Act.put, List.setIfInBounds_toArray, List.set_cons_zero, List.set_cons_succ, List.getElem_toArray, List.getElem_cons_zero, List.getElem_cons_succ])) | fail "take 3"
      refine wpAnyH_ready (rs := [2, 9]) (by kernel_rfl) (by simp) ?_
      refine AllReadyH.cons rfl (fun K hK => ?_) (AllReadyH.cons rfl (fun K hK => ?_) AllReadyH.nil)
      · go_simp
        refine (toDeque_own _ _ _ _ _ _ _ _ _ I L _ (HI.out.below (HB.out.trans (HT.out.1.mono HB.out.size))) (HL.out.below (HB.out.trans (HT.out.1.mono HB.out.size))) hfn hm).mono ?_
        rintro e v1 ⟨vv, rfl, rr, hbb⟩
        obtain ⟨ia2, ic2, pa2, pc2, rfl, hRI, hRL⟩ := rr.read
        have HR := Lib.hid (fun X (h : Snc v1 X) => (show Nums .i64 X ia2 I.length ic2 I ∧ Nums .i64 X pa2 L.length pc2 L from ⟨hRI.below h.1, hRL.below h.1⟩))
        have HT := Lib.hid (HT.out.call hbb)
        clear hbb rr hRI hRL
        (try dsimp only)
        refine hK.out _ _ (by exact SQ1.out _ HT.out) (fun hHeld => ?_)
        clear hK K
        (try simp only [Act.put, List.setIfInBounds_toArray, List.set_cons_zero, List.set_cons_succ, List.getElem_toArray, List.getElem_cons_zero, List.getElem_cons_succ])
        refine wpAnyH_ready (rs := [4, 9]) (by kernel_rfl) (by simp) ?_
        refine AllReadyH.cons rfl (fun K hK => ?_) (AllReadyH.cons rfl (fun K hK => ?_) AllReadyH.nil)
        · go_simp
          refine (toOp_any p x _).mono ?_
          rintro e v2 ⟨rfl, hbb⟩
          have HR := Lib.hid (fun X (h : Snc v2 X) => HR.out X ⟨hbb.trans (h.1.mono hbb.size), Nat.le_trans hbb.size h.2⟩)
          have HT := Lib.hid (HT.out.call hbb)
          clear hbb
          (try dsimp only)
          refine hK.out _ _ (by exact SQ1.out _ HT.out) (fun hHeld => ?_)
          clear hK K
          (try simp only [Act.put, List.setIfInBounds_toArray, List.set_cons_zero, List.set_cons_succ, List.getElem_toArray, List.getElem_cons_zero, List.getElem_cons_succ])
          refine wpAnyH_ready (rs := [5, 9]) (by kernel_rfl) (by simp) ?_
          refine AllReadyH.cons rfl (fun K hK => ?_) (AllReadyH.cons rfl (fun K hK => ?_) AllReadyH.nil)
          · go_simp
            refine (H1.out _ _ _ _ _ (HR.out _ (Snc.refl _)).1 (HR.out _ (Snc.refl _)).2).mono ?_
            rintro e v3 ⟨vv, rfl, rr, hbb⟩
            obtain ⟨ia9, ic9, pa9, pc9, rfl, -, -⟩ := rr.read
            have HO := Lib.hid rr
            have hloL := HT.out.2
            have hloH := hbb.size
            have HT := Lib.hid (HT.out.call hbb)
            clear hbb rr
            (try dsimp only)
            refine hK.out _ _ (by exact SQ1.out _ HT.out) (fun hHeld => ?_)
            clear hK K
            (try simp only [Act.put, List.setIfInBounds_toArray, List.set_cons_zero, List.set_cons_succ, List.getElem_toArray, List.getElem_cons_zero, List.getElem_cons_succ])
            first | (refine wpAnyH_take (i := 6) (v := ?_) rfl (by kernel_rfl) (by kernel_rfl) (by kernel_rfl) (fun _ _ _ h => h) (Or.inl ⟨by rfl, ?_⟩) (by assumption) ?_; rotate_left; (intro X hSw; (try dsimp only at hSw); go_simp; (try with_reducible rfl)); (try simp only [Act.put, List.setIfInBounds_toArray, List.set_cons_zero, List.set_cons_succ, List.getElem_toArray, List.getElem_cons_zero, List.getElem_cons_succ])) | fail "take 6"
            first | (refine wpAnyH_take (i := 7) (v := ?_) rfl (by kernel_rfl) (by kernel_rfl) (by kernel_rfl) (fun _ _ _ h => h) (Or.inl ⟨by rfl, ?_⟩) (by assumption) ?_; rotate_left; (intro X hSw; (try dsimp only at hSw); go_simp; (try with_reducible rfl)); (try simp only [Act.put, List.setIfInBounds_toArray, List.set_cons_zero, List.set_cons_succ, List.getElem_toArray, List.getElem_cons_zero, List.getElem_cons_succ])) | fail "take 7"
            first | (refine wpAnyH_take (i := 8) (v := ?_) rfl (by kernel_rfl) (by kernel_rfl) (by kernel_rfl) (fun _ _ _ h => h) (Or.inl ⟨by rfl, ?_⟩) (by assumption) ?_; rotate_left; (intro X hSw; (try dsimp only at hSw); go_simp; (try with_reducible rfl)); (try simp only [Act.put, List.setIfInBounds_toArray, List.set_cons_zero, List.set_cons_succ, List.getElem_toArray, List.getElem_cons_zero, List.getElem_cons_succ])) | fail "take 8"
            refine wpAnyH_ready (rs := [9]) (by kernel_rfl) (by simp) ?_
            refine AllReadyH.cons rfl (fun K hK => ?_) AllReadyH.nil
            go_simp
            (try dsimp only)
            refine hK.out _ _ (by exact SQ1.out _ (HT.out.alloc _)) (fun hHeld => ?_)
            clear hK K
            (try simp only [Act.put, List.setIfInBounds_toArray, List.set_cons_zero, List.set_cons_succ, List.getElem_toArray, List.getElem_cons_zero, List.getElem_cons_succ])
            refine wpAnyH_ready (rs := [10]) (by kernel_rfl) (by simp) ?_
            refine AllReadyH.cons rfl (fun K hK => ?_) AllReadyH.nil
            go_simp
            (try dsimp only)
            refine hK.out _ _ (by exact SQ1.out _ (HT.out.alloc _)) (fun hHeld => ?_)
            clear hK K
            (try simp only [Act.put, List.setIfInBounds_toArray, List.set_cons_zero, List.set_cons_succ, List.getElem_toArray, List.getElem_cons_zero, List.getElem_cons_succ])
            first | (refine wpAnyH_take (i := 11) (v := ?_) rfl (by kernel_rfl) (by kernel_rfl) (by kernel_rfl) (fun _ _ _ h => h) (Or.inl ⟨by rfl, ?_⟩) (by assumption) ?_; rotate_left; (intro X hSw; (try dsimp only at hSw); go_simp; (try with_reducible rfl)); (try simp only [Act.put, List.setIfInBounds_toArray, List.set_cons_zero, List.set_cons_succ, List.getElem_toArray, List.getElem_cons_zero, List.getElem_cons_succ])) | fail "take 11"
            refine wpAnyH_done (by kernel_rfl) ?_ _
            go_wp2_with fail
            go_meet
            exact ⟨_, rfl, rfl, DqAns.new hloL hloH (Nat.le_refl _) HO.out, HT.out.alloc _⟩
          · go_simp
            obtain ⟨Y, hY⟩ : ∃ Y, Y = (v2.alloc (.cells #[.slice none 0 0, .slice none 0 0, .int .i64 0, .int .i64 0, .int .i64 0] 28)) := ⟨_, rfl⟩
            have HN := Lib.hid (show Box5 Y v2.heap.size 28 (.slice none 0 0) (.slice none 0 0) (.int .i64 0) (.int .i64 0) (.int .i64 0) from by rw [hY]; exact Box5.new _ _ _ _ _ _ _)
            have hYb : Below v2.heap.size v2 Y := by rw [hY]; exact ((Below.refl _ _).alloc (Nat.le_refl _) _)
            have hcW : w1.heap.size ≤ v2.heap.size := HT.out.2
            have HT := Lib.hid (show Snc w1 Y from HT.out.call hYb)
            have hcl : v2.heap.size < Y.heap.size := HN.out.lt
            have HR := Lib.hid (fun X (h : Snc Y X) => HR.out X ⟨(show Below v2.heap.size v2 X from hYb.trans (h.1.mono hYb.size)), Nat.le_trans hYb.size h.2⟩)
            rw [← hY]
            clear hY hYb
            (try dsimp only)
            refine hK.out _ _ (by exact SQ1.out _ HT.out) (fun hHeld => ?_)
            clear hK K
            (try simp only [Act.put, List.setIfInBounds_toArray, List.set_cons_zero, List.set_cons_succ, List.getElem_toArray, List.getElem_cons_zero, List.getElem_cons_succ])
            refine wpAnyH_ready (rs := [5]) (by kernel_rfl) (by simp) ?_
            refine AllReadyH.cons rfl (fun K hK => ?_) AllReadyH.nil
            go_simp
            refine (H1.out _ _ _ _ _ (HR.out _ (Snc.refl _)).1 (HR.out _ (Snc.refl _)).2).mono ?_
            rintro e v3 ⟨vv, rfl, rr, hbb⟩
            obtain ⟨ia9, ic9, pa9, pc9, rfl, -, -⟩ := rr.read
            have HO := Lib.hid rr
            have hloL := HT.out.2
            have hloH := hbb.size
            have HT := Lib.hid (HT.out.call hbb)
            have HN := Lib.hid (HN.out.call hbb)
            clear hbb rr
            (try dsimp only)
            refine hK.out _ _ (by exact SQ1.out _ HT.out) (fun hHeld => ?_)
            clear hK K
            (try simp only [Act.put, List.setIfInBounds_toArray, List.set_cons_zero, List.set_cons_succ, List.getElem_toArray, List.getElem_cons_zero, List.getElem_cons_succ])
            first | (refine wpAnyH_take (i := 6) (v := ?_) rfl (by kernel_rfl) (by kernel_rfl) (by kernel_rfl) (fun _ _ _ h => h) (Or.inl ⟨by rfl, ?_⟩) (by assumption) ?_; rotate_left; (intro X hSw; (try dsimp only at hSw); go_simp; (try with_reducible rfl)); (try simp only [Act.put, List.setIfInBounds_toArray, List.set_cons_zero, List.set_cons_succ, List.getElem_toArray, List.getElem_cons_zero, List.getElem_cons_succ])) | fail "take 6"
            first | (refine wpAnyH_take (i := 7) (v := ?_) rfl (by kernel_rfl) (by kernel_rfl) (by kernel_rfl) (fun _ _ _ h => h) (Or.inl ⟨by rfl, ?_⟩) (by assumption) ?_; rotate_left; (intro X hSw; (try dsimp only at hSw); go_simp; (try with_reducible rfl)); (try simp only [Act.put, List.setIfInBounds_toArray, List.set_cons_zero, List.set_cons_succ, List.getElem_toArray, List.getElem_cons_zero, List.getElem_cons_succ])) | fail "take 7"
            first | (refine wpAnyH_take (i := 8) (v := ?_) rfl (by kernel_rfl) (by kernel_rfl) (by kernel_rfl) (fun _ _ _ h => h) (Or.inl ⟨by rfl, ?_⟩) (by assumption) ?_; rotate_left; (intro X hSw; (try dsimp only at hSw); go_simp; (try with_reducible rfl)); (try simp only [Act.put, List.setIfInBounds_toArray, List.set_cons_zero, List.set_cons_succ, List.getElem_toArray, List.getElem_cons_zero, List.getElem_cons_succ])) | fail "take 8"
            obtain ⟨z0, z1, z2, z3, z4⟩ := HN.out.cells
            have zf := HN.out.free
            refine wpAnyH_ready (rs := [10]) (by kernel_rfl) (by simp) ?_
            refine AllReadyH.cons rfl (fun K hK => ?_) AllReadyH.nil
            go_simp
            (try dsimp only)
            refine hK.out _ _ (by exact SQ1.out _ (((((HT.out.set hcW _ _).set hcW _ _).set hcW _ _).set hcW _ _).set hcW _ _)) (fun hHeld => ?_)
            clear hK K
            (try simp only [Act.put, List.setIfInBounds_toArray, List.set_cons_zero, List.set_cons_succ, List.getElem_toArray, List.getElem_cons_zero, List.getElem_cons_succ])
            first | (refine wpAnyH_take (i := 11) (v := ?_) rfl (by kernel_rfl) (by kernel_rfl) (by kernel_rfl) (fun _ _ _ h => h) (Or.inl ⟨by rfl, ?_⟩) (by assumption) ?_; rotate_left; (intro X hSw; (try dsimp only at hSw); go_simp; (try with_reducible rfl)); (try simp only [Act.put, List.setIfInBounds_toArray, List.set_cons_zero, List.set_cons_succ, List.getElem_toArray, List.getElem_cons_zero, List.getElem_cons_succ])) | fail "take 11"
            refine wpAnyH_done (by kernel_rfl) ?_ _
            go_wp2_with fail
            go_meet
            exact ⟨_, rfl, rfl, DqAns.set hcW (by omega) (Nat.le_refl _) HN.out HO.out, (((((HT.out.set hcW _ _).set hcW _ _).set hcW _ _).set hcW _ _).set hcW _ _)⟩
        · go_simp
          obtain ⟨Y, hY⟩ : ∃ Y, Y = (v1.alloc (.cells #[.slice none 0 0, .slice none 0 0, .int .i64 0, .int .i64 0, .int .i64 0] 28)) := ⟨_, rfl⟩
          have HN := Lib.hid (show Box5 Y v1.heap.size 28 (.slice none 0 0) (.slice none 0 0) (.int .i64 0) (.int .i64 0) (.int .i64 0) from by rw [hY]; exact Box5.new _ _ _ _ _ _ _)
          have hYb : Below v1.heap.size v1 Y := by rw [hY]; exact ((Below.refl _ _).alloc (Nat.le_refl _) _)
          have hcW : w1.heap.size ≤ v1.heap.size := HT.out.2
          have HT := Lib.hid (show Snc w1 Y from HT.out.call hYb)
          have hcl : v1.heap.size < Y.heap.size := HN.out.lt
          have HR := Lib.hid (fun X (h : Snc Y X) => HR.out X ⟨(show Below v1.heap.size v1 X from hYb.trans (h.1.mono hYb.size)), Nat.le_trans hYb.size h.2⟩)
          rw [← hY]
          clear hY hYb
          (try dsimp only)
          refine hK.out _ _ (by exact SQ1.out _ HT.out) (fun hHeld => ?_)
          clear hK K
          (try simp only [Act.put, List.setIfInBounds_toArray, List.set_cons_zero, List.set_cons_succ, List.getElem_toArray, List.getElem_cons_zero, List.getElem_cons_succ])
          refine wpAnyH_ready (rs := [4]) (by kernel_rfl) (by simp) ?_
          refine AllReadyH.cons rfl (fun K hK => ?_) AllReadyH.nil
          go_simp
          refine (toOp_any p x _).mono ?_
          rintro e v2 ⟨rfl, hbb⟩
          have HR := Lib.hid (fun X (h : Snc v2 X) => HR.out X ⟨hbb.trans (h.1.mono hbb.size), Nat.le_trans hbb.size h.2⟩)
          have HT := Lib.hid (HT.out.call hbb)
          have HN := Lib.hid (HN.out.call hbb)
          have hcl : v1.heap.size < v2.heap.size := HN.out.lt
          clear hbb
          (try dsimp only)
          refine hK.out _ _ (by exact SQ1.out _ HT.out) (fun hHeld => ?_)
          clear hK K
          (try simp only [Act.put, List.setIfInBounds_toArray, List.set_cons_zero, List.set_cons_succ, List.getElem_toArray, List.getElem_cons_zero, List.getElem_cons_succ])
          refine wpAnyH_ready (rs := [5]) (by kernel_rfl) (by simp) ?_
          refine AllReadyH.cons rfl (fun K hK => ?_) AllReadyH.nil
          go_simp
          refine (H1.out _ _ _ _ _ (HR.out _ (Snc.refl _)).1 (HR.out _ (Snc.refl _)).2).mono ?_
          rintro e v3 ⟨vv, rfl, rr, hbb⟩
          obtain ⟨ia9, ic9, pa9, pc9, rfl, -, -⟩ := rr.read
          have HO := Lib.hid rr
          have hloL := HT.out.2
          have hloH := hbb.size
          have HT := Lib.hid (HT.out.call hbb)
          have HN := Lib.hid (HN.out.call hbb)
          clear hbb rr
          (try dsimp only)
          refine hK.out _ _ (by exact SQ1.out _ HT.out) (fun hHeld => ?_)
          clear hK K
          (try simp only [Act.put, List.setIfInBounds_toArray, List.set_cons_zero, List.set_cons_succ, List.getElem_toArray, List.getElem_cons_zero, List.getElem_cons_succ])
          first | (refine wpAnyH_take (i := 6) (v := ?_) rfl (by kernel_rfl) (by kernel_rfl) (by kernel_rfl) (fun _ _ _ h => h) (Or.inl ⟨by rfl, ?_⟩) (by assumption) ?_; rotate_left; (intro X hSw; (try dsimp only at hSw); go_simp; (try with_reducible rfl)); (try simp only [Act.put, List.setIfInBounds_toArray, List.set_cons_zero, List.set_cons_succ, List.getElem_toArray, List.getElem_cons_zero, List.getElem_cons_succ])) | fail "take 6"
          first | (refine wpAnyH_take (i := 7) (v := ?_) rfl (by kernel_rfl) (by kernel_rfl) (by kernel_rfl) (fun _ _ _ h => h) (Or.inl ⟨by rfl, ?_⟩) (by assumption) ?_; rotate_left; (intro X hSw; (try dsimp only at hSw); go_simp; (try with_reducible rfl)); (try simp only [Act.put, List.setIfInBounds_toArray, List.set_cons_zero, List.set_cons_succ, List.getElem_toArray, List.getElem_cons_zero, List.getElem_cons_succ])) | fail "take 7"
          first | (refine wpAnyH_take (i := 8) (v := ?_) rfl (by kernel_rfl) (by kernel_rfl) (by kernel_rfl) (fun _ _ _ h => h) (Or.inl ⟨by rfl, ?_⟩) (by assumption) ?_; rotate_left; (intro X hSw; (try dsimp only at hSw); go_simp; (try with_reducible rfl)); (try simp only [Act.put, List.setIfInBounds_toArray, List.set_cons_zero, List.set_cons_succ, List.getElem_toArray, List.getElem_cons_zero, List.getElem_cons_succ])) | fail "take 8"
          obtain ⟨z0, z1, z2, z3, z4⟩ := HN.out.cells
          have zf := HN.out.free
          refine wpAnyH_ready (rs := [10]) (by kernel_rfl) (by simp) ?_
          refine AllReadyH.cons rfl (fun K hK => ?_) AllReadyH.nil
          go_simp
          (try dsimp only)
          refine hK.out _ _ (by exact SQ1.out _ (((((HT.out.set hcW _ _).set hcW _ _).set hcW _ _).set hcW _ _).set hcW _ _)) (fun hHeld => ?_)
          clear hK K
          (try simp only [Act.put, List.setIfInBounds_toArray, List.set_cons_zero, List.set_cons_succ, List.getElem_toArray, List.getElem_cons_zero, List.getElem_cons_succ])
          first | (refine wpAnyH_take (i := 11) (v := ?_) rfl (by kernel_rfl) (by kernel_rfl) (by kernel_rfl) (fun _ _ _ h => h) (Or.inl ⟨by rfl, ?_⟩) (by assumption) ?_; rotate_left; (intro X hSw; (try dsimp only at hSw); go_simp; (try with_reducible rfl)); (try simp only [Act.put, List.setIfInBounds_toArray, List.set_cons_zero, List.set_cons_succ, List.getElem_toArray, List.getElem_cons_zero, List.getElem_cons_succ])) | fail "take 11"
          refine wpAnyH_done (by kernel_rfl) ?_ _
          go_wp2_with fail
          go_meet
          exact ⟨_, rfl, rfl, DqAns.set hcW (by omega) (Nat.le_refl _) HN.out HO.out, (((((HT.out.set hcW _ _).set hcW _ _).set hcW _ _).set hcW _ _).set hcW _ _)⟩
      · go_simp
        obtain ⟨Y, hY⟩ : ∃ Y, Y = (w1.alloc (.cells #[.slice none 0 0, .slice none 0 0, .int .i64 0, .int .i64 0, .int .i64 0] 28)).drew := ⟨_, rfl⟩
        have HN := Lib.hid (show Box5 Y w1.heap.size 28 (.slice none 0 0) (.slice none 0 0) (.int .i64 0) (.int .i64 0) (.int .i64 0) from by rw [hY]; exact Box5.new _ _ _ _ _ _ _)
        have hYb : Below w1.heap.size w1 Y := by rw [hY]; exact ((Below.refl _ _).alloc (Nat.le_refl _) _).drew
        have hcW : w1.heap.size ≤ w1.heap.size := Nat.le_refl _
        have HT := Lib.hid (show Snc w1 Y from (Snc.refl w1).call hYb)
        have hcl : w1.heap.size < Y.heap.size := HN.out.lt
        rw [← hY]
        clear hY hYb
        (try dsimp only)
        refine hK.out _ _ (by exact SQ1.out _ HT.out) (fun hHeld => ?_)
        clear hK K
        (try simp only [Act.put, List.setIfInBounds_toArray, List.set_cons_zero, List.set_cons_succ, List.getElem_toArray, List.getElem_cons_zero, List.getElem_cons_succ])
        refine wpAnyH_ready (rs := [2]) (by kernel_rfl) (by simp) ?_
        refine AllReadyH.cons rfl (fun K hK => ?_) AllReadyH.nil
        go_simp
        refine (toDeque_own _ _ _ _ _ _ _ _ _ I L _ (HI.out.below (HB.out.trans (HT.out.1.mono HB.out.size))) (HL.out.below (HB.out.trans (HT.out.1.mono HB.out.size))) hfn hm).mono ?_
        rintro e v1 ⟨vv, rfl, rr, hbb⟩
        obtain ⟨ia2, ic2, pa2, pc2, rfl, hRI, hRL⟩ := rr.read
        have HR := Lib.hid (fun X (h : Snc v1 X) => (show Nums .i64 X ia2 I.length ic2 I ∧ Nums .i64 X pa2 L.length pc2 L from ⟨hRI.below h.1, hRL.below h.1⟩))
        have HT := Lib.hid (HT.out.call hbb)
        have HN := Lib.hid (HN.out.call hbb)
        have hcl : w1.heap.size < v1.heap.size := HN.out.lt
        clear hbb rr hRI hRL
        (try dsimp only)
        refine hK.out _ _ (by exact SQ1.out _ HT.out) (fun hHeld => ?_)
        clear hK K
        (try simp only [Act.put, List.setIfInBounds_toArray, List.set_cons_zero, List.set_cons_succ, List.getElem_toArray, List.getElem_cons_zero, List.getElem_cons_succ])
        refine wpAnyH_ready (rs := [4]) (by kernel_rfl) (by simp) ?_
        refine AllReadyH.cons rfl (fun K hK => ?_) AllReadyH.nil
        go_simp
        refine (toOp_any p x _).mono ?_
        rintro e v2 ⟨rfl, hbb⟩
        have HR := Lib.hid (fun X (h : Snc v2 X) => HR.out X ⟨hbb.trans (h.1.mono hbb.size), Nat.le_trans hbb.size h.2⟩)
        have HT := Lib.hid (HT.out.call hbb)
        have HN := Lib.hid (HN.out.call hbb)
        have hcl : w1.heap.size < v2.heap.size := HN.out.lt
        clear hbb
        (try dsimp only)
        refine hK.out _ _ (by exact SQ1.out _ HT.out) (fun hHeld => ?_)
        clear hK K
        (try simp only [Act.put, List.setIfInBounds_toArray, List.set_cons_zero, List.set_cons_succ, List.getElem_toArray, List.getElem_cons_zero, List.getElem_cons_succ])
        refine wpAnyH_ready (rs := [5]) (by kernel_rfl) (by simp) ?_
        refine AllReadyH.cons rfl (fun K hK => ?_) AllReadyH.nil
        go_simp
        refine (H1.out _ _ _ _ _ (HR.out _ (Snc.refl _)).1 (HR.out _ (Snc.refl _)).2).mono ?_
        rintro e v3 ⟨vv, rfl, rr, hbb⟩
        obtain ⟨ia9, ic9, pa9, pc9, rfl, -, -⟩ := rr.read
        have HO := Lib.hid rr
        have hloL := HT.out.2
        have hloH := hbb.size
        have HT := Lib.hid (HT.out.call hbb)
        have HN := Lib.hid (HN.out.call hbb)
        clear hbb rr
        (try dsimp only)
        refine hK.out _ _ (by exact SQ1.out _ HT.out) (fun hHeld => ?_)
        clear hK K
        (try simp only [Act.put, List.setIfInBounds_toArray, List.set_cons_zero, List.set_cons_succ, List.getElem_toArray, List.getElem_cons_zero, List.getElem_cons_succ])
        first | (refine wpAnyH_take (i := 6) (v := ?_) rfl (by kernel_rfl) (by kernel_rfl) (by kernel_rfl) (fun _ _ _ h => h) (Or.inl ⟨by rfl, ?_⟩) (by assumption) ?_; rotate_left; (intro X hSw; (try dsimp only at hSw); go_simp; (try with_reducible rfl)); (try simp only [Act.put, List.setIfInBounds_toArray, List.set_cons_zero, List.set_cons_succ, List.getElem_toArray, List.getElem_cons_zero, List.getElem_cons_succ])) | fail "take 6"
        first | (refine wpAnyH_take (i := 7) (v := ?_) rfl (by kernel_rfl) (by kernel_rfl) (by kernel_rfl) (fun _ _ _ h => h) (Or.inl ⟨by rfl, ?_⟩) (by assumption) ?_; rotate_left; (intro X hSw; (try dsimp only at hSw); go_simp; (try with_reducible rfl)); (try simp only [Act.put, List.setIfInBounds_toArray, List.set_cons_zero, List.set_cons_succ, List.getElem_toArray, List.getElem_cons_zero, List.getElem_cons_succ])) | fail "take 7"
        first | (refine wpAnyH_take (i := 8) (v := ?_) rfl (by kernel_rfl) (by kernel_rfl) (by kernel_rfl) (fun _ _ _ h => h) (Or.inl ⟨by rfl, ?_⟩) (by assumption) ?_; rotate_left; (intro X hSw; (try dsimp only at hSw); go_simp; (try with_reducible rfl)); (try simp only [Act.put, List.setIfInBounds_toArray, List.set_cons_zero, List.set_cons_succ, List.getElem_toArray, List.getElem_cons_zero, List.getElem_cons_succ])) | fail "take 8"
        obtain ⟨z0, z1, z2, z3, z4⟩ := HN.out.cells
        have zf := HN.out.free
        refine wpAnyH_ready (rs := [10]) (by kernel_rfl) (by simp) ?_
        refine AllReadyH.cons rfl (fun K hK => ?_) AllReadyH.nil
        go_simp
        (try dsimp only)
        refine hK.out _ _ (by exact SQ1.out _ (((((HT.out.set hcW _ _).set hcW _ _).set hcW _ _).set hcW _ _).set hcW _ _)) (fun hHeld => ?_)
        clear hK K
        (try simp only [Act.put, List.setIfInBounds_toArray, List.set_cons_zero, List.set_cons_succ, List.getElem_toArray, List.getElem_cons_zero, List.getElem_cons_succ])
        first | (refine wpAnyH_take (i := 11) (v := ?_) rfl (by kernel_rfl) (by kernel_rfl) (by kernel_rfl) (fun _ _ _ h => h) (Or.inl ⟨by rfl, ?_⟩) (by assumption) ?_; rotate_left; (intro X hSw; (try dsimp only at hSw); go_simp; (try with_reducible rfl)); (try simp only [Act.put, List.setIfInBounds_toArray, List.set_cons_zero, List.set_cons_succ, List.getElem_toArray, List.getElem_cons_zero, List.getElem_cons_succ])) | fail "take 11"
        refine wpAnyH_done (by kernel_rfl) ?_ _
        go_wp2_with fail
        go_meet
        exact ⟨_, rfl, rfl, DqAns.set hcW (by omega) (Nat.le_refl _) HN.out HO.out, (((((HT.out.set hcW _ _).set hcW _ _).set hcW _ _).set hcW _ _).set hcW _ _)⟩
    case rest =>
      obtain ⟨c0, rfl, rfl, hA0, hs0⟩ := hcut
      have HA := Lib.hid (HA.out.call hs0.1)
      have HP := Lib.hid (HP.out.call hs0.1)
      have HB := Lib.hid (HB.out.trans (hs0.1.mono HB.out.size))
      have H0 := Lib.hid hA0
      have hz0 := hs0.2
      have hpl : w.heap.size + 1 < w1.heap.size := HP0.out
      clear hA0 hs0 SQ1 HP0
      obtain ⟨WA, hWA⟩ : ∃ WA, WA = wc := ⟨_, rfl⟩
      subst hWA
      obtain ⟨q0, q1, q2, q3, q4⟩ := HA.out.cells
      go_wp2_with fail
      refine (toDeque_own _ _ _ _ _ _ _ _ _ I L _ (HI.out.below HB.out) (HL.out.below HB.out) hfn hm).mono ?_
      rintro e w2 ⟨vv, rfl, rr, hb2⟩
      obtain ⟨ia1, ic1, pa1, pc1, rfl, hXI, hXL⟩ := rr.read
      obtain ⟨W3, hW3⟩ : ∃ W3, W3 = w2.alloc (.cells #[.slice ia1 I.length ic1, .slice pa1 L.length pc1, .int .i64 fi, .int .i64 nx, .int .i64 dr] 28) := ⟨_, rfl⟩
      have hb3 : Below w2.heap.size w2 W3 := by rw [hW3]; exact (Below.refl _ _).alloc (Nat.le_refl _) _
      have HX := Lib.hid (show Box5 W3 w2.heap.size 28 (.slice ia1 I.length ic1) (.slice pa1 L.length pc1) (.int .i64 fi) (.int .i64 nx) (.int .i64 dr) from by rw [hW3]; exact Box5.new _ _ _ _ _ _ _)
      have RX := Lib.hid (rr.below hb3)
      have HXI := Lib.hid (hXI.below hb3)
      have HXL := Lib.hid (hXL.below hb3)
      have hb23 : Below WA.heap.size WA W3 := hb2.trans (hb3.mono hb2.size)
      have HA := Lib.hid (HA.out.call hb23)
      have HP := Lib.hid (HP.out.call hb23)
      have HB := Lib.hid (HB.out.trans (hb23.mono HB.out.size))
      have H0 := Lib.hid (H0.out.call hb23)
      have hz2 := hb2.size
      have hz3 : w2.heap.size < W3.heap.size := HX.out.lt
      clear hb2 hb3 hb23 rr hXI hXL q0 q1 q2 q3 q4
      go_upto_region 7 with (fail)
      rw [← hW3]
      clear hW3
      have sq2 : ∀ X, Snc W3 X → (X.cell? ⟨w2.heap.size, 0, none⟩ = some (.slice ia1 I.length ic1) ∧ X.cell? ⟨w2.heap.size, 1, none⟩ = some (.slice pa1 L.length pc1) ∧ X.cell? ⟨w2.heap.size, 2, none⟩ = some (.int .i64 fi) ∧ X.cell? ⟨w2.heap.size, 3, none⟩ = some (.int .i64 nx) ∧ X.cell? ⟨w2.heap.size, 4, none⟩ = some (.int .i64 dr)) ∧ X.cell? ⟨w.heap.size + 1, 0, none⟩ = some (.bool p) ∧ X.cell? ⟨w.heap.size + 1, 1, none⟩ = some (.int .i64 x) := fun X h => ⟨(HX.out.call h.1).cells, (HP.out.call h.1).cells⟩
      have SQ2 := Lib.hid sq2
      clear sq2
      go_cut [11, 12] (fun s s' wx => ∃ c : Nat, s = .pointer (some ⟨c, 0, none⟩) ∧ s' = .bool b ∧ DqAns W3.heap.size wx.heap.size wx c S ∧ Snc W3 wx)
      case first =>
        refine wp_region_held_drew (S := (fun X => (X.cell? ⟨w2.heap.size, 0, none⟩ = some (.slice ia1 I.length ic1) ∧ X.cell? ⟨w2.heap.size, 1, none⟩ = some (.slice pa1 L.length pc1) ∧ X.cell? ⟨w2.heap.size, 2, none⟩ = some (.int .i64 fi) ∧ X.cell? ⟨w2.heap.size, 3, none⟩ = some (.int .i64 nx) ∧ X.cell? ⟨w2.heap.size, 4, none⟩ = some (.int .i64 dr)) ∧ X.cell? ⟨w.heap.size + 1, 0, none⟩ = some (.bool p) ∧ X.cell? ⟨w.heap.size + 1, 1, none⟩ = some (.int .i64 x))) (by kernel_rfl) (by exact SQ2.out _ (Snc.refl W3).drew) (fun hHeld => ?_)
        have HT := Lib.hid (Snc.refl W3).drew
        first | (refine wpAnyH_take (i := 0) (v := ?_) rfl (by kernel_rfl) (by kernel_rfl) (by kernel_rfl) (fun _ _ _ h => h) (Or.inl ⟨by rfl, ?_⟩) (by assumption) ?_; rotate_left; (intro X hSw; (try dsimp only at hSw); go_simp; (try with_reducible rfl)); (try simp only [Act.put, List.setIfInBounds_toArray, List.set_cons_zero, List.set_cons_succ, List.getElem_toArray, List.getElem_cons_zero, List.getElem_cons_succ])) | fail "take 0"
        first | (refine wpAnyH_take (i := 1) (v := ?_) rfl (by kernel_rfl) (by kernel_rfl) (by kernel_rfl) (fun _ _ _ h => h) (Or.inl ⟨by rfl, ?_⟩) (by assumption) ?_; rotate_left; (intro X hSw; (try dsimp only at hSw); go_simp; (try with_reducible rfl)); (try simp only [Act.put, List.setIfInBounds_toArray, List.set_cons_zero, List.set_cons_succ, List.getElem_toArray, List.getElem_cons_zero, List.getElem_cons_succ])) | fail "take 1"
        first | (refine wpAnyH_take (i := 2) (v := ?_) rfl (by kernel_rfl) (by kernel_rfl) (by kernel_rfl) (fun _ _ _ h => h) (Or.inl ⟨by rfl, ?_⟩) (by assumption) ?_; rotate_left; (intro X hSw; (try dsimp only at hSw); go_simp; (try with_reducible rfl)); (try simp only [Act.put, List.setIfInBounds_toArray, List.set_cons_zero, List.set_cons_succ, List.getElem_toArray, List.getElem_cons_zero, List.getElem_cons_succ])) | fail "take 2"
        refine wpAnyH_ready (rs := [3, 8]) (by kernel_rfl) (by simp) ?_
        refine AllReadyH.cons rfl (fun K hK => ?_) (AllReadyH.cons rfl (fun K hK => ?_) AllReadyH.nil)
        · go_simp
          refine (toOp_any p x _).mono ?_
          rintro e v1 ⟨rfl, hbb⟩
          have HT := Lib.hid (HT.out.call hbb)
          clear hbb
          (try dsimp only)
          refine hK.out _ _ (by exact SQ2.out _ HT.out) (fun hHeld => ?_)
          clear hK K
          (try simp only [Act.put, List.setIfInBounds_toArray, List.set_cons_zero, List.set_cons_succ, List.getElem_toArray, List.getElem_cons_zero, List.getElem_cons_succ])
          refine wpAnyH_ready (rs := [4, 8]) (by kernel_rfl) (by simp) ?_
          refine AllReadyH.cons rfl (fun K hK => ?_) (AllReadyH.cons rfl (fun K hK => ?_) AllReadyH.nil)
          · go_simp
            refine (H2.out _ _ _ _ _ (HXI.out.below HT.out.1) (HXL.out.below HT.out.1)).mono ?_
            rintro e v2 ⟨vv, rfl, rr, hbb⟩
            obtain ⟨ia9, ic9, pa9, pc9, rfl, -, -⟩ := rr.read
            have HO := Lib.hid rr
            have hloL := HT.out.2
            have hloH := hbb.size
            have HT := Lib.hid (HT.out.call hbb)
            clear hbb rr
            (try dsimp only)
            refine hK.out _ _ (by exact SQ2.out _ HT.out) (fun hHeld => ?_)
            clear hK K
            (try simp only [Act.put, List.setIfInBounds_toArray, List.set_cons_zero, List.set_cons_succ, List.getElem_toArray, List.getElem_cons_zero, List.getElem_cons_succ])
            first | (refine wpAnyH_take (i := 5) (v := ?_) rfl (by kernel_rfl) (by kernel_rfl) (by kernel_rfl) (fun _ _ _ h => h) (Or.inl ⟨by rfl, ?_⟩) (by assumption) ?_; rotate_left; (intro X hSw; (try dsimp only at hSw); go_simp; (try with_reducible rfl)); (try simp only [Act.put, List.setIfInBounds_toArray, List.set_cons_zero, List.set_cons_succ, List.getElem_toArray, List.getElem_cons_zero, List.getElem_cons_succ])) | fail "take 5"
            first | (refine wpAnyH_take (i := 6) (v := ?_) rfl (by kernel_rfl) (by kernel_rfl) (by kernel_rfl) (fun _ _ _ h => h) (Or.inl ⟨by rfl, ?_⟩) (by assumption) ?_; rotate_left; (intro X hSw; (try dsimp only at hSw); go_simp; (try with_reducible rfl)); (try simp only [Act.put, List.setIfInBounds_toArray, List.set_cons_zero, List.set_cons_succ, List.getElem_toArray, List.getElem_cons_zero, List.getElem_cons_succ])) | fail "take 6"
            first | (refine wpAnyH_take (i := 7) (v := ?_) rfl (by kernel_rfl) (by kernel_rfl) (by kernel_rfl) (fun _ _ _ h => h) (Or.inl ⟨by rfl, ?_⟩) (by assumption) ?_; rotate_left; (intro X hSw; (try dsimp only at hSw); go_simp; (try with_reducible rfl)); (try simp only [Act.put, List.setIfInBounds_toArray, List.set_cons_zero, List.set_cons_succ, List.getElem_toArray, List.getElem_cons_zero, List.getElem_cons_succ])) | fail "take 7"
            refine wpAnyH_ready (rs := [8]) (by kernel_rfl) (by simp) ?_
            refine AllReadyH.cons rfl (fun K hK => ?_) AllReadyH.nil
            go_simp
            (try dsimp only)
            refine hK.out _ _ (by exact SQ2.out _ (HT.out.alloc _)) (fun hHeld => ?_)
            clear hK K
            (try simp only [Act.put, List.setIfInBounds_toArray, List.set_cons_zero, List.set_cons_succ, List.getElem_toArray, List.getElem_cons_zero, List.getElem_cons_succ])
            refine wpAnyH_ready (rs := [9]) (by kernel_rfl) (by simp) ?_
            refine AllReadyH.cons rfl (fun K hK => ?_) AllReadyH.nil
            go_simp
            (try dsimp only)
            refine hK.out _ _ (by exact SQ2.out _ (HT.out.alloc _)) (fun hHeld => ?_)
            clear hK K
            (try simp only [Act.put, List.setIfInBounds_toArray, List.set_cons_zero, List.set_cons_succ, List.getElem_toArray, List.getElem_cons_zero, List.getElem_cons_succ])
            first | (refine wpAnyH_take (i := 10) (v := ?_) rfl (by kernel_rfl) (by kernel_rfl) (by kernel_rfl) (fun _ _ _ h => h) (Or.inl ⟨by rfl, ?_⟩) (by assumption) ?_; rotate_left; (intro X hSw; (try dsimp only at hSw); go_simp; (try with_reducible rfl)); (try simp only [Act.put, List.setIfInBounds_toArray, List.set_cons_zero, List.set_cons_succ, List.getElem_toArray, List.getElem_cons_zero, List.getElem_cons_succ])) | fail "take 10"
            refine wpAnyH_done (by kernel_rfl) ?_ _
            go_wp2_with fail
            go_meet
            exact ⟨_, rfl, rfl, DqAns.new hloL hloH (Nat.le_refl _) HO.out, HT.out.alloc _⟩
          · go_simp
            obtain ⟨Y, hY⟩ : ∃ Y, Y = (v1.alloc (.cells #[.slice none 0 0, .slice none 0 0, .int .i64 0, .int .i64 0, .int .i64 0] 28)) := ⟨_, rfl⟩
            have HN := Lib.hid (show Box5 Y v1.heap.size 28 (.slice none 0 0) (.slice none 0 0) (.int .i64 0) (.int .i64 0) (.int .i64 0) from by rw [hY]; exact Box5.new _ _ _ _ _ _ _)
            have hYb : Below v1.heap.size v1 Y := by rw [hY]; exact ((Below.refl _ _).alloc (Nat.le_refl _) _)
            have hcW : W3.heap.size ≤ v1.heap.size := HT.out.2
            have HT := Lib.hid (show Snc W3 Y from HT.out.call hYb)
            have hcl : v1.heap.size < Y.heap.size := HN.out.lt
            rw [← hY]
            clear hY hYb
            (try dsimp only)
            refine hK.out _ _ (by exact SQ2.out _ HT.out) (fun hHeld => ?_)
            clear hK K
            (try simp only [Act.put, List.setIfInBounds_toArray, List.set_cons_zero, List.set_cons_succ, List.getElem_toArray, List.getElem_cons_zero, List.getElem_cons_succ])
            refine wpAnyH_ready (rs := [4]) (by kernel_rfl) (by simp) ?_
            refine AllReadyH.cons rfl (fun K hK => ?_) AllReadyH.nil
            go_simp
            refine (H2.out _ _ _ _ _ (HXI.out.below HT.out.1) (HXL.out.below HT.out.1)).mono ?_
            rintro e v2 ⟨vv, rfl, rr, hbb⟩
            obtain ⟨ia9, ic9, pa9, pc9, rfl, -, -⟩ := rr.read
            have HO := Lib.hid rr
            have hloL := HT.out.2
            have hloH := hbb.size
            have HT := Lib.hid (HT.out.call hbb)
            have HN := Lib.hid (HN.out.call hbb)
            clear hbb rr
            (try dsimp only)
            refine hK.out _ _ (by exact SQ2.out _ HT.out) (fun hHeld => ?_)
            clear hK K
            (try simp only [Act.put, List.setIfInBounds_toArray, List.set_cons_zero, List.set_cons_succ, List.getElem_toArray, List.getElem_cons_zero, List.getElem_cons_succ])
            first | (refine wpAnyH_take (i := 5) (v := ?_) rfl (by kernel_rfl) (by kernel_rfl) (by kernel_rfl) (fun _ _ _ h => h) (Or.inl ⟨by rfl, ?_⟩) (by assumption) ?_; rotate_left; (intro X hSw; (try dsimp only at hSw); go_simp; (try with_reducible rfl)); (try simp only [Act.put, List.setIfInBounds_toArray, List.set_cons_zero, List.set_cons_succ, List.getElem_toArray, List.getElem_cons_zero, List.getElem_cons_succ])) | fail "take 5"
            first | (refine wpAnyH_take (i := 6) (v := ?_) rfl (by kernel_rfl) (by kernel_rfl) (by kernel_rfl) (fun _ _ _ h => h) (Or.inl ⟨by rfl, ?_⟩) (by assumption) ?_; rotate_left; (intro X hSw; (try dsimp only at hSw); go_simp; (try with_reducible rfl)); (try simp only [Act.put, List.setIfInBounds_toArray, List.set_cons_zero, List.set_cons_succ, List.getElem_toArray, List.getElem_cons_zero, List.getElem_cons_succ])) | fail "take 6"
            first | (refine wpAnyH_take (i := 7) (v := ?_) rfl (by kernel_rfl) (by kernel_rfl) (by kernel_rfl) (fun _ _ _ h => h) (Or.inl ⟨by rfl, ?_⟩) (by assumption) ?_; rotate_left; (intro X hSw; (try dsimp only at hSw); go_simp; (try with_reducible rfl)); (try simp only [Act.put, List.setIfInBounds_toArray, List.set_cons_zero, List.set_cons_succ, List.getElem_toArray, List.getElem_cons_zero, List.getElem_cons_succ])) | fail "take 7"
            obtain ⟨z0, z1, z2, z3, z4⟩ := HN.out.cells
            have zf := HN.out.free
            refine wpAnyH_ready (rs := [9]) (by kernel_rfl) (by simp) ?_
            refine AllReadyH.cons rfl (fun K hK => ?_) AllReadyH.nil
            go_simp
            (try dsimp only)
            refine hK.out _ _ (by exact SQ2.out _ (((((HT.out.set hcW _ _).set hcW _ _).set hcW _ _).set hcW _ _).set hcW _ _)) (fun hHeld => ?_)
            clear hK K
            (try simp only [Act.put, List.setIfInBounds_toArray, List.set_cons_zero, List.set_cons_succ, List.getElem_toArray, List.getElem_cons_zero, List.getElem_cons_succ])
            first | (refine wpAnyH_take (i := 10) (v := ?_) rfl (by kernel_rfl) (by kernel_rfl) (by kernel_rfl) (fun _ _ _ h => h) (Or.inl ⟨by rfl, ?_⟩) (by assumption) ?_; rotate_left; (intro X hSw; (try dsimp only at hSw); go_simp; (try with_reducible rfl)); (try simp only [Act.put, List.setIfInBounds_toArray, List.set_cons_zero, List.set_cons_succ, List.getElem_toArray, List.getElem_cons_zero, List.getElem_cons_succ])) | fail "take 10"
            refine wpAnyH_done (by kernel_rfl) ?_ _
            go_wp2_with fail
            go_meet
            exact ⟨_, rfl, rfl, DqAns.set hcW (by omega) (Nat.le_refl _) HN.out HO.out, (((((HT.out.set hcW _ _).set hcW _ _).set hcW _ _).set hcW _ _).set hcW _ _)⟩
        · go_simp
          obtain ⟨Y, hY⟩ : ∃ Y, Y = (W3.alloc (.cells #[.slice none 0 0, .slice none 0 0, .int .i64 0, .int .i64 0, .int .i64 0] 28)).drew := ⟨_, rfl⟩
          have HN := Lib.hid (show Box5 Y W3.heap.size 28 (.slice none 0 0) (.slice none 0 0) (.int .i64 0) (.int .i64 0) (.int .i64 0) from by rw [hY]; exact Box5.new _ _ _ _ _ _ _)
          have hYb : Below W3.heap.size W3 Y := by rw [hY]; exact ((Below.refl _ _).alloc (Nat.le_refl _) _).drew
          have hcW : W3.heap.size ≤ W3.heap.size := Nat.le_refl _
          have HT := Lib.hid (show Snc W3 Y from (Snc.refl W3).call hYb)
          have hcl : W3.heap.size < Y.heap.size := HN.out.lt
          rw [← hY]
          clear hY hYb
          (try dsimp only)
          refine hK.out _ _ (by exact SQ2.out _ HT.out) (fun hHeld => ?_)
          clear hK K
          (try simp only [Act.put, List.setIfInBounds_toArray, List.set_cons_zero, List.set_cons_succ, List.getElem_toArray, List.getElem_cons_zero, List.getElem_cons_succ])
          refine wpAnyH_ready (rs := [3]) (by kernel_rfl) (by simp) ?_
          refine AllReadyH.cons rfl (fun K hK => ?_) AllReadyH.nil
          go_simp
          refine (toOp_any p x _).mono ?_
          rintro e v1 ⟨rfl, hbb⟩
          have HT := Lib.hid (HT.out.call hbb)
          have HN := Lib.hid (HN.out.call hbb)
          have hcl : W3.heap.size < v1.heap.size := HN.out.lt
          clear hbb
          (try dsimp only)
          refine hK.out _ _ (by exact SQ2.out _ HT.out) (fun hHeld => ?_)
          clear hK K
          (try simp only [Act.put, List.setIfInBounds_toArray, List.set_cons_zero, List.set_cons_succ, List.getElem_toArray, List.getElem_cons_zero, List.getElem_cons_succ])
          refine wpAnyH_ready (rs := [4]) (by kernel_rfl) (by simp) ?_
          refine AllReadyH.cons rfl (fun K hK => ?_) AllReadyH.nil
          go_simp
          refine (H2.out _ _ _ _ _ (HXI.out.below HT.out.1) (HXL.out.below HT.out.1)).mono ?_
          rintro e v2 ⟨vv, rfl, rr, hbb⟩
          obtain ⟨ia9, ic9, pa9, pc9, rfl, -, -⟩ := rr.read
          have HO := Lib.hid rr
          have hloL := HT.out.2
          have hloH := hbb.size
          have HT := Lib.hid (HT.out.call hbb)
          have HN := Lib.hid (HN.out.call hbb)
          clear hbb rr
          (try dsimp only)
          refine hK.out _ _ (by exact SQ2.out _ HT.out) (fun hHeld => ?_)
          clear hK K
          (try simp only [Act.put, List.setIfInBounds_toArray, List.set_cons_zero, List.set_cons_succ, List.getElem_toArray, List.getElem_cons_zero, List.getElem_cons_succ])
          first | (refine wpAnyH_take (i := 5) (v := ?_) rfl (by kernel_rfl) (by kernel_rfl) (by kernel_rfl) (fun _ _ _ h => h) (Or.inl ⟨by rfl, ?_⟩) (by assumption) ?_; rotate_left; (intro X hSw; (try dsimp only at hSw); go_simp; (try with_reducible rfl)); (try simp only [Act.put, List.setIfInBounds_toArray, List.set_cons_zero, List.set_cons_succ, List.getElem_toArray, List.getElem_cons_zero, List.getElem_cons_succ])) | fail "take 5"
          first | (refine wpAnyH_take (i := 6) (v := ?_) rfl (by kernel_rfl) (by kernel_rfl) (by kernel_rfl) (fun _ _ _ h => h) (Or.inl ⟨by rfl, ?_⟩) (by assumption) ?_; rotate_left; (intro X hSw; (try dsimp only at hSw); go_simp; (try with_reducible rfl)); (try simp only [Act.put, List.setIfInBounds_toArray, List.set_cons_zero, List.set_cons_succ, List.getElem_toArray, List.getElem_cons_zero, List.getElem_cons_succ])) | fail "take 6"
          first | (refine wpAnyH_take (i := 7) (v := ?_) rfl (by kernel_rfl) (by kernel_rfl) (by kernel_rfl) (fun _ _ _ h => h) (Or.inl ⟨by rfl, ?_⟩) (by assumption) ?_; rotate_left; (intro X hSw; (try dsimp only at hSw); go_simp; (try with_reducible rfl)); (try simp only [Act.put, List.setIfInBounds_toArray, List.set_cons_zero, List.set_cons_succ, List.getElem_toArray, List.getElem_cons_zero, List.getElem_cons_succ])) | fail "take 7"
          obtain ⟨z0, z1, z2, z3, z4⟩ := HN.out.cells
          have zf := HN.out.free
          refine wpAnyH_ready (rs := [9]) (by kernel_rfl) (by simp) ?_
          refine AllReadyH.cons rfl (fun K hK => ?_) AllReadyH.nil
          go_simp
          (try dsimp only)
          refine hK.out _ _ (by exact SQ2.out _ (((((HT.out.set hcW _ _).set hcW _ _).set hcW _ _).set hcW _ _).set hcW _ _)) (fun hHeld => ?_)
          clear hK K
          (try simp only [Act.put, List.setIfInBounds_toArray, List.set_cons_zero, List.set_cons_succ, List.getElem_toArray, List.getElem_cons_zero, List.getElem_cons_succ])
          first | (refine wpAnyH_take (i := 10) (v := ?_) rfl (by kernel_rfl) (by kernel_rfl) (by kernel_rfl) (fun _ _ _ h => h) (Or.inl ⟨by rfl, ?_⟩) (by assumption) ?_; rotate_left; (intro X hSw; (try dsimp only at hSw); go_simp; (try with_reducible rfl)); (try simp only [Act.put, List.setIfInBounds_toArray, List.set_cons_zero, List.set_cons_succ, List.getElem_toArray, List.getElem_cons_zero, List.getElem_cons_succ])) | fail "take 10"
          refine wpAnyH_done (by kernel_rfl) ?_ _
          go_wp2_with fail
          go_meet
          exact ⟨_, rfl, rfl, DqAns.set hcW (by omega) (Nat.le_refl _) HN.out HO.out, (((((HT.out.set hcW _ _).set hcW _ _).set hcW _ _).set hcW _ _).set hcW _ _)⟩
      case rest =>
        obtain ⟨c1, rfl, rfl, hA1, hs1⟩ := hcut
        have HA := Lib.hid (HA.out.call hs1.1)
        have HP := Lib.hid (HP.out.call hs1.1)
        have HB := Lib.hid (HB.out.trans (hs1.1.mono HB.out.size))
        have H0 := Lib.hid (H0.out.call hs1.1)
        have HX := Lib.hid (HX.out.call hs1.1)
        have RX := Lib.hid (RX.out.below hs1.1)
        have hz4 := hs1.2
        obtain ⟨lo0, hi0, ia0, ic0, pa0, pc0, d1, d2, d3, d4, d5, d6, d7, d8⟩ := H0.out
        obtain ⟨lo1, hi1, ia5, ic5, pa5, pc5, e1, e2, e3, e4, e5, e6, e7, e8⟩ := hA1
        have B0 := Lib.hid d7
        have R0 := Lib.hid d8
        have B1 := Lib.hid e7
        have R1 := Lib.hid e8
        have HIn := Lib.hid (show w1.heap.size ≤ lo0 ∧ hi0 ≤ WA.heap.size ∧ w1.heap.size ≤ c0 ∧ c0 < WA.heap.size ∧ (c0 < lo0 ∨ hi0 ≤ c0) from ⟨d1, d2, d3, d4, d5⟩)
        obtain ⟨N1, hN1⟩ : ∃ N, N = markND ⟨I, L, fi, nx, dr⟩ := ⟨_, rfl⟩
        obtain ⟨N2, hN2⟩ : ∃ N, N = markND S := ⟨_, rfl⟩
        have hn1 : ¬ (1 + N1 < 0) := by rw [hN1]; unfold markND; omega
        have hn2 : ¬ (1 + N2 < 0) := by rw [hN2]; unfold markND; omega
        have hm1 := fun lo hi v w h => markDeque_own (lo := lo) (hi := hi) (v := v) (s := ⟨I, L, fi, nx, dr⟩) w 1 h (by omega) (by omega) (by have := HSB.out; have := HIL.out; have := HLL.out; (try simp only); omega)
        have hm2 := fun lo hi v w h => markDeque_own (lo := lo) (hi := hi) (v := v) (s := S) w 1 h (by omega) (by omega) (by have := HSB.out; omega)
        have hh2 := fun lo hi v w h => heldDeque_own (lo := lo) (hi := hi) (v := v) (s := S) w 1 h (by omega) (by omega) (by have := HSB.out; omega)
        simp only [← hN1] at hm1
        simp only [← hN2] at hm2 hh2
        have HM1 := Lib.hid hm1
        have HM2 := Lib.hid hm2
        have HH2 := Lib.hid hh2
        clear hm1 hm2 hh2 hN1 hN2
        clear d1 d2 d3 d4 d5 d6 d7 d8 e6 e7 e8 H0 hs1 SQ2
        obtain ⟨r0, r1, r2, r3, r4⟩ := B0.out.cells
        obtain ⟨g0, g1, g2, g3, g4⟩ := B1.out.cells
        cases b
        · skip
          go_wp2_with fail
          refine (eqDeque_own _ R1.out R0.out).mono ?_
          rintro e w5 ⟨rfl, hb5⟩
          have HA := Lib.hid (HA.out.call hb5)
          have HP := Lib.hid (HP.out.call hb5)
          have B0 := Lib.hid (B0.out.call hb5)
          have R0 := Lib.hid (R0.out.below hb5)
          have B1 := Lib.hid (B1.out.call hb5)
          have R1 := Lib.hid (R1.out.below hb5)
          have HX := Lib.hid (HX.out.call hb5)
          have RX := Lib.hid (RX.out.below hb5)
          have HB := Lib.hid (HB.out.trans (hb5.mono HB.out.size))
          clear r0 r1 r2 r3 r4 g0 g1 g2 g3 g4
          clear hb5
          obtain ⟨x0, x1, x2, x3, x4⟩ := HX.out.cells
          obtain ⟨q0, q1, q2, q3, q4⟩ := HA.out.cells
          go_wp2_with fail
          clear x0 x1 x2 x3 x4 q0 q1 q2 q3 q4
          have sq3 : ∀ X, Snc w5 X → (X.cell? ⟨w2.heap.size, 0, none⟩ = some (.slice ia1 I.length ic1) ∧ X.cell? ⟨w2.heap.size, 1, none⟩ = some (.slice pa1 L.length pc1) ∧ X.cell? ⟨w2.heap.size, 2, none⟩ = some (.int .i64 fi) ∧ X.cell? ⟨w2.heap.size, 3, none⟩ = some (.int .i64 nx) ∧ X.cell? ⟨w2.heap.size, 4, none⟩ = some (.int .i64 dr)) ∧ (X.cell? ⟨w.heap.size, 0, none⟩ = some (.slice ia n ic) ∧ X.cell? ⟨w.heap.size, 1, none⟩ = some (.slice pa m pc) ∧ X.cell? ⟨w.heap.size, 2, none⟩ = some (.int .i64 fi) ∧ X.cell? ⟨w.heap.size, 3, none⟩ = some (.int .i64 nx) ∧ X.cell? ⟨w.heap.size, 4, none⟩ = some (.int .i64 dr)) := fun X h => ⟨(HX.out.call h.1).cells, (HA.out.call h.1).cells⟩
          have SQ3 := Lib.hid sq3
          clear sq3
          refine wp_region_held_drew (S := fun X => (X.cell? ⟨w2.heap.size, 0, none⟩ = some (.slice ia1 I.length ic1) ∧ X.cell? ⟨w2.heap.size, 1, none⟩ = some (.slice pa1 L.length pc1) ∧ X.cell? ⟨w2.heap.size, 2, none⟩ = some (.int .i64 fi) ∧ X.cell? ⟨w2.heap.size, 3, none⟩ = some (.int .i64 nx) ∧ X.cell? ⟨w2.heap.size, 4, none⟩ = some (.int .i64 dr)) ∧ (X.cell? ⟨w.heap.size, 0, none⟩ = some (.slice ia n ic) ∧ X.cell? ⟨w.heap.size, 1, none⟩ = some (.slice pa m pc) ∧ X.cell? ⟨w.heap.size, 2, none⟩ = some (.int .i64 fi) ∧ X.cell? ⟨w.heap.size, 3, none⟩ = some (.int .i64 nx) ∧ X.cell? ⟨w.heap.size, 4, none⟩ = some (.int .i64 dr))) (by kernel_rfl) (by exact SQ3.out _ (Snc.refl w5).drew) (fun hHeld => ?_)
          have HT := Lib.hid (Snc.refl w5).drew
          first | (refine wpAnyH_take (i := 0) (v := ?_) rfl (by kernel_rfl) (by kernel_rfl) (by kernel_rfl) (fun _ _ _ h => h) (Or.inl ⟨by rfl, ?_⟩) (by assumption) ?_; rotate_left; (intro X hSw; (try dsimp only at hSw); go_simp; (try with_reducible rfl)); (try simp only [Act.put, List.setIfInBounds_toArray, List.set_cons_zero, List.set_cons_succ, List.getElem_toArray, List.getElem_cons_zero, List.getElem_cons_succ])) | fail "take 0"
          first | (refine wpAnyH_take (i := 1) (v := ?_) rfl (by kernel_rfl) (by kernel_rfl) (by kernel_rfl) (fun _ _ _ h => h) (Or.inl ⟨by rfl, ?_⟩) (by assumption) ?_; rotate_left; (intro X hSw; (try dsimp only at hSw); go_simp; (try with_reducible rfl)); (try simp only [Act.put, List.setIfInBounds_toArray, List.set_cons_zero, List.set_cons_succ, List.getElem_toArray, List.getElem_cons_zero, List.getElem_cons_succ])) | fail "take 1"
          refine wpAnyH_ready (rs := [2]) (by kernel_rfl) (by simp) ?_
          refine AllReadyH.cons rfl (fun K hK => ?_) AllReadyH.nil
          go_simp
          refine (toDeque_own _ _ _ _ _ _ _ _ _ I L _ (HI.out.below (HB.out.trans (HT.out.1.mono HB.out.size))) (HL.out.below (HB.out.trans (HT.out.1.mono HB.out.size))) hfn hm).mono ?_
          rintro e w6 ⟨vv, rfl, rr, hb6⟩
          have HT := Lib.hid (HT.out.call hb6)
          have R6 := Lib.hid rr
          clear hb6 rr
          (try dsimp only)
          refine hK.out _ _ (by exact SQ3.out _ HT.out) (fun hHeld => ?_)
          clear hK K
          (try simp only [Act.put, List.setIfInBounds_toArray, List.set_cons_zero, List.set_cons_succ, List.getElem_toArray, List.getElem_cons_zero, List.getElem_cons_succ])
          refine wpAnyH_ready (rs := [3]) (by kernel_rfl) (by simp) ?_
          refine AllReadyH.cons rfl (fun K hK => ?_) AllReadyH.nil
          go_simp
          refine (eqDeque_own _ (RX.out.below HT.out.1) R6.out).mono ?_
          rintro e w7 ⟨rfl, hb7⟩
          have HT := Lib.hid (HT.out.call hb7)
          clear hb7
          (try dsimp only)
          refine hK.out _ _ (by exact SQ3.out _ HT.out) (fun hHeld => ?_)
          clear hK K
          (try simp only [Act.put, List.setIfInBounds_toArray, List.set_cons_zero, List.set_cons_succ, List.getElem_toArray, List.getElem_cons_zero, List.getElem_cons_succ])
          first | (refine wpAnyH_take (i := 4) (v := ?_) rfl (by kernel_rfl) (by kernel_rfl) (by kernel_rfl) (fun _ _ _ h => h) (Or.inl ⟨by rfl, ?_⟩) (by assumption) ?_; rotate_left; (intro X hSw; (try dsimp only at hSw); go_simp; (try with_reducible rfl)); (try simp only [Act.put, List.setIfInBounds_toArray, List.set_cons_zero, List.set_cons_succ, List.getElem_toArray, List.getElem_cons_zero, List.getElem_cons_succ])) | fail "take 4"
          refine wpAnyH_done (by kernel_rfl) ?_ _
          have HA := Lib.hid (HA.out.call HT.out.1)
          have HP := Lib.hid (HP.out.call HT.out.1)
          have B0 := Lib.hid (B0.out.call HT.out.1)
          have R0 := Lib.hid (R0.out.below HT.out.1)
          have B1 := Lib.hid (B1.out.call HT.out.1)
          have R1 := Lib.hid (R1.out.below HT.out.1)
          have HX := Lib.hid (HX.out.call HT.out.1)
          have RX := Lib.hid (RX.out.below HT.out.1)
          have HB := Lib.hid (HB.out.trans (HT.out.1.mono HB.out.size))
          have hz7 := HT.out.2
          clear HT SQ3 R6
          obtain ⟨x0, x1, x2, x3, x4⟩ := HX.out.cells
          go_wp2_with fail
          refine (HM1.out _ _ _ _ RX.out).mono ?_
          rintro e w8 ⟨rfl, -, ht8⟩
          have hA := HA.out.lt
          obtain ⟨i1, i2, i3, i4, i5⟩ := HIn.out
          have HB := Lib.hid (ht8.below HB.out (Nat.le_refl _) (by omega))
          have HA := Lib.hid (show Box5 w8 w.heap.size 24 (.slice ia n ic) (.slice pa m pc) (.int .i64 fi) (.int .i64 nx) (.int .i64 dr) from touch_block HA.out ht8 (by omega))
          have HP := Lib.hid (show Box2d w8 (w.heap.size + 1) 26 (.bool p) (.int .i64 x) from touch_block HP.out ht8 (by omega))
          have B0 := Lib.hid (show Box5 w8 c0 28 (.slice ia0 S.items.length ic0) (.slice pa0 S.places.length pc0) (.int .i64 S.first) (.int .i64 S.next) (.int .i64 S.drops) from touch_block B0.out ht8 (by omega))
          have R0 := Lib.hid (R0.out.touch ht8 (by omega))
          have B1 := Lib.hid (show Box5 w8 c1 28 (.slice ia5 S.items.length ic5) (.slice pa5 S.places.length pc5) (.int .i64 S.first) (.int .i64 S.next) (.int .i64 S.drops) from touch_block B1.out ht8 (by omega))
          have R1 := Lib.hid (R1.out.touch ht8 (by omega))
          clear ht8 HX RX
          clear x0 x1 x2 x3 x4
          obtain ⟨r0, r1, r2, r3, r4⟩ := B0.out.cells
          obtain ⟨g0, g1, g2, g3, g4⟩ := B1.out.cells
          go_wp2_with fail
          refine (eqDeque_own _ R1.out R0.out).mono ?_
          rintro e w9 ⟨rfl, hb9⟩
          have HA := Lib.hid (HA.out.call hb9)
          have HP := Lib.hid (HP.out.call hb9)
          have B0 := Lib.hid (B0.out.call hb9)
          have R0 := Lib.hid (R0.out.below hb9)
          have B1 := Lib.hid (B1.out.call hb9)
          have R1 := Lib.hid (R1.out.below hb9)
          have HB := Lib.hid (HB.out.trans (hb9.mono HB.out.size))
          clear hb9
          clear r0 r1 r2 r3 r4 g0 g1 g2 g3 g4
          obtain ⟨g0, g1, g2, g3, g4⟩ := B1.out.cells
          go_wp2_with fail
          refine (HM2.out _ _ _ _ R1.out).mono ?_
          rintro e w10 ⟨rfl, rr10, ht10⟩
          have R1 := Lib.hid rr10
          have HB := Lib.hid (ht10.below HB.out (Nat.le_refl _) (by omega))
          have HA := Lib.hid (show Box5 w10 w.heap.size 24 (.slice ia n ic) (.slice pa m pc) (.int .i64 fi) (.int .i64 nx) (.int .i64 dr) from touch_block HA.out ht10 (by omega))
          have HP := Lib.hid (show Box2d w10 (w.heap.size + 1) 26 (.bool p) (.int .i64 x) from touch_block HP.out ht10 (by omega))
          have B0 := Lib.hid (show Box5 w10 c0 28 (.slice ia0 S.items.length ic0) (.slice pa0 S.places.length pc0) (.int .i64 S.first) (.int .i64 S.next) (.int .i64 S.drops) from touch_block B0.out ht10 (by omega))
          have R0 := Lib.hid (R0.out.touch ht10 (by omega))
          have B1 := Lib.hid (show Box5 w10 c1 28 (.slice ia5 S.items.length ic5) (.slice pa5 S.places.length pc5) (.int .i64 S.first) (.int .i64 S.next) (.int .i64 S.drops) from touch_block B1.out ht10 (by omega))
          clear ht10 rr10
          clear g0 g1 g2 g3 g4
          obtain ⟨g0, g1, g2, g3, g4⟩ := B1.out.cells
          go_wp2_with fail
          refine (HH2.out _ _ _ _ R1.out).mono ?_
          rintro e w11 ⟨rfl, hb11⟩
          have HA := Lib.hid (HA.out.call hb11)
          have HP := Lib.hid (HP.out.call hb11)
          have B0 := Lib.hid (B0.out.call hb11)
          have R0 := Lib.hid (R0.out.below hb11)
          have B1 := Lib.hid (B1.out.call hb11)
          have R1 := Lib.hid (R1.out.below hb11)
          have HB := Lib.hid (HB.out.trans (hb11.mono HB.out.size))
          clear hb11
          clear g0 g1 g2 g3 g4
          obtain ⟨q0, q1, q2, q3, q4⟩ := HA.out.cells
          obtain ⟨p0, p1⟩ := HP.out.cells
          go_wp2_with fail
          clear p0 p1
          clear q0 q1 q2 q3 q4
          have sq4 : ∀ X, Snc w11 X → (X.cell? ⟨w.heap.size, 0, none⟩ = some (.slice ia n ic) ∧ X.cell? ⟨w.heap.size, 1, none⟩ = some (.slice pa m pc) ∧ X.cell? ⟨w.heap.size, 2, none⟩ = some (.int .i64 fi) ∧ X.cell? ⟨w.heap.size, 3, none⟩ = some (.int .i64 nx) ∧ X.cell? ⟨w.heap.size, 4, none⟩ = some (.int .i64 dr)) ∧ X.cell? ⟨w.heap.size + 1, 0, none⟩ = some (.bool p) ∧ X.cell? ⟨w.heap.size + 1, 1, none⟩ = some (.int .i64 x) := fun X h => ⟨(HA.out.call h.1).cells, (HP.out.call h.1).cells⟩
          have SQ4 := Lib.hid sq4
          clear sq4
          go_cut [16, 17] (fun s s' wx => ∃ c : Nat, s = .pointer (some ⟨c, 0, none⟩) ∧ s' = .bool (false) ∧ DqAns w11.heap.size wx.heap.size wx c S ∧ Snc w11 wx)
          case first =>
            refine wp_region_held_drew (S := (fun X => (X.cell? ⟨w.heap.size, 0, none⟩ = some (.slice ia n ic) ∧ X.cell? ⟨w.heap.size, 1, none⟩ = some (.slice pa m pc) ∧ X.cell? ⟨w.heap.size, 2, none⟩ = some (.int .i64 fi) ∧ X.cell? ⟨w.heap.size, 3, none⟩ = some (.int .i64 nx) ∧ X.cell? ⟨w.heap.size, 4, none⟩ = some (.int .i64 dr)) ∧ X.cell? ⟨w.heap.size + 1, 0, none⟩ = some (.bool p) ∧ X.cell? ⟨w.heap.size + 1, 1, none⟩ = some (.int .i64 x))) (by kernel_rfl) (by exact SQ4.out _ (Snc.refl w11).drew) (fun hHeld => ?_)
            have HT := Lib.hid (Snc.refl w11).drew
            first | (refine wpAnyH_take (i := 0) (v := ?_) rfl (by kernel_rfl) (by kernel_rfl) (by kernel_rfl) (fun _ _ _ h => h) (Or.inl ⟨by rfl, ?_⟩) (by assumption) ?_; rotate_left; (intro X hSw; (try dsimp only at hSw); go_simp; (try with_reducible rfl)); (try simp only [Act.put, List.setIfInBounds_toArray, List.set_cons_zero, List.set_cons_succ, List.getElem_toArray, List.getElem_cons_zero, List.getElem_cons_succ])) | fail "take 0"
            first | (refine wpAnyH_take (i := 1) (v := ?_) rfl (by kernel_rfl) (by kernel_rfl) (by kernel_rfl) (fun _ _ _ h => h) (Or.inl ⟨by rfl, ?_⟩) (by assumption) ?_; rotate_left; (intro X hSw; (try dsimp only at hSw); go_simp; (try with_reducible rfl)); (try simp only [Act.put, List.setIfInBounds_toArray, List.set_cons_zero, List.set_cons_succ, List.getElem_toArray, List.getElem_cons_zero, List.getElem_cons_succ])) | fail "take 1"
            first | (refine wpAnyH_take (i := 3) (v := ?_) rfl (by kernel_rfl) (by kernel_rfl) (by kernel_rfl) (fun _ _ _ h => h) (Or.inl ⟨by rfl, ?_⟩) (by assumption) ?_; rotate_left; (intro X hSw; (try dsimp only at hSw); go_simp; (try with_reducible rfl)); (try simp only [Act.put, List.setIfInBounds_toArray, List.set_cons_zero, List.set_cons_succ, List.getElem_toArray, List.getElem_cons_zero, List.getElem_cons_succ])) | fail "take 3"
            refine wpAnyH_ready (rs := [2, 9]) (by kernel_rfl) (by simp) ?_
            refine AllReadyH.cons rfl (fun K hK => ?_) (AllReadyH.cons rfl (fun K hK => ?_) AllReadyH.nil)
            · go_simp
              refine (toDeque_own _ _ _ _ _ _ _ _ _ I L _ (HI.out.below (HB.out.trans (HT.out.1.mono HB.out.size))) (HL.out.below (HB.out.trans (HT.out.1.mono HB.out.size))) hfn hm).mono ?_
              rintro e v1 ⟨vv, rfl, rr, hbb⟩
              obtain ⟨ia2, ic2, pa2, pc2, rfl, hRI, hRL⟩ := rr.read
              have HR := Lib.hid (fun X (h : Snc v1 X) => (show Nums .i64 X ia2 I.length ic2 I ∧ Nums .i64 X pa2 L.length pc2 L from ⟨hRI.below h.1, hRL.below h.1⟩))
              have HT := Lib.hid (HT.out.call hbb)
              clear hbb rr hRI hRL
              (try dsimp only)
              refine hK.out _ _ (by exact SQ4.out _ HT.out) (fun hHeld => ?_)
              clear hK K
              (try simp only [Act.put, List.setIfInBounds_toArray, List.set_cons_zero, List.set_cons_succ, List.getElem_toArray, List.getElem_cons_zero, List.getElem_cons_succ])
              refine wpAnyH_ready (rs := [4, 9]) (by kernel_rfl) (by simp) ?_
              refine AllReadyH.cons rfl (fun K hK => ?_) (AllReadyH.cons rfl (fun K hK => ?_) AllReadyH.nil)
              · go_simp
                refine (toOp_any p x _).mono ?_
                rintro e v2 ⟨rfl, hbb⟩
                have HR := Lib.hid (fun X (h : Snc v2 X) => HR.out X ⟨hbb.trans (h.1.mono hbb.size), Nat.le_trans hbb.size h.2⟩)
                have HT := Lib.hid (HT.out.call hbb)
                clear hbb
                (try dsimp only)
                refine hK.out _ _ (by exact SQ4.out _ HT.out) (fun hHeld => ?_)
                clear hK K
                (try simp only [Act.put, List.setIfInBounds_toArray, List.set_cons_zero, List.set_cons_succ, List.getElem_toArray, List.getElem_cons_zero, List.getElem_cons_succ])
                refine wpAnyH_ready (rs := [5, 9]) (by kernel_rfl) (by simp) ?_
                refine AllReadyH.cons rfl (fun K hK => ?_) (AllReadyH.cons rfl (fun K hK => ?_) AllReadyH.nil)
                · go_simp
                  refine (H2.out _ _ _ _ _ (HR.out _ (Snc.refl _)).1 (HR.out _ (Snc.refl _)).2).mono ?_
                  rintro e v3 ⟨vv, rfl, rr, hbb⟩
                  obtain ⟨ia9, ic9, pa9, pc9, rfl, -, -⟩ := rr.read
                  have HO := Lib.hid rr
                  have hloL := HT.out.2
                  have hloH := hbb.size
                  have HT := Lib.hid (HT.out.call hbb)
                  clear hbb rr
                  (try dsimp only)
                  refine hK.out _ _ (by exact SQ4.out _ HT.out) (fun hHeld => ?_)
                  clear hK K
                  (try simp only [Act.put, List.setIfInBounds_toArray, List.set_cons_zero, List.set_cons_succ, List.getElem_toArray, List.getElem_cons_zero, List.getElem_cons_succ])
                  first | (refine wpAnyH_take (i := 6) (v := ?_) rfl (by kernel_rfl) (by kernel_rfl) (by kernel_rfl) (fun _ _ _ h => h) (Or.inl ⟨by rfl, ?_⟩) (by assumption) ?_; rotate_left; (intro X hSw; (try dsimp only at hSw); go_simp; (try with_reducible rfl)); (try simp only [Act.put, List.setIfInBounds_toArray, List.set_cons_zero, List.set_cons_succ, List.getElem_toArray, List.getElem_cons_zero, List.getElem_cons_succ])) | fail "take 6"
                  first | (refine wpAnyH_take (i := 7) (v := ?_) rfl (by kernel_rfl) (by kernel_rfl) (by kernel_rfl) (fun _ _ _ h => h) (Or.inl ⟨by rfl, ?_⟩) (by assumption) ?_; rotate_left; (intro X hSw; (try dsimp only at hSw); go_simp; (try with_reducible rfl)); (try simp only [Act.put, List.setIfInBounds_toArray, List.set_cons_zero, List.set_cons_succ, List.getElem_toArray, List.getElem_cons_zero, List.getElem_cons_succ])) | fail "take 7"
                  first | (refine wpAnyH_take (i := 8) (v := ?_) rfl (by kernel_rfl) (by kernel_rfl) (by kernel_rfl) (fun _ _ _ h => h) (Or.inl ⟨by rfl, ?_⟩) (by assumption) ?_; rotate_left; (intro X hSw; (try dsimp only at hSw); go_simp; (try with_reducible rfl)); (try simp only [Act.put, List.setIfInBounds_toArray, List.set_cons_zero, List.set_cons_succ, List.getElem_toArray, List.getElem_cons_zero, List.getElem_cons_succ])) | fail "take 8"
                  refine wpAnyH_ready (rs := [9]) (by kernel_rfl) (by simp) ?_
                  refine AllReadyH.cons rfl (fun K hK => ?_) AllReadyH.nil
                  go_simp
                  (try dsimp only)
                  refine hK.out _ _ (by exact SQ4.out _ (HT.out.alloc _)) (fun hHeld => ?_)
                  clear hK K
                  (try simp only [Act.put, List.setIfInBounds_toArray, List.set_cons_zero, List.set_cons_succ, List.getElem_toArray, List.getElem_cons_zero, List.getElem_cons_succ])
                  refine wpAnyH_ready (rs := [10]) (by kernel_rfl) (by simp) ?_
                  refine AllReadyH.cons rfl (fun K hK => ?_) AllReadyH.nil
                  go_simp
                  (try dsimp only)
                  refine hK.out _ _ (by exact SQ4.out _ (HT.out.alloc _)) (fun hHeld => ?_)
                  clear hK K
                  (try simp only [Act.put, List.setIfInBounds_toArray, List.set_cons_zero, List.set_cons_succ, List.getElem_toArray, List.getElem_cons_zero, List.getElem_cons_succ])
                  first | (refine wpAnyH_take (i := 11) (v := ?_) rfl (by kernel_rfl) (by kernel_rfl) (by kernel_rfl) (fun _ _ _ h => h) (Or.inl ⟨by rfl, ?_⟩) (by assumption) ?_; rotate_left; (intro X hSw; (try dsimp only at hSw); go_simp; (try with_reducible rfl)); (try simp only [Act.put, List.setIfInBounds_toArray, List.set_cons_zero, List.set_cons_succ, List.getElem_toArray, List.getElem_cons_zero, List.getElem_cons_succ])) | fail "take 11"
                  refine wpAnyH_done (by kernel_rfl) ?_ _
                  go_wp2_with fail
                  go_meet
                  exact ⟨_, rfl, rfl, DqAns.new hloL hloH (Nat.le_refl _) HO.out, HT.out.alloc _⟩
                · go_simp
                  obtain ⟨Y, hY⟩ : ∃ Y, Y = (v2.alloc (.cells #[.slice none 0 0, .slice none 0 0, .int .i64 0, .int .i64 0, .int .i64 0] 28)) := ⟨_, rfl⟩
                  have HN := Lib.hid (show Box5 Y v2.heap.size 28 (.slice none 0 0) (.slice none 0 0) (.int .i64 0) (.int .i64 0) (.int .i64 0) from by rw [hY]; exact Box5.new _ _ _ _ _ _ _)
                  have hYb : Below v2.heap.size v2 Y := by rw [hY]; exact ((Below.refl _ _).alloc (Nat.le_refl _) _)
                  have hcW : w11.heap.size ≤ v2.heap.size := HT.out.2
                  have HT := Lib.hid (show Snc w11 Y from HT.out.call hYb)
                  have hcl : v2.heap.size < Y.heap.size := HN.out.lt
                  have HR := Lib.hid (fun X (h : Snc Y X) => HR.out X ⟨(show Below v2.heap.size v2 X from hYb.trans (h.1.mono hYb.size)), Nat.le_trans hYb.size h.2⟩)
                  rw [← hY]
                  clear hY hYb
                  (try dsimp only)
                  refine hK.out _ _ (by exact SQ4.out _ HT.out) (fun hHeld => ?_)
                  clear hK K
                  (try simp only [Act.put, List.setIfInBounds_toArray, List.set_cons_zero, List.set_cons_succ, List.getElem_toArray, List.getElem_cons_zero, List.getElem_cons_succ])
                  refine wpAnyH_ready (rs := [5]) (by kernel_rfl) (by simp) ?_
                  refine AllReadyH.cons rfl (fun K hK => ?_) AllReadyH.nil
                  go_simp
                  refine (H2.out _ _ _ _ _ (HR.out _ (Snc.refl _)).1 (HR.out _ (Snc.refl _)).2).mono ?_
                  rintro e v3 ⟨vv, rfl, rr, hbb⟩
                  obtain ⟨ia9, ic9, pa9, pc9, rfl, -, -⟩ := rr.read
                  have HO := Lib.hid rr
                  have hloL := HT.out.2
                  have hloH := hbb.size
                  have HT := Lib.hid (HT.out.call hbb)
                  have HN := Lib.hid (HN.out.call hbb)
                  clear hbb rr
                  (try dsimp only)
                  refine hK.out _ _ (by exact SQ4.out _ HT.out) (fun hHeld => ?_)
                  clear hK K
                  (try simp only [Act.put, List.setIfInBounds_toArray, List.set_cons_zero, List.set_cons_succ, List.getElem_toArray, List.getElem_cons_zero, List.getElem_cons_succ])
                  first | (refine wpAnyH_take (i := 6) (v := ?_) rfl (by kernel_rfl) (by kernel_rfl) (by kernel_rfl) (fun _ _ _ h => h) (Or.inl ⟨by rfl, ?_⟩) (by assumption) ?_; rotate_left; (intro X hSw; (try dsimp only at hSw); go_simp; (try with_reducible rfl)); (try simp only [Act.put, List.setIfInBounds_toArray, List.set_cons_zero, List.set_cons_succ, List.getElem_toArray, List.getElem_cons_zero, List.getElem_cons_succ])) | fail "take 6"
                  first | (refine wpAnyH_take (i := 7) (v := ?_) rfl (by kernel_rfl) (by kernel_rfl) (by kernel_rfl) (fun _ _ _ h => h) (Or.inl ⟨by rfl, ?_⟩) (by assumption) ?_; rotate_left; (intro X hSw; (try dsimp only at hSw); go_simp; (try with_reducible rfl)); (try simp only [Act.put, List.setIfInBounds_toArray, List.set_cons_zero, List.set_cons_succ, List.getElem_toArray, List.getElem_cons_zero, List.getElem_cons_succ])) | fail "take 7"
                  first | (refine wpAnyH_take (i := 8) (v := ?_) rfl (by kernel_rfl) (by kernel_rfl) (by kernel_rfl) (fun _ _ _ h => h) (Or.inl ⟨by rfl, ?_⟩) (by assumption) ?_; rotate_left; (intro X hSw; (try dsimp only at hSw); go_simp; (try with_reducible rfl)); (try simp only [Act.put, List.setIfInBounds_toArray, List.set_cons_zero, List.set_cons_succ, List.getElem_toArray, List.getElem_cons_zero, List.getElem_cons_succ])) | fail "take 8"
                  obtain ⟨z0, z1, z2, z3, z4⟩ := HN.out.cells
                  have zf := HN.out.free
                  refine wpAnyH_ready (rs := [10]) (by kernel_rfl) (by simp) ?_
                  refine AllReadyH.cons rfl (fun K hK => ?_) AllReadyH.nil
                  go_simp
                  (try dsimp only)
                  refine hK.out _ _ (by exact SQ4.out _ (((((HT.out.set hcW _ _).set hcW _ _).set hcW _ _).set hcW _ _).set hcW _ _)) (fun hHeld => ?_)
                  clear hK K
                  (try simp only [Act.put, List.setIfInBounds_toArray, List.set_cons_zero, List.set_cons_succ, List.getElem_toArray, List.getElem_cons_zero, List.getElem_cons_succ])
                  first | (refine wpAnyH_take (i := 11) (v := ?_) rfl (by kernel_rfl) (by kernel_rfl) (by kernel_rfl) (fun _ _ _ h => h) (Or.inl ⟨by rfl, ?_⟩) (by assumption) ?_; rotate_left; (intro X hSw; (try dsimp only at hSw); go_simp; (try with_reducible rfl)); (try simp only [Act.put, List.setIfInBounds_toArray, List.set_cons_zero, List.set_cons_succ, List.getElem_toArray, List.getElem_cons_zero, List.getElem_cons_succ])) | fail "take 11"
                  refine wpAnyH_done (by kernel_rfl) ?_ _
                  go_wp2_with fail
                  go_meet
                  exact ⟨_, rfl, rfl, DqAns.set hcW (by omega) (Nat.le_refl _) HN.out HO.out, (((((HT.out.set hcW _ _).set hcW _ _).set hcW _ _).set hcW _ _).set hcW _ _)⟩
              · go_simp
                obtain ⟨Y, hY⟩ : ∃ Y, Y = (v1.alloc (.cells #[.slice none 0 0, .slice none 0 0, .int .i64 0, .int .i64 0, .int .i64 0] 28)) := ⟨_, rfl⟩
                have HN := Lib.hid (show Box5 Y v1.heap.size 28 (.slice none 0 0) (.slice none 0 0) (.int .i64 0) (.int .i64 0) (.int .i64 0) from by rw [hY]; exact Box5.new _ _ _ _ _ _ _)
                have hYb : Below v1.heap.size v1 Y := by rw [hY]; exact ((Below.refl _ _).alloc (Nat.le_refl _) _)
                have hcW : w11.heap.size ≤ v1.heap.size := HT.out.2
                have HT := Lib.hid (show Snc w11 Y from HT.out.call hYb)
                have hcl : v1.heap.size < Y.heap.size := HN.out.lt
                have HR := Lib.hid (fun X (h : Snc Y X) => HR.out X ⟨(show Below v1.heap.size v1 X from hYb.trans (h.1.mono hYb.size)), Nat.le_trans hYb.size h.2⟩)
                rw [← hY]
                clear hY hYb
                (try dsimp only)
                refine hK.out _ _ (by exact SQ4.out _ HT.out) (fun hHeld => ?_)
                clear hK K
                (try simp only [Act.put, List.setIfInBounds_toArray, List.set_cons_zero, List.set_cons_succ, List.getElem_toArray, List.getElem_cons_zero, List.getElem_cons_succ])
                refine wpAnyH_ready (rs := [4]) (by kernel_rfl) (by simp) ?_
                refine AllReadyH.cons rfl (fun K hK => ?_) AllReadyH.nil
                go_simp
                refine (toOp_any p x _).mono ?_
                rintro e v2 ⟨rfl, hbb⟩
                have HR := Lib.hid (fun X (h : Snc v2 X) => HR.out X ⟨hbb.trans (h.1.mono hbb.size), Nat.le_trans hbb.size h.2⟩)
                have HT := Lib.hid (HT.out.call hbb)
                have HN := Lib.hid (HN.out.call hbb)
                have hcl : v1.heap.size < v2.heap.size := HN.out.lt
                clear hbb
                (try dsimp only)
                refine hK.out _ _ (by exact SQ4.out _ HT.out) (fun hHeld => ?_)
                clear hK K
                (try simp only [Act.put, List.setIfInBounds_toArray, List.set_cons_zero, List.set_cons_succ, List.getElem_toArray, List.getElem_cons_zero, List.getElem_cons_succ])
                refine wpAnyH_ready (rs := [5]) (by kernel_rfl) (by simp) ?_
                refine AllReadyH.cons rfl (fun K hK => ?_) AllReadyH.nil
                go_simp
                refine (H2.out _ _ _ _ _ (HR.out _ (Snc.refl _)).1 (HR.out _ (Snc.refl _)).2).mono ?_
                rintro e v3 ⟨vv, rfl, rr, hbb⟩
                obtain ⟨ia9, ic9, pa9, pc9, rfl, -, -⟩ := rr.read
                have HO := Lib.hid rr
                have hloL := HT.out.2
                have hloH := hbb.size
                have HT := Lib.hid (HT.out.call hbb)
                have HN := Lib.hid (HN.out.call hbb)
                clear hbb rr
                (try dsimp only)
                refine hK.out _ _ (by exact SQ4.out _ HT.out) (fun hHeld => ?_)
                clear hK K
                (try simp only [Act.put, List.setIfInBounds_toArray, List.set_cons_zero, List.set_cons_succ, List.getElem_toArray, List.getElem_cons_zero, List.getElem_cons_succ])
                first | (refine wpAnyH_take (i := 6) (v := ?_) rfl (by kernel_rfl) (by kernel_rfl) (by kernel_rfl) (fun _ _ _ h => h) (Or.inl ⟨by rfl, ?_⟩) (by assumption) ?_; rotate_left; (intro X hSw; (try dsimp only at hSw); go_simp; (try with_reducible rfl)); (try simp only [Act.put, List.setIfInBounds_toArray, List.set_cons_zero, List.set_cons_succ, List.getElem_toArray, List.getElem_cons_zero, List.getElem_cons_succ])) | fail "take 6"
                first | (refine wpAnyH_take (i := 7) (v := ?_) rfl (by kernel_rfl) (by kernel_rfl) (by kernel_rfl) (fun _ _ _ h => h) (Or.inl ⟨by rfl, ?_⟩) (by assumption) ?_; rotate_left; (intro X hSw; (try dsimp only at hSw); go_simp; (try with_reducible rfl)); (try simp only [Act.put, List.setIfInBounds_toArray, List.set_cons_zero, List.set_cons_succ, List.getElem_toArray, List.getElem_cons_zero, List.getElem_cons_succ])) | fail "take 7"
                first | (refine wpAnyH_take (i := 8) (v := ?_) rfl (by kernel_rfl) (by kernel_rfl) (by kernel_rfl) (fun _ _ _ h => h) (Or.inl ⟨by rfl, ?_⟩) (by assumption) ?_; rotate_left; (intro X hSw; (try dsimp only at hSw); go_simp; (try with_reducible rfl)); (try simp only [Act.put, List.setIfInBounds_toArray, List.set_cons_zero, List.set_cons_succ, List.getElem_toArray, List.getElem_cons_zero, List.getElem_cons_succ])) | fail "take 8"
                obtain ⟨z0, z1, z2, z3, z4⟩ := HN.out.cells
                have zf := HN.out.free
                refine wpAnyH_ready (rs := [10]) (by kernel_rfl) (by simp) ?_
                refine AllReadyH.cons rfl (fun K hK => ?_) AllReadyH.nil
                go_simp
                (try dsimp only)
                refine hK.out _ _ (by exact SQ4.out _ (((((HT.out.set hcW _ _).set hcW _ _).set hcW _ _).set hcW _ _).set hcW _ _)) (fun hHeld => ?_)
                clear hK K
                (try simp only [Act.put, List.setIfInBounds_toArray, List.set_cons_zero, List.set_cons_succ, List.getElem_toArray, List.getElem_cons_zero, List.getElem_cons_succ])
                first | (refine wpAnyH_take (i := 11) (v := ?_) rfl (by kernel_rfl) (by kernel_rfl) (by kernel_rfl) (fun _ _ _ h => h) (Or.inl ⟨by rfl, ?_⟩) (by assumption) ?_; rotate_left; (intro X hSw; (try dsimp only at hSw); go_simp; (try with_reducible rfl)); (try simp only [Act.put, List.setIfInBounds_toArray, List.set_cons_zero, List.set_cons_succ, List.getElem_toArray, List.getElem_cons_zero, List.getElem_cons_succ])) | fail "take 11"
                refine wpAnyH_done (by kernel_rfl) ?_ _
                go_wp2_with fail
                go_meet
                exact ⟨_, rfl, rfl, DqAns.set hcW (by omega) (Nat.le_refl _) HN.out HO.out, (((((HT.out.set hcW _ _).set hcW _ _).set hcW _ _).set hcW _ _).set hcW _ _)⟩
            · go_simp
              obtain ⟨Y, hY⟩ : ∃ Y, Y = (w11.alloc (.cells #[.slice none 0 0, .slice none 0 0, .int .i64 0, .int .i64 0, .int .i64 0] 28)).drew := ⟨_, rfl⟩
              have HN := Lib.hid (show Box5 Y w11.heap.size 28 (.slice none 0 0) (.slice none 0 0) (.int .i64 0) (.int .i64 0) (.int .i64 0) from by rw [hY]; exact Box5.new _ _ _ _ _ _ _)
              have hYb : Below w11.heap.size w11 Y := by rw [hY]; exact ((Below.refl _ _).alloc (Nat.le_refl _) _).drew
              have hcW : w11.heap.size ≤ w11.heap.size := Nat.le_refl _
              have HT := Lib.hid (show Snc w11 Y from (Snc.refl w11).call hYb)
              have hcl : w11.heap.size < Y.heap.size := HN.out.lt
              rw [← hY]
              clear hY hYb
              (try dsimp only)
              refine hK.out _ _ (by exact SQ4.out _ HT.out) (fun hHeld => ?_)
              clear hK K
              (try simp only [Act.put, List.setIfInBounds_toArray, List.set_cons_zero, List.set_cons_succ, List.getElem_toArray, List.getElem_cons_zero, List.getElem_cons_succ])
              refine wpAnyH_ready (rs := [2]) (by kernel_rfl) (by simp) ?_
              refine AllReadyH.cons rfl (fun K hK => ?_) AllReadyH.nil
              go_simp
              refine (toDeque_own _ _ _ _ _ _ _ _ _ I L _ (HI.out.below (HB.out.trans (HT.out.1.mono HB.out.size))) (HL.out.below (HB.out.trans (HT.out.1.mono HB.out.size))) hfn hm).mono ?_
              rintro e v1 ⟨vv, rfl, rr, hbb⟩
              obtain ⟨ia2, ic2, pa2, pc2, rfl, hRI, hRL⟩ := rr.read
              have HR := Lib.hid (fun X (h : Snc v1 X) => (show Nums .i64 X ia2 I.length ic2 I ∧ Nums .i64 X pa2 L.length pc2 L from ⟨hRI.below h.1, hRL.below h.1⟩))
              have HT := Lib.hid (HT.out.call hbb)
              have HN := Lib.hid (HN.out.call hbb)
              have hcl : w11.heap.size < v1.heap.size := HN.out.lt
              clear hbb rr hRI hRL
              (try dsimp only)
              refine hK.out _ _ (by exact SQ4.out _ HT.out) (fun hHeld => ?_)
              clear hK K
              (try simp only [Act.put, List.setIfInBounds_toArray, List.set_cons_zero, List.set_cons_succ, List.getElem_toArray, List.getElem_cons_zero, List.getElem_cons_succ])
              refine wpAnyH_ready (rs := [4]) (by kernel_rfl) (by simp) ?_
              refine AllReadyH.cons rfl (fun K hK => ?_) AllReadyH.nil
              go_simp
              refine (toOp_any p x _).mono ?_
              rintro e v2 ⟨rfl, hbb⟩
              have HR := Lib.hid (fun X (h : Snc v2 X) => HR.out X ⟨hbb.trans (h.1.mono hbb.size), Nat.le_trans hbb.size h.2⟩)
              have HT := Lib.hid (HT.out.call hbb)
              have HN := Lib.hid (HN.out.call hbb)
              have hcl : w11.heap.size < v2.heap.size := HN.out.lt
              clear hbb
              (try dsimp only)
              refine hK.out _ _ (by exact SQ4.out _ HT.out) (fun hHeld => ?_)
              clear hK K
              (try simp only [Act.put, List.setIfInBounds_toArray, List.set_cons_zero, List.set_cons_succ, List.getElem_toArray, List.getElem_cons_zero, List.getElem_cons_succ])
              refine wpAnyH_ready (rs := [5]) (by kernel_rfl) (by simp) ?_
              refine AllReadyH.cons rfl (fun K hK => ?_) AllReadyH.nil
              go_simp
              refine (H2.out _ _ _ _ _ (HR.out _ (Snc.refl _)).1 (HR.out _ (Snc.refl _)).2).mono ?_
              rintro e v3 ⟨vv, rfl, rr, hbb⟩
              obtain ⟨ia9, ic9, pa9, pc9, rfl, -, -⟩ := rr.read
              have HO := Lib.hid rr
              have hloL := HT.out.2
              have hloH := hbb.size
              have HT := Lib.hid (HT.out.call hbb)
              have HN := Lib.hid (HN.out.call hbb)
              clear hbb rr
              (try dsimp only)
              refine hK.out _ _ (by exact SQ4.out _ HT.out) (fun hHeld => ?_)
              clear hK K
              (try simp only [Act.put, List.setIfInBounds_toArray, List.set_cons_zero, List.set_cons_succ, List.getElem_toArray, List.getElem_cons_zero, List.getElem_cons_succ])
              first | (refine wpAnyH_take (i := 6) (v := ?_) rfl (by kernel_rfl) (by kernel_rfl) (by kernel_rfl) (fun _ _ _ h => h) (Or.inl ⟨by rfl, ?_⟩) (by assumption) ?_; rotate_left; (intro X hSw; (try dsimp only at hSw); go_simp; (try with_reducible rfl)); (try simp only [Act.put, List.setIfInBounds_toArray, List.set_cons_zero, List.set_cons_succ, List.getElem_toArray, List.getElem_cons_zero, List.getElem_cons_succ])) | fail "take 6"
              first | (refine wpAnyH_take (i := 7) (v := ?_) rfl (by kernel_rfl) (by kernel_rfl) (by kernel_rfl) (fun _ _ _ h => h) (Or.inl ⟨by rfl, ?_⟩) (by assumption) ?_; rotate_left; (intro X hSw; (try dsimp only at hSw); go_simp; (try with_reducible rfl)); (try simp only [Act.put, List.setIfInBounds_toArray, List.set_cons_zero, List.set_cons_succ, List.getElem_toArray, List.getElem_cons_zero, List.getElem_cons_succ])) | fail "take 7"
              first | (refine wpAnyH_take (i := 8) (v := ?_) rfl (by kernel_rfl) (by kernel_rfl) (by kernel_rfl) (fun _ _ _ h => h) (Or.inl ⟨by rfl, ?_⟩) (by assumption) ?_; rotate_left; (intro X hSw; (try dsimp only at hSw); go_simp; (try with_reducible rfl)); (try simp only [Act.put, List.setIfInBounds_toArray, List.set_cons_zero, List.set_cons_succ, List.getElem_toArray, List.getElem_cons_zero, List.getElem_cons_succ])) | fail "take 8"
              obtain ⟨z0, z1, z2, z3, z4⟩ := HN.out.cells
              have zf := HN.out.free
              refine wpAnyH_ready (rs := [10]) (by kernel_rfl) (by simp) ?_
              refine AllReadyH.cons rfl (fun K hK => ?_) AllReadyH.nil
              go_simp
              (try dsimp only)
              refine hK.out _ _ (by exact SQ4.out _ (((((HT.out.set hcW _ _).set hcW _ _).set hcW _ _).set hcW _ _).set hcW _ _)) (fun hHeld => ?_)
              clear hK K
              (try simp only [Act.put, List.setIfInBounds_toArray, List.set_cons_zero, List.set_cons_succ, List.getElem_toArray, List.getElem_cons_zero, List.getElem_cons_succ])
              first | (refine wpAnyH_take (i := 11) (v := ?_) rfl (by kernel_rfl) (by kernel_rfl) (by kernel_rfl) (fun _ _ _ h => h) (Or.inl ⟨by rfl, ?_⟩) (by assumption) ?_; rotate_left; (intro X hSw; (try dsimp only at hSw); go_simp; (try with_reducible rfl)); (try simp only [Act.put, List.setIfInBounds_toArray, List.set_cons_zero, List.set_cons_succ, List.getElem_toArray, List.getElem_cons_zero, List.getElem_cons_succ])) | fail "take 11"
              refine wpAnyH_done (by kernel_rfl) ?_ _
              go_wp2_with fail
              go_meet
              exact ⟨_, rfl, rfl, DqAns.set hcW (by omega) (Nat.le_refl _) HN.out HO.out, (((((HT.out.set hcW _ _).set hcW _ _).set hcW _ _).set hcW _ _).set hcW _ _)⟩
          case rest =>
            obtain ⟨c2, rfl, rfl, hA2, hs2⟩ := hcut
            obtain ⟨lo2, hi2, ia7, ic7, pa7, pc7, -, -, -, -, -, -, f7, f8⟩ := hA2
            have B2 := Lib.hid f7
            have R2 := Lib.hid f8
            clear f7 f8
            have B0 := Lib.hid (B0.out.call hs2.1)
            have R0 := Lib.hid (R0.out.below hs2.1)
            have B1 := Lib.hid (B1.out.call hs2.1)
            have R1 := Lib.hid (R1.out.below hs2.1)
            have HB := Lib.hid (HB.out.trans (hs2.1.mono HB.out.size))
            clear hs2
            obtain ⟨y0, y1, y2, y3, y4⟩ := B2.out.cells
            obtain ⟨r0, r1, r2, r3, r4⟩ := B0.out.cells
            go_wp2_with fail
            refine (eqDeque_own _ R2.out R0.out).mono ?_
            rintro e w13 ⟨rfl, hb13⟩
            have B1 := Lib.hid (B1.out.call hb13)
            have R1 := Lib.hid (R1.out.below hb13)
            have HB := Lib.hid (HB.out.trans (hb13.mono HB.out.size))
            clear hb13
            clear y0 y1 y2 y3 y4 r0 r1 r2 r3 r4
            obtain ⟨g0, g1, g2, g3, g4⟩ := B1.out.cells
            go_wp2_with fail
            refine (HH2.out _ _ _ _ R1.out).mono ?_
            rintro e w14 ⟨rfl, hb14⟩
            have HB := Lib.hid (HB.out.trans (hb14.mono HB.out.size))
            clear hb14
            go_wp2_with fail
            go_returns
            exact ⟨rfl, HB.out⟩
        · skip
          go_wp2_with fail
          refine (eqDeque_own _ R1.out R0.out).mono ?_
          rintro e w5 ⟨rfl, hb5⟩
          have HA := Lib.hid (HA.out.call hb5)
          have HP := Lib.hid (HP.out.call hb5)
          have B0 := Lib.hid (B0.out.call hb5)
          have R0 := Lib.hid (R0.out.below hb5)
          have B1 := Lib.hid (B1.out.call hb5)
          have R1 := Lib.hid (R1.out.below hb5)
          have HX := Lib.hid (HX.out.call hb5)
          have RX := Lib.hid (RX.out.below hb5)
          have HB := Lib.hid (HB.out.trans (hb5.mono HB.out.size))
          clear r0 r1 r2 r3 r4 g0 g1 g2 g3 g4
          clear hb5
          obtain ⟨x0, x1, x2, x3, x4⟩ := HX.out.cells
          obtain ⟨q0, q1, q2, q3, q4⟩ := HA.out.cells
          go_wp2_with fail
          clear x0 x1 x2 x3 x4 q0 q1 q2 q3 q4
          have sq3 : ∀ X, Snc w5 X → (X.cell? ⟨w2.heap.size, 0, none⟩ = some (.slice ia1 I.length ic1) ∧ X.cell? ⟨w2.heap.size, 1, none⟩ = some (.slice pa1 L.length pc1) ∧ X.cell? ⟨w2.heap.size, 2, none⟩ = some (.int .i64 fi) ∧ X.cell? ⟨w2.heap.size, 3, none⟩ = some (.int .i64 nx) ∧ X.cell? ⟨w2.heap.size, 4, none⟩ = some (.int .i64 dr)) ∧ (X.cell? ⟨w.heap.size, 0, none⟩ = some (.slice ia n ic) ∧ X.cell? ⟨w.heap.size, 1, none⟩ = some (.slice pa m pc) ∧ X.cell? ⟨w.heap.size, 2, none⟩ = some (.int .i64 fi) ∧ X.cell? ⟨w.heap.size, 3, none⟩ = some (.int .i64 nx) ∧ X.cell? ⟨w.heap.size, 4, none⟩ = some (.int .i64 dr)) := fun X h => ⟨(HX.out.call h.1).cells, (HA.out.call h.1).cells⟩
          have SQ3 := Lib.hid sq3
          clear sq3
          refine wp_region_held_drew (S := fun X => (X.cell? ⟨w2.heap.size, 0, none⟩ = some (.slice ia1 I.length ic1) ∧ X.cell? ⟨w2.heap.size, 1, none⟩ = some (.slice pa1 L.length pc1) ∧ X.cell? ⟨w2.heap.size, 2, none⟩ = some (.int .i64 fi) ∧ X.cell? ⟨w2.heap.size, 3, none⟩ = some (.int .i64 nx) ∧ X.cell? ⟨w2.heap.size, 4, none⟩ = some (.int .i64 dr)) ∧ (X.cell? ⟨w.heap.size, 0, none⟩ = some (.slice ia n ic) ∧ X.cell? ⟨w.heap.size, 1, none⟩ = some (.slice pa m pc) ∧ X.cell? ⟨w.heap.size, 2, none⟩ = some (.int .i64 fi) ∧ X.cell? ⟨w.heap.size, 3, none⟩ = some (.int .i64 nx) ∧ X.cell? ⟨w.heap.size, 4, none⟩ = some (.int .i64 dr))) (by kernel_rfl) (by exact SQ3.out _ (Snc.refl w5).drew) (fun hHeld => ?_)
          have HT := Lib.hid (Snc.refl w5).drew
          first | (refine wpAnyH_take (i := 0) (v := ?_) rfl (by kernel_rfl) (by kernel_rfl) (by kernel_rfl) (fun _ _ _ h => h) (Or.inl ⟨by rfl, ?_⟩) (by assumption) ?_; rotate_left; (intro X hSw; (try dsimp only at hSw); go_simp; (try with_reducible rfl)); (try simp only [Act.put, List.setIfInBounds_toArray, List.set_cons_zero, List.set_cons_succ, List.getElem_toArray, List.getElem_cons_zero, List.getElem_cons_succ])) | fail "take 0"
          first | (refine wpAnyH_take (i := 1) (v := ?_) rfl (by kernel_rfl) (by kernel_rfl) (by kernel_rfl) (fun _ _ _ h => h) (Or.inl ⟨by rfl, ?_⟩) (by assumption) ?_; rotate_left; (intro X hSw; (try dsimp only at hSw); go_simp; (try with_reducible rfl)); (try simp only [Act.put, List.setIfInBounds_toArray, List.set_cons_zero, List.set_cons_succ, List.getElem_toArray, List.getElem_cons_zero, List.getElem_cons_succ])) | fail "take 1"
          refine wpAnyH_ready (rs := [2]) (by kernel_rfl) (by simp) ?_
          refine AllReadyH.cons rfl (fun K hK => ?_) AllReadyH.nil
          go_simp
          refine (toDeque_own _ _ _ _ _ _ _ _ _ I L _ (HI.out.below (HB.out.trans (HT.out.1.mono HB.out.size))) (HL.out.below (HB.out.trans (HT.out.1.mono HB.out.size))) hfn hm).mono ?_
          rintro e w6 ⟨vv, rfl, rr, hb6⟩
          have HT := Lib.hid (HT.out.call hb6)
          have R6 := Lib.hid rr
          clear hb6 rr
          (try dsimp only)
          refine hK.out _ _ (by exact SQ3.out _ HT.out) (fun hHeld => ?_)
          clear hK K
          (try simp only [Act.put, List.setIfInBounds_toArray, List.set_cons_zero, List.set_cons_succ, List.getElem_toArray, List.getElem_cons_zero, List.getElem_cons_succ])
          refine wpAnyH_ready (rs := [3]) (by kernel_rfl) (by simp) ?_
          refine AllReadyH.cons rfl (fun K hK => ?_) AllReadyH.nil
          go_simp
          refine (eqDeque_own _ (RX.out.below HT.out.1) R6.out).mono ?_
          rintro e w7 ⟨rfl, hb7⟩
          have HT := Lib.hid (HT.out.call hb7)
          clear hb7
          (try dsimp only)
          refine hK.out _ _ (by exact SQ3.out _ HT.out) (fun hHeld => ?_)
          clear hK K
          (try simp only [Act.put, List.setIfInBounds_toArray, List.set_cons_zero, List.set_cons_succ, List.getElem_toArray, List.getElem_cons_zero, List.getElem_cons_succ])
          first | (refine wpAnyH_take (i := 4) (v := ?_) rfl (by kernel_rfl) (by kernel_rfl) (by kernel_rfl) (fun _ _ _ h => h) (Or.inl ⟨by rfl, ?_⟩) (by assumption) ?_; rotate_left; (intro X hSw; (try dsimp only at hSw); go_simp; (try with_reducible rfl)); (try simp only [Act.put, List.setIfInBounds_toArray, List.set_cons_zero, List.set_cons_succ, List.getElem_toArray, List.getElem_cons_zero, List.getElem_cons_succ])) | fail "take 4"
          refine wpAnyH_done (by kernel_rfl) ?_ _
          have HA := Lib.hid (HA.out.call HT.out.1)
          have HP := Lib.hid (HP.out.call HT.out.1)
          have B0 := Lib.hid (B0.out.call HT.out.1)
          have R0 := Lib.hid (R0.out.below HT.out.1)
          have B1 := Lib.hid (B1.out.call HT.out.1)
          have R1 := Lib.hid (R1.out.below HT.out.1)
          have HX := Lib.hid (HX.out.call HT.out.1)
          have RX := Lib.hid (RX.out.below HT.out.1)
          have HB := Lib.hid (HB.out.trans (HT.out.1.mono HB.out.size))
          have hz7 := HT.out.2
          clear HT SQ3 R6
          obtain ⟨x0, x1, x2, x3, x4⟩ := HX.out.cells
          go_wp2_with fail
          refine (HM1.out _ _ _ _ RX.out).mono ?_
          rintro e w8 ⟨rfl, -, ht8⟩
          have hA := HA.out.lt
          obtain ⟨i1, i2, i3, i4, i5⟩ := HIn.out
          have HB := Lib.hid (ht8.below HB.out (Nat.le_refl _) (by omega))
          have HA := Lib.hid (show Box5 w8 w.heap.size 24 (.slice ia n ic) (.slice pa m pc) (.int .i64 fi) (.int .i64 nx) (.int .i64 dr) from touch_block HA.out ht8 (by omega))
          have HP := Lib.hid (show Box2d w8 (w.heap.size + 1) 26 (.bool p) (.int .i64 x) from touch_block HP.out ht8 (by omega))
          have B0 := Lib.hid (show Box5 w8 c0 28 (.slice ia0 S.items.length ic0) (.slice pa0 S.places.length pc0) (.int .i64 S.first) (.int .i64 S.next) (.int .i64 S.drops) from touch_block B0.out ht8 (by omega))
          have R0 := Lib.hid (R0.out.touch ht8 (by omega))
          have B1 := Lib.hid (show Box5 w8 c1 28 (.slice ia5 S.items.length ic5) (.slice pa5 S.places.length pc5) (.int .i64 S.first) (.int .i64 S.next) (.int .i64 S.drops) from touch_block B1.out ht8 (by omega))
          have R1 := Lib.hid (R1.out.touch ht8 (by omega))
          clear ht8 HX RX
          clear x0 x1 x2 x3 x4
          obtain ⟨r0, r1, r2, r3, r4⟩ := B0.out.cells
          obtain ⟨g0, g1, g2, g3, g4⟩ := B1.out.cells
          go_wp2_with fail
          refine (eqDeque_own _ R1.out R0.out).mono ?_
          rintro e w9 ⟨rfl, hb9⟩
          have HA := Lib.hid (HA.out.call hb9)
          have HP := Lib.hid (HP.out.call hb9)
          have B0 := Lib.hid (B0.out.call hb9)
          have R0 := Lib.hid (R0.out.below hb9)
          have B1 := Lib.hid (B1.out.call hb9)
          have R1 := Lib.hid (R1.out.below hb9)
          have HB := Lib.hid (HB.out.trans (hb9.mono HB.out.size))
          clear hb9
          clear r0 r1 r2 r3 r4 g0 g1 g2 g3 g4
          obtain ⟨g0, g1, g2, g3, g4⟩ := B1.out.cells
          go_wp2_with fail
          refine (HM2.out _ _ _ _ R1.out).mono ?_
          rintro e w10 ⟨rfl, rr10, ht10⟩
          have R1 := Lib.hid rr10
          have HB := Lib.hid (ht10.below HB.out (Nat.le_refl _) (by omega))
          have HA := Lib.hid (show Box5 w10 w.heap.size 24 (.slice ia n ic) (.slice pa m pc) (.int .i64 fi) (.int .i64 nx) (.int .i64 dr) from touch_block HA.out ht10 (by omega))
          have HP := Lib.hid (show Box2d w10 (w.heap.size + 1) 26 (.bool p) (.int .i64 x) from touch_block HP.out ht10 (by omega))
          have B0 := Lib.hid (show Box5 w10 c0 28 (.slice ia0 S.items.length ic0) (.slice pa0 S.places.length pc0) (.int .i64 S.first) (.int .i64 S.next) (.int .i64 S.drops) from touch_block B0.out ht10 (by omega))
          have R0 := Lib.hid (R0.out.touch ht10 (by omega))
          have B1 := Lib.hid (show Box5 w10 c1 28 (.slice ia5 S.items.length ic5) (.slice pa5 S.places.length pc5) (.int .i64 S.first) (.int .i64 S.next) (.int .i64 S.drops) from touch_block B1.out ht10 (by omega))
          clear ht10 rr10
          clear g0 g1 g2 g3 g4
          obtain ⟨g0, g1, g2, g3, g4⟩ := B1.out.cells
          go_wp2_with fail
          refine (HH2.out _ _ _ _ R1.out).mono ?_
          rintro e w11 ⟨rfl, hb11⟩
          have HA := Lib.hid (HA.out.call hb11)
          have HP := Lib.hid (HP.out.call hb11)
          have B0 := Lib.hid (B0.out.call hb11)
          have R0 := Lib.hid (R0.out.below hb11)
          have B1 := Lib.hid (B1.out.call hb11)
          have R1 := Lib.hid (R1.out.below hb11)
          have HB := Lib.hid (HB.out.trans (hb11.mono HB.out.size))
          clear hb11
          clear g0 g1 g2 g3 g4
          obtain ⟨q0, q1, q2, q3, q4⟩ := HA.out.cells
          obtain ⟨p0, p1⟩ := HP.out.cells
          go_wp2_with fail
          clear p0 p1
          clear q0 q1 q2 q3 q4
          have sq4 : ∀ X, Snc w11 X → (X.cell? ⟨w.heap.size, 0, none⟩ = some (.slice ia n ic) ∧ X.cell? ⟨w.heap.size, 1, none⟩ = some (.slice pa m pc) ∧ X.cell? ⟨w.heap.size, 2, none⟩ = some (.int .i64 fi) ∧ X.cell? ⟨w.heap.size, 3, none⟩ = some (.int .i64 nx) ∧ X.cell? ⟨w.heap.size, 4, none⟩ = some (.int .i64 dr)) ∧ X.cell? ⟨w.heap.size + 1, 0, none⟩ = some (.bool p) ∧ X.cell? ⟨w.heap.size + 1, 1, none⟩ = some (.int .i64 x) := fun X h => ⟨(HA.out.call h.1).cells, (HP.out.call h.1).cells⟩
          have SQ4 := Lib.hid sq4
          clear sq4
          go_cut [16, 17] (fun s s' wx => ∃ c : Nat, s = .pointer (some ⟨c, 0, none⟩) ∧ s' = .bool (true) ∧ DqAns w11.heap.size wx.heap.size wx c S ∧ Snc w11 wx)
          case first =>
            refine wp_region_held_drew (S := (fun X => (X.cell? ⟨w.heap.size, 0, none⟩ = some (.slice ia n ic) ∧ X.cell? ⟨w.heap.size, 1, none⟩ = some (.slice pa m pc) ∧ X.cell? ⟨w.heap.size, 2, none⟩ = some (.int .i64 fi) ∧ X.cell? ⟨w.heap.size, 3, none⟩ = some (.int .i64 nx) ∧ X.cell? ⟨w.heap.size, 4, none⟩ = some (.int .i64 dr)) ∧ X.cell? ⟨w.heap.size + 1, 0, none⟩ = some (.bool p) ∧ X.cell? ⟨w.heap.size + 1, 1, none⟩ = some (.int .i64 x))) (by kernel_rfl) (by exact SQ4.out _ (Snc.refl w11).drew) (fun hHeld => ?_)
            have HT := Lib.hid (Snc.refl w11).drew
            first | (refine wpAnyH_take (i := 0) (v := ?_) rfl (by kernel_rfl) (by kernel_rfl) (by kernel_rfl) (fun _ _ _ h => h) (Or.inl ⟨by rfl, ?_⟩) (by assumption) ?_; rotate_left; (intro X hSw; (try dsimp only at hSw); go_simp; (try with_reducible rfl)); (try simp only [Act.put, List.setIfInBounds_toArray, List.set_cons_zero, List.set_cons_succ, List.getElem_toArray, List.getElem_cons_zero, List.getElem_cons_succ])) | fail "take 0"
            first | (refine wpAnyH_take (i := 1) (v := ?_) rfl (by kernel_rfl) (by kernel_rfl) (by kernel_rfl) (fun _ _ _ h => h) (Or.inl ⟨by rfl, ?_⟩) (by assumption) ?_; rotate_left; (intro X hSw; (try dsimp only at hSw); go_simp; (try with_reducible rfl)); (try simp only [Act.put, List.setIfInBounds_toArray, List.set_cons_zero, List.set_cons_succ, List.getElem_toArray, List.getElem_cons_zero, List.getElem_cons_succ])) | fail "take 1"
            first | (refine wpAnyH_take (i := 3) (v := ?_) rfl (by kernel_rfl) (by kernel_rfl) (by kernel_rfl) (fun _ _ _ h => h) (Or.inl ⟨by rfl, ?_⟩) (by assumption) ?_; rotate_left; (intro X hSw; (try dsimp only at hSw); go_simp; (try with_reducible rfl)); (try simp only [Act.put, List.setIfInBounds_toArray, List.set_cons_zero, List.set_cons_succ, List.getElem_toArray, List.getElem_cons_zero, List.getElem_cons_succ])) | fail "take 3"
            refine wpAnyH_ready (rs := [2, 9]) (by kernel_rfl) (by simp) ?_
            refine AllReadyH.cons rfl (fun K hK => ?_) (AllReadyH.cons rfl (fun K hK => ?_) AllReadyH.nil)
            · go_simp
              refine (toDeque_own _ _ _ _ _ _ _ _ _ I L _ (HI.out.below (HB.out.trans (HT.out.1.mono HB.out.size))) (HL.out.below (HB.out.trans (HT.out.1.mono HB.out.size))) hfn hm).mono ?_
              rintro e v1 ⟨vv, rfl, rr, hbb⟩
              obtain ⟨ia2, ic2, pa2, pc2, rfl, hRI, hRL⟩ := rr.read
              have HR := Lib.hid (fun X (h : Snc v1 X) => (show Nums .i64 X ia2 I.length ic2 I ∧ Nums .i64 X pa2 L.length pc2 L from ⟨hRI.below h.1, hRL.below h.1⟩))
              have HT := Lib.hid (HT.out.call hbb)
              clear hbb rr hRI hRL
              (try dsimp only)
              refine hK.out _ _ (by exact SQ4.out _ HT.out) (fun hHeld => ?_)
              clear hK K
              (try simp only [Act.put, List.setIfInBounds_toArray, List.set_cons_zero, List.set_cons_succ, List.getElem_toArray, List.getElem_cons_zero, List.getElem_cons_succ])
              refine wpAnyH_ready (rs := [4, 9]) (by kernel_rfl) (by simp) ?_
              refine AllReadyH.cons rfl (fun K hK => ?_) (AllReadyH.cons rfl (fun K hK => ?_) AllReadyH.nil)
              · go_simp
                refine (toOp_any p x _).mono ?_
                rintro e v2 ⟨rfl, hbb⟩
                have HR := Lib.hid (fun X (h : Snc v2 X) => HR.out X ⟨hbb.trans (h.1.mono hbb.size), Nat.le_trans hbb.size h.2⟩)
                have HT := Lib.hid (HT.out.call hbb)
                clear hbb
                (try dsimp only)
                refine hK.out _ _ (by exact SQ4.out _ HT.out) (fun hHeld => ?_)
                clear hK K
                (try simp only [Act.put, List.setIfInBounds_toArray, List.set_cons_zero, List.set_cons_succ, List.getElem_toArray, List.getElem_cons_zero, List.getElem_cons_succ])
                refine wpAnyH_ready (rs := [5, 9]) (by kernel_rfl) (by simp) ?_
                refine AllReadyH.cons rfl (fun K hK => ?_) (AllReadyH.cons rfl (fun K hK => ?_) AllReadyH.nil)
                · go_simp
                  refine (H2.out _ _ _ _ _ (HR.out _ (Snc.refl _)).1 (HR.out _ (Snc.refl _)).2).mono ?_
                  rintro e v3 ⟨vv, rfl, rr, hbb⟩
                  obtain ⟨ia9, ic9, pa9, pc9, rfl, -, -⟩ := rr.read
                  have HO := Lib.hid rr
                  have hloL := HT.out.2
                  have hloH := hbb.size
                  have HT := Lib.hid (HT.out.call hbb)
                  clear hbb rr
                  (try dsimp only)
                  refine hK.out _ _ (by exact SQ4.out _ HT.out) (fun hHeld => ?_)
                  clear hK K
                  (try simp only [Act.put, List.setIfInBounds_toArray, List.set_cons_zero, List.set_cons_succ, List.getElem_toArray, List.getElem_cons_zero, List.getElem_cons_succ])
                  first | (refine wpAnyH_take (i := 6) (v := ?_) rfl (by kernel_rfl) (by kernel_rfl) (by kernel_rfl) (fun _ _ _ h => h) (Or.inl ⟨by rfl, ?_⟩) (by assumption) ?_; rotate_left; (intro X hSw; (try dsimp only at hSw); go_simp; (try with_reducible rfl)); (try simp only [Act.put, List.setIfInBounds_toArray, List.set_cons_zero, List.set_cons_succ, List.getElem_toArray, List.getElem_cons_zero, List.getElem_cons_succ])) | fail "take 6"
                  first | (refine wpAnyH_take (i := 7) (v := ?_) rfl (by kernel_rfl) (by kernel_rfl) (by kernel_rfl) (fun _ _ _ h => h) (Or.inl ⟨by rfl, ?_⟩) (by assumption) ?_; rotate_left; (intro X hSw; (try dsimp only at hSw); go_simp; (try with_reducible rfl)); (try simp only [Act.put, List.setIfInBounds_toArray, List.set_cons_zero, List.set_cons_succ, List.getElem_toArray, List.getElem_cons_zero, List.getElem_cons_succ])) | fail "take 7"
                  first | (refine wpAnyH_take (i := 8) (v := ?_) rfl (by kernel_rfl) (by kernel_rfl) (by kernel_rfl) (fun _ _ _ h => h) (Or.inl ⟨by rfl, ?_⟩) (by assumption) ?_; rotate_left; (intro X hSw; (try dsimp only at hSw); go_simp; (try with_reducible rfl)); (try simp only [Act.put, List.setIfInBounds_toArray, List.set_cons_zero, List.set_cons_succ, List.getElem_toArray, List.getElem_cons_zero, List.getElem_cons_succ])) | fail "take 8"
                  refine wpAnyH_ready (rs := [9]) (by kernel_rfl) (by simp) ?_
                  refine AllReadyH.cons rfl (fun K hK => ?_) AllReadyH.nil
                  go_simp
                  (try dsimp only)
                  refine hK.out _ _ (by exact SQ4.out _ (HT.out.alloc _)) (fun hHeld => ?_)
                  clear hK K
                  (try simp only [Act.put, List.setIfInBounds_toArray, List.set_cons_zero, List.set_cons_succ, List.getElem_toArray, List.getElem_cons_zero, List.getElem_cons_succ])
                  refine wpAnyH_ready (rs := [10]) (by kernel_rfl) (by simp) ?_
                  refine AllReadyH.cons rfl (fun K hK => ?_) AllReadyH.nil
                  go_simp
                  (try dsimp only)
                  refine hK.out _ _ (by exact SQ4.out _ (HT.out.alloc _)) (fun hHeld => ?_)
                  clear hK K
                  (try simp only [Act.put, List.setIfInBounds_toArray, List.set_cons_zero, List.set_cons_succ, List.getElem_toArray, List.getElem_cons_zero, List.getElem_cons_succ])
                  first | (refine wpAnyH_take (i := 11) (v := ?_) rfl (by kernel_rfl) (by kernel_rfl) (by kernel_rfl) (fun _ _ _ h => h) (Or.inl ⟨by rfl, ?_⟩) (by assumption) ?_; rotate_left; (intro X hSw; (try dsimp only at hSw); go_simp; (try with_reducible rfl)); (try simp only [Act.put, List.setIfInBounds_toArray, List.set_cons_zero, List.set_cons_succ, List.getElem_toArray, List.getElem_cons_zero, List.getElem_cons_succ])) | fail "take 11"
                  refine wpAnyH_done (by kernel_rfl) ?_ _
                  go_wp2_with fail
                  go_meet
                  exact ⟨_, rfl, rfl, DqAns.new hloL hloH (Nat.le_refl _) HO.out, HT.out.alloc _⟩
                · go_simp
                  obtain ⟨Y, hY⟩ : ∃ Y, Y = (v2.alloc (.cells #[.slice none 0 0, .slice none 0 0, .int .i64 0, .int .i64 0, .int .i64 0] 28)) := ⟨_, rfl⟩
                  have HN := Lib.hid (show Box5 Y v2.heap.size 28 (.slice none 0 0) (.slice none 0 0) (.int .i64 0) (.int .i64 0) (.int .i64 0) from by rw [hY]; exact Box5.new _ _ _ _ _ _ _)
                  have hYb : Below v2.heap.size v2 Y := by rw [hY]; exact ((Below.refl _ _).alloc (Nat.le_refl _) _)
                  have hcW : w11.heap.size ≤ v2.heap.size := HT.out.2
                  have HT := Lib.hid (show Snc w11 Y from HT.out.call hYb)
                  have hcl : v2.heap.size < Y.heap.size := HN.out.lt
                  have HR := Lib.hid (fun X (h : Snc Y X) => HR.out X ⟨(show Below v2.heap.size v2 X from hYb.trans (h.1.mono hYb.size)), Nat.le_trans hYb.size h.2⟩)
                  rw [← hY]
                  clear hY hYb
                  (try dsimp only)
                  refine hK.out _ _ (by exact SQ4.out _ HT.out) (fun hHeld => ?_)
                  clear hK K
                  (try simp only [Act.put, List.setIfInBounds_toArray, List.set_cons_zero, List.set_cons_succ, List.getElem_toArray, List.getElem_cons_zero, List.getElem_cons_succ])
                  refine wpAnyH_ready (rs := [5]) (by kernel_rfl) (by simp) ?_
                  refine AllReadyH.cons rfl (fun K hK => ?_) AllReadyH.nil
                  go_simp
                  refine (H2.out _ _ _ _ _ (HR.out _ (Snc.refl _)).1 (HR.out _ (Snc.refl _)).2).mono ?_
                  rintro e v3 ⟨vv, rfl, rr, hbb⟩
                  obtain ⟨ia9, ic9, pa9, pc9, rfl, -, -⟩ := rr.read
                  have HO := Lib.hid rr
                  have hloL := HT.out.2
                  have hloH := hbb.size
                  have HT := Lib.hid (HT.out.call hbb)
                  have HN := Lib.hid (HN.out.call hbb)
                  clear hbb rr
                  (try dsimp only)
                  refine hK.out _ _ (by exact SQ4.out _ HT.out) (fun hHeld => ?_)
                  clear hK K
                  (try simp only [Act.put, List.setIfInBounds_toArray, List.set_cons_zero, List.set_cons_succ, List.getElem_toArray, List.getElem_cons_zero, List.getElem_cons_succ])
                  first | (refine wpAnyH_take (i := 6) (v := ?_) rfl (by kernel_rfl) (by kernel_rfl) (by kernel_rfl) (fun _ _ _ h => h) (Or.inl ⟨by rfl, ?_⟩) (by assumption) ?_; rotate_left; (intro X hSw; (try dsimp only at hSw); go_simp; (try with_reducible rfl)); (try simp only [Act.put, List.setIfInBounds_toArray, List.set_cons_zero, List.set_cons_succ, List.getElem_toArray, List.getElem_cons_zero, List.getElem_cons_succ])) | fail "take 6"
                  first | (refine wpAnyH_take (i := 7) (v := ?_) rfl (by kernel_rfl) (by kernel_rfl) (by kernel_rfl) (fun _ _ _ h => h) (Or.inl ⟨by rfl, ?_⟩) (by assumption) ?_; rotate_left; (intro X hSw; (try dsimp only at hSw); go_simp; (try with_reducible rfl)); (try simp only [Act.put, List.setIfInBounds_toArray, List.set_cons_zero, List.set_cons_succ, List.getElem_toArray, List.getElem_cons_zero, List.getElem_cons_succ])) | fail "take 7"
                  first | (refine wpAnyH_take (i := 8) (v := ?_) rfl (by kernel_rfl) (by kernel_rfl) (by kernel_rfl) (fun _ _ _ h => h) (Or.inl ⟨by rfl, ?_⟩) (by assumption) ?_; rotate_left; (intro X hSw; (try dsimp only at hSw); go_simp; (try with_reducible rfl)); (try simp only [Act.put, List.setIfInBounds_toArray, List.set_cons_zero, List.set_cons_succ, List.getElem_toArray, List.getElem_cons_zero, List.getElem_cons_succ])) | fail "take 8"
                  obtain ⟨z0, z1, z2, z3, z4⟩ := HN.out.cells
                  have zf := HN.out.free
                  refine wpAnyH_ready (rs := [10]) (by kernel_rfl) (by simp) ?_
                  refine AllReadyH.cons rfl (fun K hK => ?_) AllReadyH.nil
                  go_simp
                  (try dsimp only)
                  refine hK.out _ _ (by exact SQ4.out _ (((((HT.out.set hcW _ _).set hcW _ _).set hcW _ _).set hcW _ _).set hcW _ _)) (fun hHeld => ?_)
                  clear hK K
                  (try simp only [Act.put, List.setIfInBounds_toArray, List.set_cons_zero, List.set_cons_succ, List.getElem_toArray, List.getElem_cons_zero, List.getElem_cons_succ])
                  first | (refine wpAnyH_take (i := 11) (v := ?_) rfl (by kernel_rfl) (by kernel_rfl) (by kernel_rfl) (fun _ _ _ h => h) (Or.inl ⟨by rfl, ?_⟩) (by assumption) ?_; rotate_left; (intro X hSw; (try dsimp only at hSw); go_simp; (try with_reducible rfl)); (try simp only [Act.put, List.setIfInBounds_toArray, List.set_cons_zero, List.set_cons_succ, List.getElem_toArray, List.getElem_cons_zero, List.getElem_cons_succ])) | fail "take 11"
                  refine wpAnyH_done (by kernel_rfl) ?_ _
                  go_wp2_with fail
                  go_meet
                  exact ⟨_, rfl, rfl, DqAns.set hcW (by omega) (Nat.le_refl _) HN.out HO.out, (((((HT.out.set hcW _ _).set hcW _ _).set hcW _ _).set hcW _ _).set hcW _ _)⟩
              · go_simp
                obtain ⟨Y, hY⟩ : ∃ Y, Y = (v1.alloc (.cells #[.slice none 0 0, .slice none 0 0, .int .i64 0, .int .i64 0, .int .i64 0] 28)) := ⟨_, rfl⟩
                have HN := Lib.hid (show Box5 Y v1.heap.size 28 (.slice none 0 0) (.slice none 0 0) (.int .i64 0) (.int .i64 0) (.int .i64 0) from by rw [hY]; exact Box5.new _ _ _ _ _ _ _)
                have hYb : Below v1.heap.size v1 Y := by rw [hY]; exact ((Below.refl _ _).alloc (Nat.le_refl _) _)
                have hcW : w11.heap.size ≤ v1.heap.size := HT.out.2
                have HT := Lib.hid (show Snc w11 Y from HT.out.call hYb)
                have hcl : v1.heap.size < Y.heap.size := HN.out.lt
                have HR := Lib.hid (fun X (h : Snc Y X) => HR.out X ⟨(show Below v1.heap.size v1 X from hYb.trans (h.1.mono hYb.size)), Nat.le_trans hYb.size h.2⟩)
                rw [← hY]
                clear hY hYb
                (try dsimp only)
                refine hK.out _ _ (by exact SQ4.out _ HT.out) (fun hHeld => ?_)
                clear hK K
                (try simp only [Act.put, List.setIfInBounds_toArray, List.set_cons_zero, List.set_cons_succ, List.getElem_toArray, List.getElem_cons_zero, List.getElem_cons_succ])
                refine wpAnyH_ready (rs := [4]) (by kernel_rfl) (by simp) ?_
                refine AllReadyH.cons rfl (fun K hK => ?_) AllReadyH.nil
                go_simp
                refine (toOp_any p x _).mono ?_
                rintro e v2 ⟨rfl, hbb⟩
                have HR := Lib.hid (fun X (h : Snc v2 X) => HR.out X ⟨hbb.trans (h.1.mono hbb.size), Nat.le_trans hbb.size h.2⟩)
                have HT := Lib.hid (HT.out.call hbb)
                have HN := Lib.hid (HN.out.call hbb)
                have hcl : v1.heap.size < v2.heap.size := HN.out.lt
                clear hbb
                (try dsimp only)
                refine hK.out _ _ (by exact SQ4.out _ HT.out) (fun hHeld => ?_)
                clear hK K
                (try simp only [Act.put, List.setIfInBounds_toArray, List.set_cons_zero, List.set_cons_succ, List.getElem_toArray, List.getElem_cons_zero, List.getElem_cons_succ])
                refine wpAnyH_ready (rs := [5]) (by kernel_rfl) (by simp) ?_
                refine AllReadyH.cons rfl (fun K hK => ?_) AllReadyH.nil
                go_simp
                refine (H2.out _ _ _ _ _ (HR.out _ (Snc.refl _)).1 (HR.out _ (Snc.refl _)).2).mono ?_
                rintro e v3 ⟨vv, rfl, rr, hbb⟩
                obtain ⟨ia9, ic9, pa9, pc9, rfl, -, -⟩ := rr.read
                have HO := Lib.hid rr
                have hloL := HT.out.2
                have hloH := hbb.size
                have HT := Lib.hid (HT.out.call hbb)
                have HN := Lib.hid (HN.out.call hbb)
                clear hbb rr
                (try dsimp only)
                refine hK.out _ _ (by exact SQ4.out _ HT.out) (fun hHeld => ?_)
                clear hK K
                (try simp only [Act.put, List.setIfInBounds_toArray, List.set_cons_zero, List.set_cons_succ, List.getElem_toArray, List.getElem_cons_zero, List.getElem_cons_succ])
                first | (refine wpAnyH_take (i := 6) (v := ?_) rfl (by kernel_rfl) (by kernel_rfl) (by kernel_rfl) (fun _ _ _ h => h) (Or.inl ⟨by rfl, ?_⟩) (by assumption) ?_; rotate_left; (intro X hSw; (try dsimp only at hSw); go_simp; (try with_reducible rfl)); (try simp only [Act.put, List.setIfInBounds_toArray, List.set_cons_zero, List.set_cons_succ, List.getElem_toArray, List.getElem_cons_zero, List.getElem_cons_succ])) | fail "take 6"
                first | (refine wpAnyH_take (i := 7) (v := ?_) rfl (by kernel_rfl) (by kernel_rfl) (by kernel_rfl) (fun _ _ _ h => h) (Or.inl ⟨by rfl, ?_⟩) (by assumption) ?_; rotate_left; (intro X hSw; (try dsimp only at hSw); go_simp; (try with_reducible rfl)); (try simp only [Act.put, List.setIfInBounds_toArray, List.set_cons_zero, List.set_cons_succ, List.getElem_toArray, List.getElem_cons_zero, List.getElem_cons_succ])) | fail "take 7"
                first | (refine wpAnyH_take (i := 8) (v := ?_) rfl (by kernel_rfl) (by kernel_rfl) (by kernel_rfl) (fun _ _ _ h => h) (Or.inl ⟨by rfl, ?_⟩) (by assumption) ?_; rotate_left; (intro X hSw; (try dsimp only at hSw); go_simp; (try with_reducible rfl)); (try simp only [Act.put, List.setIfInBounds_toArray, List.set_cons_zero, List.set_cons_succ, List.getElem_toArray, List.getElem_cons_zero, List.getElem_cons_succ])) | fail "take 8"
                obtain ⟨z0, z1, z2, z3, z4⟩ := HN.out.cells
                have zf := HN.out.free
                refine wpAnyH_ready (rs := [10]) (by kernel_rfl) (by simp) ?_
                refine AllReadyH.cons rfl (fun K hK => ?_) AllReadyH.nil
                go_simp
                (try dsimp only)
                refine hK.out _ _ (by exact SQ4.out _ (((((HT.out.set hcW _ _).set hcW _ _).set hcW _ _).set hcW _ _).set hcW _ _)) (fun hHeld => ?_)
                clear hK K
                (try simp only [Act.put, List.setIfInBounds_toArray, List.set_cons_zero, List.set_cons_succ, List.getElem_toArray, List.getElem_cons_zero, List.getElem_cons_succ])
                first | (refine wpAnyH_take (i := 11) (v := ?_) rfl (by kernel_rfl) (by kernel_rfl) (by kernel_rfl) (fun _ _ _ h => h) (Or.inl ⟨by rfl, ?_⟩) (by assumption) ?_; rotate_left; (intro X hSw; (try dsimp only at hSw); go_simp; (try with_reducible rfl)); (try simp only [Act.put, List.setIfInBounds_toArray, List.set_cons_zero, List.set_cons_succ, List.getElem_toArray, List.getElem_cons_zero, List.getElem_cons_succ])) | fail "take 11"
                refine wpAnyH_done (by kernel_rfl) ?_ _
                go_wp2_with fail
                go_meet
                exact ⟨_, rfl, rfl, DqAns.set hcW (by omega) (Nat.le_refl _) HN.out HO.out, (((((HT.out.set hcW _ _).set hcW _ _).set hcW _ _).set hcW _ _).set hcW _ _)⟩
            · go_simp
              obtain ⟨Y, hY⟩ : ∃ Y, Y = (w11.alloc (.cells #[.slice none 0 0, .slice none 0 0, .int .i64 0, .int .i64 0, .int .i64 0] 28)).drew := ⟨_, rfl⟩
              have HN := Lib.hid (show Box5 Y w11.heap.size 28 (.slice none 0 0) (.slice none 0 0) (.int .i64 0) (.int .i64 0) (.int .i64 0) from by rw [hY]; exact Box5.new _ _ _ _ _ _ _)
              have hYb : Below w11.heap.size w11 Y := by rw [hY]; exact ((Below.refl _ _).alloc (Nat.le_refl _) _).drew
              have hcW : w11.heap.size ≤ w11.heap.size := Nat.le_refl _
              have HT := Lib.hid (show Snc w11 Y from (Snc.refl w11).call hYb)
              have hcl : w11.heap.size < Y.heap.size := HN.out.lt
              rw [← hY]
              clear hY hYb
              (try dsimp only)
              refine hK.out _ _ (by exact SQ4.out _ HT.out) (fun hHeld => ?_)
              clear hK K
              (try simp only [Act.put, List.setIfInBounds_toArray, List.set_cons_zero, List.set_cons_succ, List.getElem_toArray, List.getElem_cons_zero, List.getElem_cons_succ])
              refine wpAnyH_ready (rs := [2]) (by kernel_rfl) (by simp) ?_
              refine AllReadyH.cons rfl (fun K hK => ?_) AllReadyH.nil
              go_simp
              refine (toDeque_own _ _ _ _ _ _ _ _ _ I L _ (HI.out.below (HB.out.trans (HT.out.1.mono HB.out.size))) (HL.out.below (HB.out.trans (HT.out.1.mono HB.out.size))) hfn hm).mono ?_
              rintro e v1 ⟨vv, rfl, rr, hbb⟩
              obtain ⟨ia2, ic2, pa2, pc2, rfl, hRI, hRL⟩ := rr.read
              have HR := Lib.hid (fun X (h : Snc v1 X) => (show Nums .i64 X ia2 I.length ic2 I ∧ Nums .i64 X pa2 L.length pc2 L from ⟨hRI.below h.1, hRL.below h.1⟩))
              have HT := Lib.hid (HT.out.call hbb)
              have HN := Lib.hid (HN.out.call hbb)
              have hcl : w11.heap.size < v1.heap.size := HN.out.lt
              clear hbb rr hRI hRL
              (try dsimp only)
              refine hK.out _ _ (by exact SQ4.out _ HT.out) (fun hHeld => ?_)
              clear hK K
              (try simp only [Act.put, List.setIfInBounds_toArray, List.set_cons_zero, List.set_cons_succ, List.getElem_toArray, List.getElem_cons_zero, List.getElem_cons_succ])
              refine wpAnyH_ready (rs := [4]) (by kernel_rfl) (by simp) ?_
              refine AllReadyH.cons rfl (fun K hK => ?_) AllReadyH.nil
              go_simp
              refine (toOp_any p x _).mono ?_
              rintro e v2 ⟨rfl, hbb⟩
              have HR := Lib.hid (fun X (h : Snc v2 X) => HR.out X ⟨hbb.trans (h.1.mono hbb.size), Nat.le_trans hbb.size h.2⟩)
              have HT := Lib.hid (HT.out.call hbb)
              have HN := Lib.hid (HN.out.call hbb)
              have hcl : w11.heap.size < v2.heap.size := HN.out.lt
              clear hbb
              (try dsimp only)
              refine hK.out _ _ (by exact SQ4.out _ HT.out) (fun hHeld => ?_)
              clear hK K
              (try simp only [Act.put, List.setIfInBounds_toArray, List.set_cons_zero, List.set_cons_succ, List.getElem_toArray, List.getElem_cons_zero, List.getElem_cons_succ])
              refine wpAnyH_ready (rs := [5]) (by kernel_rfl) (by simp) ?_
              refine AllReadyH.cons rfl (fun K hK => ?_) AllReadyH.nil
              go_simp
              refine (H2.out _ _ _ _ _ (HR.out _ (Snc.refl _)).1 (HR.out _ (Snc.refl _)).2).mono ?_
              rintro e v3 ⟨vv, rfl, rr, hbb⟩
              obtain ⟨ia9, ic9, pa9, pc9, rfl, -, -⟩ := rr.read
              have HO := Lib.hid rr
              have hloL := HT.out.2
              have hloH := hbb.size
              have HT := Lib.hid (HT.out.call hbb)
              have HN := Lib.hid (HN.out.call hbb)
              clear hbb rr
              (try dsimp only)
              refine hK.out _ _ (by exact SQ4.out _ HT.out) (fun hHeld => ?_)
              clear hK K
              (try simp only [Act.put, List.setIfInBounds_toArray, List.set_cons_zero, List.set_cons_succ, List.getElem_toArray, List.getElem_cons_zero, List.getElem_cons_succ])
              first | (refine wpAnyH_take (i := 6) (v := ?_) rfl (by kernel_rfl) (by kernel_rfl) (by kernel_rfl) (fun _ _ _ h => h) (Or.inl ⟨by rfl, ?_⟩) (by assumption) ?_; rotate_left; (intro X hSw; (try dsimp only at hSw); go_simp; (try with_reducible rfl)); (try simp only [Act.put, List.setIfInBounds_toArray, List.set_cons_zero, List.set_cons_succ, List.getElem_toArray, List.getElem_cons_zero, List.getElem_cons_succ])) | fail "take 6"
              first | (refine wpAnyH_take (i := 7) (v := ?_) rfl (by kernel_rfl) (by kernel_rfl) (by kernel_rfl) (fun _ _ _ h => h) (Or.inl ⟨by rfl, ?_⟩) (by assumption) ?_; rotate_left; (intro X hSw; (try dsimp only at hSw); go_simp; (try with_reducible rfl)); (try simp only [Act.put, List.setIfInBounds_toArray, List.set_cons_zero, List.set_cons_succ, List.getElem_toArray, List.getElem_cons_zero, List.getElem_cons_succ])) | fail "take 7"
              first | (refine wpAnyH_take (i := 8) (v := ?_) rfl (by kernel_rfl) (by kernel_rfl) (by kernel_rfl) (fun _ _ _ h => h) (Or.inl ⟨by rfl, ?_⟩) (by assumption) ?_; rotate_left; (intro X hSw; (try dsimp only at hSw); go_simp; (try with_reducible rfl)); (try simp only [Act.put, List.setIfInBounds_toArray, List.set_cons_zero, List.set_cons_succ, List.getElem_toArray, List.getElem_cons_zero, List.getElem_cons_succ])) | fail "take 8"
              obtain ⟨z0, z1, z2, z3, z4⟩ := HN.out.cells
              have zf := HN.out.free
              refine wpAnyH_ready (rs := [10]) (by kernel_rfl) (by simp) ?_
              refine AllReadyH.cons rfl (fun K hK => ?_) AllReadyH.nil
              go_simp
              (try dsimp only)
              refine hK.out _ _ (by exact SQ4.out _ (((((HT.out.set hcW _ _).set hcW _ _).set hcW _ _).set hcW _ _).set hcW _ _)) (fun hHeld => ?_)
              clear hK K
              (try simp only [Act.put, List.setIfInBounds_toArray, List.set_cons_zero, List.set_cons_succ, List.getElem_toArray, List.getElem_cons_zero, List.getElem_cons_succ])
              first | (refine wpAnyH_take (i := 11) (v := ?_) rfl (by kernel_rfl) (by kernel_rfl) (by kernel_rfl) (fun _ _ _ h => h) (Or.inl ⟨by rfl, ?_⟩) (by assumption) ?_; rotate_left; (intro X hSw; (try dsimp only at hSw); go_simp; (try with_reducible rfl)); (try simp only [Act.put, List.setIfInBounds_toArray, List.set_cons_zero, List.set_cons_succ, List.getElem_toArray, List.getElem_cons_zero, List.getElem_cons_succ])) | fail "take 11"
              refine wpAnyH_done (by kernel_rfl) ?_ _
              go_wp2_with fail
              go_meet
              exact ⟨_, rfl, rfl, DqAns.set hcW (by omega) (Nat.le_refl _) HN.out HO.out, (((((HT.out.set hcW _ _).set hcW _ _).set hcW _ _).set hcW _ _).set hcW _ _)⟩
          case rest =>
            obtain ⟨c2, rfl, rfl, hA2, hs2⟩ := hcut
            obtain ⟨lo2, hi2, ia7, ic7, pa7, pc7, -, -, -, -, -, -, f7, f8⟩ := hA2
            have B2 := Lib.hid f7
            have R2 := Lib.hid f8
            clear f7 f8
            have B0 := Lib.hid (B0.out.call hs2.1)
            have R0 := Lib.hid (R0.out.below hs2.1)
            have B1 := Lib.hid (B1.out.call hs2.1)
            have R1 := Lib.hid (R1.out.below hs2.1)
            have HB := Lib.hid (HB.out.trans (hs2.1.mono HB.out.size))
            clear hs2
            obtain ⟨y0, y1, y2, y3, y4⟩ := B2.out.cells
            obtain ⟨r0, r1, r2, r3, r4⟩ := B0.out.cells
            go_wp2_with fail
            refine (eqDeque_own _ R2.out R0.out).mono ?_
            rintro e w13 ⟨rfl, hb13⟩
            have B1 := Lib.hid (B1.out.call hb13)
            have R1 := Lib.hid (R1.out.below hb13)
            have HB := Lib.hid (HB.out.trans (hb13.mono HB.out.size))
            clear hb13
            clear y0 y1 y2 y3 y4 r0 r1 r2 r3 r4
            obtain ⟨g0, g1, g2, g3, g4⟩ := B1.out.cells
            go_wp2_with fail
            refine (HH2.out _ _ _ _ R1.out).mono ?_
            rintro e w14 ⟨rfl, hb14⟩
            have HB := Lib.hid (HB.out.trans (hb14.mono HB.out.size))
            clear hb14
            go_wp2_with fail
            go_returns
            exact ⟨rfl, HB.out⟩
  · rw [if_neg hsz] at hSZ
    have HSZ := Lib.hid hSZ
    clear hSZ
    go_enter Try.func3, Try.ntmps3
    go_wp2_with fail
    rw [← hW]
    clear hW
    refine (HSZ.out _).mono ?_
    rintro e w1 ⟨rfl, hb1⟩
    have HB1 := Lib.hid (HB.out.trans (hb1.mono HB.out.size))
    clear hb1
    go_wp2_with fail
    go_returns
    exact ⟨rfl, HB1.out⟩
end Go.Proofs.Ytbacdcegfinekaa
