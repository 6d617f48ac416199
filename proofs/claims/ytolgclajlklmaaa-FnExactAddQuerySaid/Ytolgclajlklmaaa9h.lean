/-
  The exact law of AddQuery, walked.
-/
import Derived.Test.Ytolgclajlklmaaa9f
import Derived.Deep.DeepCutAuto
namespace Go.Proofs.Ytolgclajlklmaaa
set_option linter.unusedSimpArgs false
set_option linter.unusedVariables false
open Go.RowKit
theorem add_bound (l : List (Int × Int)) (q : Int × Int) : (Agg.addOut l q).length ≤ 8 := by
  unfold Agg.addOut
  cases h : Agg.addOk l q
  · simp
  · exact Agg.qrysOk_len h
set_option maxRecDepth 8000 in
set_option maxHeartbeats 4000000 in
theorem law_FnExactAddQuery (a : Option Addr) (n cap : Nat) (l : List (Int × Int)) (x y : Int) (w : World) (h : Qrs w a n cap l) :
    Calls Try.prog 9 #[.slice a n cap, .agg #[.int .i64 x, .int .i64 y]] w fun e w' => e = .returned (.bool true) ∧ Below w.heap.size w w' := by
  have hm : cap ≤ 9223372036854775807 := by have := h.2.2.1; unfold maxLen at this; omega
  have hnc : n ≤ cap := h.2.1
  have H0 := Lib.hid h
  clear h
  obtain ⟨W, hW⟩ : ∃ W, W = w.alloc (.cells #[.int .i64 x, .int .i64 y] 63) := ⟨_, rfl⟩
  have HX := Lib.hid (show Box2h W w.heap.size 63 x y from by rw [hW]; exact Box2h.new _ _ _ _)
  have HB := Lib.hid (show Below w.heap.size w W from by rw [hW]; exact (Below.refl _ _).alloc (Nat.le_refl _) _)
  by_cases hn : n ≤ 1048576
  · have hbd := add_bound l (x, y)
    have h1 := fun a cap w h => s_addQuery_any a n cap l x y w h hn
    have h2 := fun a cap w h => addQuery_any a n cap l x y w h hn
    obtain ⟨R, hR⟩ : ∃ R, R = Agg.addOut l (x, y) := ⟨_, rfl⟩
    obtain ⟨b, hb⟩ : ∃ b, b = Agg.addOk l (x, y) := ⟨_, rfl⟩
    rw [← hR, ← hb] at h1 h2
    rw [← hR] at hbd
    have H1 := Lib.hid h1
    have H2 := Lib.hid h2
    have HBD := Lib.hid hbd
    have HXW := Lib.hid (show w.heap.size < W.heap.size from HX.out.lt)
    clear h1 h2 hR hb hbd
    have hge : ¬ ((1048576 : Int) - (n : Int) < 0) := by omega
    have hkp : ¬ ((1 : Int) + 2 * (n : Int) < 0) := by omega
    have HSZ := Lib.hid (szQueryS_big a n cap W (by omega))
    go_enter Try.func9, Try.ntmps9
    go_upto_region 1 with (fail)
    rw [← hW]
    clear hW
    go_wp2_with fail
    refine HSZ.out.mono ?_
    rintro e wz ⟨rfl, rfl⟩
    clear HSZ
    go_wp2_with fail
    have SQ := Lib.hid (fun X (hX : Below W.heap.size W X) => (HX.out.call hX).cells)
    have HBB := HB
    go_cut [6, 7] (fun s s' wx => ∃ (ra : Option Addr) (rn rc : Nat), s = .slice ra rn rc ∧ s' = .bool b ∧ OwnQy wx W.heap.size wx.heap.size (.slice ra rn rc) rn R ∧ Below W.heap.size W wx)
    case first =>
      refine wp_region_held_drew (S := fun X => X.cell? ⟨w.heap.size, 0, none⟩ = some (.int .i64 x) ∧ X.cell? ⟨w.heap.size, 1, none⟩ = some (.int .i64 y)) (by kernel_rfl) (by exact SQ.out _ (Below.refl _ _).drew) (fun hHeld => ?_)
      have HT := Lib.hid ((Below.refl W.heap.size W).drew)
      obtain ⟨q0, q1⟩ := SQ.out _ HT.out
      first | (refine wpAnyH_take (i := 0) (v := ?_) rfl (by kernel_rfl) (by kernel_rfl) (by kernel_rfl) (fun _ _ _ h => h) (Or.inl ⟨by rfl, ?_⟩) (by assumption) ?_; rotate_left; (intro X hSw; (try dsimp only at hSw); go_simp; (try with_reducible rfl)); (try simp only [Act.put, List.setIfInBounds_toArray, List.set_cons_zero, List.set_cons_succ, List.getElem_toArray, List.getElem_cons_zero, List.getElem_cons_succ])) | fail "take 0"
      first | (refine wpAnyH_take (i := 2) (v := ?_) rfl (by kernel_rfl) (by kernel_rfl) (by kernel_rfl) (fun _ _ _ h => h) (Or.inl ⟨by rfl, ?_⟩) (by assumption) ?_; rotate_left; (intro X hSw; (try dsimp only at hSw); go_simp; (try with_reducible rfl)); (try simp only [Act.put, List.setIfInBounds_toArray, List.set_cons_zero, List.set_cons_succ, List.getElem_toArray, List.getElem_cons_zero, List.getElem_cons_succ])) | fail "take 2"
      clear q0 q1
      refine wpAnyH_ready (rs := [1]) (by kernel_rfl) (by simp) ?_
      refine AllReadyH.cons rfl (fun K hK => ?_) AllReadyH.nil
      go_simp
      refine (toQueryS_own _ _ _ l _ (H0.out.below (HBB.out.trans (HT.out.mono HBB.out.size))) hn).mono ?_
      rintro e v1 ⟨vv, rfl, rr, hbb⟩
      obtain ⟨ta, tc, rfl, hNT⟩ := rr.ops
      have HNT := Lib.hid (fun X (hX : Below v1.heap.size v1 X) => hNT.below hX)
      have HT := Lib.hid (HT.out.trans (hbb.mono HT.out.size))
      clear rr hNT hbb
      (try dsimp only)
      refine hK.out _ _ (by exact SQ.out _ HT.out) (fun hHeld => ?_)
      clear hK K
      (try simp only [Act.put, List.setIfInBounds_toArray, List.set_cons_zero, List.set_cons_succ, List.getElem_toArray, List.getElem_cons_zero, List.getElem_cons_succ])
      refine wpAnyH_ready (rs := [3]) (by kernel_rfl) (by simp) ?_
      refine AllReadyH.cons rfl (fun K hK => ?_) AllReadyH.nil
      go_simp
      refine (toQuery_any x y _).mono ?_
      rintro e v2 ⟨rfl, hbb⟩
      have HNT := Lib.hid (fun X (hX : Below v2.heap.size v2 X) => HNT.out X (hbb.trans (hX.mono hbb.size)))
      have HT := Lib.hid (HT.out.trans (hbb.mono HT.out.size))
      clear hbb
      (try dsimp only)
      refine hK.out _ _ (by exact SQ.out _ HT.out) (fun hHeld => ?_)
      clear hK K
      (try simp only [Act.put, List.setIfInBounds_toArray, List.set_cons_zero, List.set_cons_succ, List.getElem_toArray, List.getElem_cons_zero, List.getElem_cons_succ])
      refine wpAnyH_ready (rs := [4]) (by kernel_rfl) (by simp) ?_
      refine AllReadyH.cons rfl (fun K hK => ?_) AllReadyH.nil
      go_simp
      refine (H1.out _ _ _ (HNT.out _ (Below.refl _ _))).mono ?_
      rintro e v3 ⟨vv, rm, rfl, rr, hbb⟩
      obtain ⟨ra, rc, rfl⟩ := qrow_slice rr.1
      have HO := Lib.hid rr
      have hlo := HT.out.size
      have HT := Lib.hid (HT.out.trans (hbb.mono HT.out.size))
      clear hbb rr
      (try dsimp only)
      refine hK.out _ _ (by exact SQ.out _ HT.out) (fun hHeld => ?_)
      clear hK K
      (try simp only [Act.put, List.setIfInBounds_toArray, List.set_cons_zero, List.set_cons_succ, List.getElem_toArray, List.getElem_cons_zero, List.getElem_cons_succ])
      obtain ⟨q0, q1⟩ := SQ.out _ HT.out
      first | (refine wpAnyH_take (i := 5) (v := ?_) rfl (by kernel_rfl) (by kernel_rfl) (by kernel_rfl) (fun _ _ _ h => h) (Or.inl ⟨by rfl, ?_⟩) (by assumption) ?_; rotate_left; (intro X hSw; (try dsimp only at hSw); go_simp; (try with_reducible rfl)); (try simp only [Act.put, List.setIfInBounds_toArray, List.set_cons_zero, List.set_cons_succ, List.getElem_toArray, List.getElem_cons_zero, List.getElem_cons_succ])) | fail "take 5"
      first | (refine wpAnyH_take (i := 6) (v := ?_) rfl (by kernel_rfl) (by kernel_rfl) (by kernel_rfl) (fun _ _ _ h => h) (Or.inl ⟨by rfl, ?_⟩) (by assumption) ?_; rotate_left; (intro X hSw; (try dsimp only at hSw); go_simp; (try with_reducible rfl)); (try simp only [Act.put, List.setIfInBounds_toArray, List.set_cons_zero, List.set_cons_succ, List.getElem_toArray, List.getElem_cons_zero, List.getElem_cons_succ])) | fail "take 6"
      first | (refine wpAnyH_take (i := 7) (v := ?_) rfl (by kernel_rfl) (by kernel_rfl) (by kernel_rfl) (fun _ _ _ h => h) (Or.inl ⟨by rfl, ?_⟩) (by assumption) ?_; rotate_left; (intro X hSw; (try dsimp only at hSw); go_simp; (try with_reducible rfl)); (try simp only [Act.put, List.setIfInBounds_toArray, List.set_cons_zero, List.set_cons_succ, List.getElem_toArray, List.getElem_cons_zero, List.getElem_cons_succ])) | fail "take 7"
      first | (refine wpAnyH_take (i := 8) (v := ?_) rfl (by kernel_rfl) (by kernel_rfl) (by kernel_rfl) (fun _ _ _ h => h) (Or.inl ⟨by rfl, ?_⟩) (by assumption) ?_; rotate_left; (intro X hSw; (try dsimp only at hSw); go_simp; (try with_reducible rfl)); (try simp only [Act.put, List.setIfInBounds_toArray, List.set_cons_zero, List.set_cons_succ, List.getElem_toArray, List.getElem_cons_zero, List.getElem_cons_succ])) | fail "take 8"
      first | (refine wpAnyH_take (i := 9) (v := ?_) rfl (by kernel_rfl) (by kernel_rfl) (by kernel_rfl) (fun _ _ _ h => h) (Or.inl ⟨by rfl, ?_⟩) (by assumption) ?_; rotate_left; (intro X hSw; (try dsimp only at hSw); go_simp; (try with_reducible rfl)); (try simp only [Act.put, List.setIfInBounds_toArray, List.set_cons_zero, List.set_cons_succ, List.getElem_toArray, List.getElem_cons_zero, List.getElem_cons_succ])) | fail "take 9"
      refine wpAnyH_done (by kernel_rfl) ?_ _
      go_wp2_with fail
      go_meet
      exact ⟨_, _, _, rfl, by first | rfl | (rw [HBV.out]), HO.out.wide hlo (Nat.le_refl _) (Nat.le_refl _), HT.out⟩
    case rest =>
      obtain ⟨ra2, rn2, rc2, rfl, rfl, hA, hs⟩ := hcut
      have HX := Lib.hid (HX.out.call hs)
      have HB := Lib.hid (HB.out.trans (hs.mono HB.out.size))
      have A2 := Lib.hid hA
      have sz2 := hs.size
      clear hA hs SQ HBB
      obtain ⟨W2, hW2⟩ : ∃ W, W = wc := ⟨_, rfl⟩
      subst hW2
      go_wp2_with fail
      refine (toQueryS_own _ _ _ l _ (H0.out.below HB.out) hn).mono ?_
      rintro e w3 ⟨v3, rfl, r3, hb3⟩
      obtain ⟨a3, c3, rfl, hN3⟩ := r3.ops
      have HN3 := Lib.hid hN3
      have X3 := Lib.hid r3
      have a4 : W2.heap.size ≤ w3.heap.size := hb3.size
      clear r3 hN3
      have HX := Lib.hid (HX.out.call hb3)
      have A2 := Lib.hid (A2.out.below hb3)
      have HB := Lib.hid (HB.out.trans (hb3.mono HB.out.size))
      clear hb3
      obtain ⟨q0, q1⟩ := HX.out.cells
      go_wp2_with fail
      refine (toQuery_any x y _).mono ?_
      rintro e w4 ⟨rfl, hb4⟩
      have HN3 := Lib.hid (HN3.out.below hb4)
      have a5 : w3.heap.size ≤ w4.heap.size := hb4.size
      have HX := Lib.hid (HX.out.call hb4)
      have A2 := Lib.hid (A2.out.below hb4)
      have X3 := Lib.hid (X3.out.below hb4)
      have HB := Lib.hid (HB.out.trans (hb4.mono HB.out.size))
      clear hb4
      clear q0 q1
      go_wp2_with fail
      refine (H2.out _ _ _ HN3.out).mono ?_
      rintro e w5 ⟨v5, n5, rfl, r5, hb5⟩
      obtain ⟨a5, c5, rfl⟩ := qrow_slice r5.1
      have A5 := Lib.hid r5
      have a6 : w4.heap.size ≤ w5.heap.size := hb5.size
      clear r5 HN3
      have HX := Lib.hid (HX.out.call hb5)
      have A2 := Lib.hid (A2.out.below hb5)
      have X3 := Lib.hid (X3.out.below hb5)
      have HB := Lib.hid (HB.out.trans (hb5.mono HB.out.size))
      clear hb5
      obtain ⟨bv, hbv⟩ : ∃ bv : Bool, bv = b := ⟨_, rfl⟩
      have HBV := Lib.hid hbv
      clear hbv
      cases b
      all_goals
        go_wp2_with fail
        refine (eqQueryS_own _ A5.out A2.out).mono ?_
        rintro e w6 ⟨rfl, hbe⟩
        have HX := Lib.hid (HX.out.call hbe)
        have A2 := Lib.hid (A2.out.below hbe)
        have X3 := Lib.hid (X3.out.below hbe)
        have A5 := Lib.hid (A5.out.below hbe)
        have HB := Lib.hid (HB.out.trans (hbe.mono HB.out.size))
        clear hbe
        go_wp2_with fail
        refine (toQueryS_own _ _ _ l _ (H0.out.below HB.out) hn).mono ?_
        rintro e w7 ⟨v7, rfl, r7, hb7⟩
        have X7 := Lib.hid r7
        clear r7
        have HX := Lib.hid (HX.out.call hb7)
        have A2 := Lib.hid (A2.out.below hb7)
        have X3 := Lib.hid (X3.out.below hb7)
        have A5 := Lib.hid (A5.out.below hb7)
        have HB := Lib.hid (HB.out.trans (hb7.mono HB.out.size))
        clear hb7
        go_wp2_with fail
        refine (eqQueryS_own _ X3.out X7.out).mono ?_
        rintro e w8 ⟨rfl, hbe⟩
        have HX := Lib.hid (HX.out.call hbe)
        have A2 := Lib.hid (A2.out.below hbe)
        have X3 := Lib.hid (X3.out.below hbe)
        have A5 := Lib.hid (A5.out.below hbe)
        have HB := Lib.hid (HB.out.trans (hbe.mono HB.out.size))
        clear hbe
        clear X7
        go_wp2_with fail
        refine (markQueryS_own _ 1 X3.out (by omega) (by omega) hn).mono ?_
        rintro e w9 ⟨rfl, -, hg9⟩
        have hblk : ∀ j, (Value.slice a3 n c3).ownBlock = some j → W2.heap.size ≤ j ∧ j < w3.heap.size := fun j hj => ⟨(X3.out.1.lt j hj).1, X3.out.2.2.2 j hj⟩
        have A2 := Lib.hid (A2.out.kept hg9 (fun j hj => by have := hblk j hj; omega))
        have A5 := Lib.hid (A5.out.kept hg9 (fun j hj => by have := hblk j hj; omega))
        have hxW : w.heap.size < W.heap.size := HXW.out
        have HX := Lib.hid (show Box2h w9 w.heap.size 63 x y from (hg9.block _ HX.out.lt (fun e => by have := hblk _ e.symm; omega)).trans HX.out)
        have HB := Lib.hid (HB.out.grown hg9 HB.out.size (fun j hj => by have := hblk j hj; omega))
        clear hg9 hblk X3
        go_wp2_with fail
        refine (eqQueryS_own _ A5.out A2.out).mono ?_
        rintro e w10 ⟨rfl, hbe⟩
        have HX := Lib.hid (HX.out.call hbe)
        have A2 := Lib.hid (A2.out.below hbe)
        have A5 := Lib.hid (A5.out.below hbe)
        have HB := Lib.hid (HB.out.trans (hbe.mono HB.out.size))
        clear hbe
        have hn5 : n5 ≤ 8 := by have := A5.out.len; have := HBD.out; omega
        go_wp2_with fail
        refine (markQueryS_own _ 1 A5.out (by omega) (by omega) (by omega)).mono ?_
        rintro e w12 ⟨rfl, rm, hg12⟩
        have hblk : ∀ j, (Value.slice a5 n5 c5).ownBlock = some j → w4.heap.size ≤ j ∧ j < w5.heap.size := fun j hj => ⟨(A5.out.1.lt j hj).1, A5.out.2.2.2 j hj⟩
        have A2 := Lib.hid (A2.out.kept hg12 (fun j hj => by have := hblk j hj; omega))
        have A5 := Lib.hid rm
        have HX := Lib.hid (show Box2h w12 w.heap.size 63 x y from (hg12.block _ HX.out.lt (fun e => by have := hblk _ e.symm; omega)).trans HX.out)
        have HB := Lib.hid (HB.out.grown hg12 HB.out.size (fun j hj => by have := hblk j hj; omega))
        clear hg12 hblk rm
        have hq5 : ¬ ((1 : Int) + 2 * (n5 : Int) < 0) := by omega
        go_wp2_with fail
        refine (heldQueryS_own _ 1 A5.out (by omega) (by omega) (by omega)).mono ?_
        rintro e w13 ⟨rfl, hbe⟩
        have HX := Lib.hid (HX.out.call hbe)
        have A2 := Lib.hid (A2.out.below hbe)
        have A5 := Lib.hid (A5.out.below hbe)
        have HB := Lib.hid (HB.out.trans (hbe.mono HB.out.size))
        clear hbe
        go_wp2_with fail
        obtain ⟨WB, hWB⟩ : ∃ WB, WB = w13 := ⟨_, rfl⟩
        subst hWB
        have SQ := Lib.hid (fun X (hX : Below WB.heap.size WB X) => (HX.out.call hX).cells)
        have HBB := HB
        go_cut [14, 15] (fun s s' wx => ∃ (ra : Option Addr) (rn rc : Nat), s = .slice ra rn rc ∧ s' = .bool bv ∧ OwnQy wx WB.heap.size wx.heap.size (.slice ra rn rc) rn R ∧ Below WB.heap.size WB wx)
        case first =>
          refine wp_region_held_drew (S := fun X => X.cell? ⟨w.heap.size, 0, none⟩ = some (.int .i64 x) ∧ X.cell? ⟨w.heap.size, 1, none⟩ = some (.int .i64 y)) (by kernel_rfl) (by exact SQ.out _ (Below.refl _ _).drew) (fun hHeld => ?_)
          have HT := Lib.hid ((Below.refl WB.heap.size WB).drew)
          obtain ⟨q0, q1⟩ := SQ.out _ HT.out
          first | (refine wpAnyH_take (i := 0) (v := ?_) rfl (by kernel_rfl) (by kernel_rfl) (by kernel_rfl) (fun _ _ _ h => h) (Or.inl ⟨by rfl, ?_⟩) (by assumption) ?_; rotate_left; (intro X hSw; (try dsimp only at hSw); go_simp; (try with_reducible rfl)); (try simp only [Act.put, List.setIfInBounds_toArray, List.set_cons_zero, List.set_cons_succ, List.getElem_toArray, List.getElem_cons_zero, List.getElem_cons_succ])) | fail "take 0"
          first | (refine wpAnyH_take (i := 2) (v := ?_) rfl (by kernel_rfl) (by kernel_rfl) (by kernel_rfl) (fun _ _ _ h => h) (Or.inl ⟨by rfl, ?_⟩) (by assumption) ?_; rotate_left; (intro X hSw; (try dsimp only at hSw); go_simp; (try with_reducible rfl)); (try simp only [Act.put, List.setIfInBounds_toArray, List.set_cons_zero, List.set_cons_succ, List.getElem_toArray, List.getElem_cons_zero, List.getElem_cons_succ])) | fail "take 2"
          clear q0 q1
          refine wpAnyH_ready (rs := [1]) (by kernel_rfl) (by simp) ?_
          refine AllReadyH.cons rfl (fun K hK => ?_) AllReadyH.nil
          go_simp
          refine (toQueryS_own _ _ _ l _ (H0.out.below (HBB.out.trans (HT.out.mono HBB.out.size))) hn).mono ?_
          rintro e v1 ⟨vv, rfl, rr, hbb⟩
          obtain ⟨ta, tc, rfl, hNT⟩ := rr.ops
          have HNT := Lib.hid (fun X (hX : Below v1.heap.size v1 X) => hNT.below hX)
          have HT := Lib.hid (HT.out.trans (hbb.mono HT.out.size))
          clear rr hNT hbb
          (try dsimp only)
          refine hK.out _ _ (by exact SQ.out _ HT.out) (fun hHeld => ?_)
          clear hK K
          (try simp only [Act.put, List.setIfInBounds_toArray, List.set_cons_zero, List.set_cons_succ, List.getElem_toArray, List.getElem_cons_zero, List.getElem_cons_succ])
          refine wpAnyH_ready (rs := [3]) (by kernel_rfl) (by simp) ?_
          refine AllReadyH.cons rfl (fun K hK => ?_) AllReadyH.nil
          go_simp
          refine (toQuery_any x y _).mono ?_
          rintro e v2 ⟨rfl, hbb⟩
          have HNT := Lib.hid (fun X (hX : Below v2.heap.size v2 X) => HNT.out X (hbb.trans (hX.mono hbb.size)))
          have HT := Lib.hid (HT.out.trans (hbb.mono HT.out.size))
          clear hbb
          (try dsimp only)
          refine hK.out _ _ (by exact SQ.out _ HT.out) (fun hHeld => ?_)
          clear hK K
          (try simp only [Act.put, List.setIfInBounds_toArray, List.set_cons_zero, List.set_cons_succ, List.getElem_toArray, List.getElem_cons_zero, List.getElem_cons_succ])
          refine wpAnyH_ready (rs := [4]) (by kernel_rfl) (by simp) ?_
          refine AllReadyH.cons rfl (fun K hK => ?_) AllReadyH.nil
          go_simp
          refine (H2.out _ _ _ (HNT.out _ (Below.refl _ _))).mono ?_
          rintro e v3 ⟨vv, rm, rfl, rr, hbb⟩
          obtain ⟨ra, rc, rfl⟩ := qrow_slice rr.1
          have HO := Lib.hid rr
          have hlo := HT.out.size
          have HT := Lib.hid (HT.out.trans (hbb.mono HT.out.size))
          clear hbb rr
          (try dsimp only)
          refine hK.out _ _ (by exact SQ.out _ HT.out) (fun hHeld => ?_)
          clear hK K
          (try simp only [Act.put, List.setIfInBounds_toArray, List.set_cons_zero, List.set_cons_succ, List.getElem_toArray, List.getElem_cons_zero, List.getElem_cons_succ])
          obtain ⟨q0, q1⟩ := SQ.out _ HT.out
          first | (refine wpAnyH_take (i := 5) (v := ?_) rfl (by kernel_rfl) (by kernel_rfl) (by kernel_rfl) (fun _ _ _ h => h) (Or.inl ⟨by rfl, ?_⟩) (by assumption) ?_; rotate_left; (intro X hSw; (try dsimp only at hSw); go_simp; (try with_reducible rfl)); (try simp only [Act.put, List.setIfInBounds_toArray, List.set_cons_zero, List.set_cons_succ, List.getElem_toArray, List.getElem_cons_zero, List.getElem_cons_succ])) | fail "take 5"
          first | (refine wpAnyH_take (i := 6) (v := ?_) rfl (by kernel_rfl) (by kernel_rfl) (by kernel_rfl) (fun _ _ _ h => h) (Or.inl ⟨by rfl, ?_⟩) (by assumption) ?_; rotate_left; (intro X hSw; (try dsimp only at hSw); go_simp; (try with_reducible rfl)); (try simp only [Act.put, List.setIfInBounds_toArray, List.set_cons_zero, List.set_cons_succ, List.getElem_toArray, List.getElem_cons_zero, List.getElem_cons_succ])) | fail "take 6"
          first | (refine wpAnyH_take (i := 7) (v := ?_) rfl (by kernel_rfl) (by kernel_rfl) (by kernel_rfl) (fun _ _ _ h => h) (Or.inl ⟨by rfl, ?_⟩) (by assumption) ?_; rotate_left; (intro X hSw; (try dsimp only at hSw); go_simp; (try with_reducible rfl)); (try simp only [Act.put, List.setIfInBounds_toArray, List.set_cons_zero, List.set_cons_succ, List.getElem_toArray, List.getElem_cons_zero, List.getElem_cons_succ])) | fail "take 7"
          first | (refine wpAnyH_take (i := 8) (v := ?_) rfl (by kernel_rfl) (by kernel_rfl) (by kernel_rfl) (fun _ _ _ h => h) (Or.inl ⟨by rfl, ?_⟩) (by assumption) ?_; rotate_left; (intro X hSw; (try dsimp only at hSw); go_simp; (try with_reducible rfl)); (try simp only [Act.put, List.setIfInBounds_toArray, List.set_cons_zero, List.set_cons_succ, List.getElem_toArray, List.getElem_cons_zero, List.getElem_cons_succ])) | fail "take 8"
          first | (refine wpAnyH_take (i := 9) (v := ?_) rfl (by kernel_rfl) (by kernel_rfl) (by kernel_rfl) (fun _ _ _ h => h) (Or.inl ⟨by rfl, ?_⟩) (by assumption) ?_; rotate_left; (intro X hSw; (try dsimp only at hSw); go_simp; (try with_reducible rfl)); (try simp only [Act.put, List.setIfInBounds_toArray, List.set_cons_zero, List.set_cons_succ, List.getElem_toArray, List.getElem_cons_zero, List.getElem_cons_succ])) | fail "take 9"
          refine wpAnyH_done (by kernel_rfl) ?_ _
          go_wp2_with fail
          go_meet
          exact ⟨_, _, _, rfl, by first | rfl | (rw [HBV.out]), HO.out.wide hlo (Nat.le_refl _) (Nat.le_refl _), HT.out⟩
        case rest =>
          obtain ⟨ra8, rn8, rc8, rfl, rfl, hA, hs⟩ := hcut
          have HX := Lib.hid (HX.out.call hs)
          have A2 := Lib.hid (A2.out.below hs)
          have A5 := Lib.hid (A5.out.below hs)
          have HB := Lib.hid (HB.out.trans (hs.mono HB.out.size))
          have A8 := Lib.hid hA
          have sz8 := hs.size
          clear hA hs SQ HBB
          have hbv := HBV.out
          subst hbv
          obtain ⟨W8, hW8⟩ : ∃ W, W = wc := ⟨_, rfl⟩
          subst hW8
          go_wp2_with fail
          refine (eqQueryS_own _ A8.out A2.out).mono ?_
          rintro e w18 ⟨rfl, hbe⟩
          have HX := Lib.hid (HX.out.call hbe)
          have A2 := Lib.hid (A2.out.below hbe)
          have A5 := Lib.hid (A5.out.below hbe)
          have A8 := Lib.hid (A8.out.below hbe)
          have HB := Lib.hid (HB.out.trans (hbe.mono HB.out.size))
          clear hbe
          go_wp2_with fail
          refine (heldQueryS_own _ 1 A5.out (by omega) (by omega) (by omega)).mono ?_
          rintro e w19 ⟨rfl, hbe⟩
          have HX := Lib.hid (HX.out.call hbe)
          have HB := Lib.hid (HB.out.trans (hbe.mono HB.out.size))
          clear hbe
          go_wp2_with fail
          go_returns
          exact ⟨rfl, HB.out⟩
  · have HSZ := Lib.hid (szQueryS_neg a n cap W (by omega) (by omega))
    go_enter Try.func9, Try.ntmps9
    go_upto_region 1 with (fail)
    rw [← hW]
    clear hW
    go_wp2_with fail
    refine HSZ.out.mono ?_
    rintro e wz ⟨rfl, rfl⟩
    go_wp2
    go_returns
    exact ⟨rfl, HB.out⟩
end Go.Proofs.Ytolgclajlklmaaa
