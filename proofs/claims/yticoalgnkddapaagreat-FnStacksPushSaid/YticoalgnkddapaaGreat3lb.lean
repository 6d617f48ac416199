/-
  The law FnStacksPush, walked.
-/
import Derived.Test.YticoalgnkddapaaGreatSa
import Derived.Test.YticoalgnkddapaaGreat3q
import Derived.Test.YticoalgnkddapaaGreat3y
import Derived.Test.YticoalgnkddapaaGreat3v
import Derived.Test.YticoalgnkddapaaGreat3la
import Derived.Test.YticoalgnkddapaaGreat3o
import Derived.Deep.Cut
namespace Go.Proofs.YticoalgnkddapaaGreat
set_option linter.unusedSimpArgs false
set_option linter.unusedVariables false
open Go.RowKit
/-- A pushed item comes behind what stacks stand for. -/
theorem Agg.push_value {k : Int} {s : Agg.S} {x : Int} (h : Agg.stepOk k s (true, x) = true) {v w c l : Agg.V} (hv : (v, true) = Agg.aValS k s) (hw : (w, true) = Agg.aValS k (Agg.stepS k s (true, x))) (hl : l = (Agg.aLift k x).1) (hc : (c, true) = Agg.aComb k v l) : w = c := by
  obtain ⟨hs, hcan⟩ := can_step h
  have hx : Agg.isItem x = true := by
    simp [Agg.can, Agg.opOk] at hcan
    first | exact hcan.1 | exact hcan.1.1
  obtain ⟨hk, -, hfr, hit, hback, hokb, -, -⟩ := Agg.sOk_parts hs
  have gv : ∀ {b : Bool} {u z : Agg.V}, (z, true) = Agg.give b u → z = u := by
    intro b u z hh
    unfold Agg.give at hh
    split at hh
    · exact (Prod.mk.inj hh).1
    · exact absurd (Prod.mk.inj hh).2 (by simp)
  have ev := gv hv
  have ew := gv hw
  have ec := gv hc
  have el : l = Agg.lift k x := by rw [hl]; simp [Agg.aLift, Agg.give, hk, hx]
  subst ev ew ec el
  have e1 : (Agg.stepS k s (true, x)).front = s.front := rfl
  have e2 : (Agg.stepS k s (true, x)).back = Agg.comb k s.back (Agg.lift k x) := rfl
  unfold Agg.valS
  rw [e1, e2]
  by_cases h0 : s.front.length = 0
  · rw [if_pos h0, if_pos h0]
  · rw [if_neg h0, if_neg h0]
    exact (Agg.assoc hk (hfr _ (by omega)) hokb (Agg.ok_lift hk hx)).symm
theorem Agg.step_size {k : Int} {s : Agg.S} {p : Bool} {x : Int} (h : Agg.stepOk k s (p, x) = true) :
    (p = true → (Agg.stepS k s (p, x)).front.length + (Agg.stepS k s (p, x)).items.length = s.front.length + s.items.length + 1) ∧
    (p = false → (Agg.stepS k s (p, x)).front.length + (Agg.stepS k s (p, x)).items.length + 1 = s.front.length + s.items.length) := by
  refine ⟨?_, ?_⟩
  · rintro rfl
    simp [Agg.stepS, Agg.pushS]
    omega
  · rintro rfl
    have hc := Agg.can_pop3 (can_step h).2
    simp only [Agg.S.size] at hc
    by_cases h0 : s.front.length = 0
    · simp [Agg.stepS, Agg.readyS, Agg.popS, Agg.flipS, h0, Agg.sufs_length]
      omega
    · simp [Agg.stepS, Agg.readyS, Agg.popS, h0]
      omega
set_option maxRecDepth 8000 in
set_option maxHeartbeats 8000000 in
theorem law_FnStacksPush (a : Option Addr) (n cap : Nat) (zs : List Int) (w : World) (hrow : IsRow .u8 w a n cap zs) :
    Calls Tryz.prog 6 #[.slice a n cap] w fun e w' => e = .returned (.bool true) ∧ Below w.heap.size w w' := by
  have HB := Lib.hid (Bytes.of_row hrow)
  have hm : cap ≤ 9223372036854775807 := HB.out.2.1
  have hnc : n ≤ cap := HB.out.1
  clear hrow
  by_cases hn : n ≤ 1048576
  · go_enter Tryz.func6, Tryz.ntmps6
    go_wp2_with fail
    refine (drawStacksStep_any _ _ _ _ _ HB.out).mono ?_
    rintro e w1 ⟨k, v1, s, p, x, rfl, hs1, hsm, hb1⟩
    obtain ⟨fa, fc, ia, ic, rfl, hV, hN⟩ := hs1.read
    obtain ⟨F, I, ⟨bx, by', bz⟩, fl, co⟩ := s
    simp only at hV hN hsm
    obtain ⟨hf60, hi60⟩ := hsm
    have h1 := fun w h h' => stacksStep_any k fa F.length fc ia I.length ic bx by' bz fl co F I p x w h h' (by omega) (by omega)
    have h2 := fun w h h' => s_stacksStep_any k fa F.length fc ia I.length ic bx by' bz fl co F I p x w h h' (by omega) (by omega)
    obtain ⟨⟨SF, SI, ⟨X, Y, Z⟩, SL, SO⟩, hS⟩ : ∃ S, S = Agg.aStep k ⟨F, I, ⟨bx, by', bz⟩, fl, co⟩ (p, x) := ⟨_, rfl⟩
    obtain ⟨b, hb⟩ : ∃ b, b = Agg.stepOk k ⟨F, I, ⟨bx, by', bz⟩, fl, co⟩ (p, x) := ⟨_, rfl⟩
    rw [← hS, ← hb] at h1 h2
    have H1 := Lib.hid h1
    have H2 := Lib.hid h2
    have HS := Lib.hid hS
    have HBB := Lib.hid hb
    obtain ⟨W1, hW1⟩ : ∃ W1, W1 = (w1.alloc (.cells #[.slice fa F.length fc, .slice ia I.length ic, .int .i64 bx, .int .i64 by', .int .i64 bz, .int .i64 fl, .int .i64 co] 31)).alloc (.cells #[.bool p, .int .i64 x] 43) := ⟨_, rfl⟩
    have hb11 : Below w1.heap.size w1 W1 := by rw [hW1]; exact ((Below.refl _ _).alloc (Nat.le_refl _) _).alloc (by simp) _
    have HX := Lib.hid (show Box7 W1 w1.heap.size 31 (.slice fa F.length fc) (.slice ia I.length ic) (.int .i64 bx) (.int .i64 by') (.int .i64 bz) (.int .i64 fl) (.int .i64 co) from by rw [hW1]; exact (Box7.new w1 _ _ _ _ _ _ _ _).alloc _)
    have HP := Lib.hid (show Box2 W1 (w1.heap.size + 1) 43 (.bool p) (.int .i64 x) from by rw [hW1]; exact Box2.new1 _ _ _ (by simp))
    have HV := Lib.hid (hV.below hb11)
    have HN := Lib.hid (hN.below hb11)
    have HW := Lib.hid (hb1.trans (hb11.mono hb1.size))
    clear h1 h2 hS hb hV hN hs1 hb1 hb11 HB
    go_wp2_with fail
    rw [← hW1]
    clear hW1
    refine (H1.out _ HV.out HN.out).mono ?_
    rintro e w2 ⟨v2, rfl, r2, hb2⟩
    obtain ⟨fa2, fc2, ia2, ic2, rfl, hQV, hQN⟩ := r2.read
    obtain ⟨W2, hW2⟩ : ∃ W2, W2 = w2.alloc (.cells #[.slice fa2 SF.length fc2, .slice ia2 SI.length ic2, .int .i64 X, .int .i64 Y, .int .i64 Z, .int .i64 SL, .int .i64 SO] 31) := ⟨_, rfl⟩
    have hb22 : Below w2.heap.size w2 W2 := by rw [hW2]; exact (Below.refl _ _).alloc (Nat.le_refl _) _
    have HQ := Lib.hid (show Box7 W2 w2.heap.size 31 (.slice fa2 SF.length fc2) (.slice ia2 SI.length ic2) (.int .i64 X) (.int .i64 Y) (.int .i64 Z) (.int .i64 SL) (.int .i64 SO) from by rw [hW2]; exact Box7.new _ _ _ _ _ _ _ _ _)
    have hb12 := hb2.trans (hb22.mono hb2.size)
    have HX := Lib.hid (HX.out.call hb12)
    have HP := Lib.hid (HP.out.call hb12)
    have HV := Lib.hid (HV.out.below hb12)
    have HN := Lib.hid (HN.out.below hb12)
    have HW := Lib.hid (HW.out.trans (hb12.mono HW.out.size))
    have HQV := Lib.hid (hQV.below hb22)
    have HQN := Lib.hid (hQN.below hb22)
    clear r2 hb2 hb22 hb12 hQV hQN
    obtain ⟨q0, q1, q2, q3, q4, q5, q6⟩ := HX.out.cells
    obtain ⟨p0, p1⟩ := HP.out.cells
    go_upto_region 5 with (fail)
    rw [← hW2]
    clear hW2
    go_wp2_with fail
    refine (H2.out _ HV.out HN.out).mono ?_
    rintro e w3 ⟨v3, rfl, r3, hb3⟩
    obtain ⟨fa3, fc3, ia3, ic3, rfl, hRV, hRN⟩ := r3.read
    obtain ⟨W3, hW3⟩ : ∃ W3, W3 = w3.alloc (.cells #[.slice fa3 SF.length fc3, .slice ia3 SI.length ic3, .int .i64 X, .int .i64 Y, .int .i64 Z, .int .i64 SL, .int .i64 SO] 31) := ⟨_, rfl⟩
    have hb33 : Below w3.heap.size w3 W3 := by rw [hW3]; exact (Below.refl _ _).alloc (Nat.le_refl _) _
    have HR := Lib.hid (show Box7 W3 w3.heap.size 31 (.slice fa3 SF.length fc3) (.slice ia3 SI.length ic3) (.int .i64 X) (.int .i64 Y) (.int .i64 Z) (.int .i64 SL) (.int .i64 SO) from by rw [hW3]; exact Box7.new _ _ _ _ _ _ _ _ _)
    have hb13 := hb3.trans (hb33.mono hb3.size)
    have HX := Lib.hid (HX.out.call hb13)
    have HP := Lib.hid (HP.out.call hb13)
    have HQ := Lib.hid (HQ.out.call hb13)
    have HW := Lib.hid (HW.out.trans (hb13.mono HW.out.size))
    have HQV := Lib.hid (HQV.out.below hb13)
    have HQN := Lib.hid (HQN.out.below hb13)
    have HV := Lib.hid (HV.out.below hb13)
    have HN := Lib.hid (HN.out.below hb13)
    have HRV := Lib.hid (hRV.below hb33)
    have HRN := Lib.hid (hRN.below hb33)
    clear r3 hb3 hb33 hb13 hRV hRN H1 H2 q0 q1 q2 q3 q4 q5 q6 p0 p1
    obtain ⟨q0, q1, q2, q3, q4, q5, q6⟩ := HQ.out.cells
    go_upto_region 6 with (fail)
    rw [← hW3]
    clear hW3
    obtain ⟨r0, r1, r2, r3, r4, r5, r6⟩ := HR.out.cells
    go_wp2_with fail
    refine (waStacks_same _ _ _ _ _ _ _ _ _ _ _ _ _ _ _ SF SI _ HQV.out HQN.out HRV.out HRN.out).mono ?_
    rintro e w4 ⟨rfl, hb4⟩
    have HX := Lib.hid (HX.out.call hb4)
    have HP := Lib.hid (HP.out.call hb4)
    have HQ := Lib.hid (HQ.out.call hb4)
    have HR := Lib.hid (HR.out.call hb4)
    have HW := Lib.hid (HW.out.trans (hb4.mono HW.out.size))
    have HQV := Lib.hid (HQV.out.below hb4)
    have HQN := Lib.hid (HQN.out.below hb4)
    have HRV := Lib.hid (HRV.out.below hb4)
    have HRN := Lib.hid (HRN.out.below hb4)
    have HV := Lib.hid (HV.out.below hb4)
    have HN := Lib.hid (HN.out.below hb4)
    clear hb4 q0 q1 q2 q3 q4 q5 q6 r0 r1 r2 r3 r4 r5 r6
    obtain ⟨q0, q1, q2, q3, q4, q5, q6⟩ := HQ.out.cells
    obtain ⟨p0, p1⟩ := HP.out.cells
    obtain ⟨x0, x1, x2, x3, x4, x5, x6⟩ := HX.out.cells
    cases b
    · obtain ⟨r0, r1, r2, r3, r4, r5, r6⟩ := HR.out.cells
      go_wp2_with fail
      refine wp_region_held_drew (S := (fun U => (U.cell? ⟨w2.heap.size, 0, none⟩ = some (.slice fa2 SF.length fc2) ∧ U.cell? ⟨w2.heap.size, 1, none⟩ = some (.slice ia2 SI.length ic2) ∧ U.cell? ⟨w2.heap.size, 2, none⟩ = some (.int .i64 X) ∧ U.cell? ⟨w2.heap.size, 3, none⟩ = some (.int .i64 Y) ∧ U.cell? ⟨w2.heap.size, 4, none⟩ = some (.int .i64 Z) ∧ U.cell? ⟨w2.heap.size, 5, none⟩ = some (.int .i64 SL) ∧ U.cell? ⟨w2.heap.size, 6, none⟩ = some (.int .i64 SO)) ∧ (U.cell? ⟨w3.heap.size, 0, none⟩ = some (.slice fa3 SF.length fc3) ∧ U.cell? ⟨w3.heap.size, 1, none⟩ = some (.slice ia3 SI.length ic3) ∧ U.cell? ⟨w3.heap.size, 2, none⟩ = some (.int .i64 X) ∧ U.cell? ⟨w3.heap.size, 3, none⟩ = some (.int .i64 Y) ∧ U.cell? ⟨w3.heap.size, 4, none⟩ = some (.int .i64 Z) ∧ U.cell? ⟨w3.heap.size, 5, none⟩ = some (.int .i64 SL) ∧ U.cell? ⟨w3.heap.size, 6, none⟩ = some (.int .i64 SO)) ∧ (U.cell? ⟨w1.heap.size, 0, none⟩ = some (.slice fa F.length fc) ∧ U.cell? ⟨w1.heap.size, 1, none⟩ = some (.slice ia I.length ic) ∧ U.cell? ⟨w1.heap.size, 2, none⟩ = some (.int .i64 bx) ∧ U.cell? ⟨w1.heap.size, 3, none⟩ = some (.int .i64 by') ∧ U.cell? ⟨w1.heap.size, 4, none⟩ = some (.int .i64 bz) ∧ U.cell? ⟨w1.heap.size, 5, none⟩ = some (.int .i64 fl) ∧ U.cell? ⟨w1.heap.size, 6, none⟩ = some (.int .i64 co)))) (by kernel_rfl) (by refine ⟨⟨?_, ?_, ?_, ?_, ?_, ?_, ?_⟩, ⟨?_, ?_, ?_, ?_, ?_, ?_, ?_⟩, ⟨?_, ?_, ?_, ?_, ?_, ?_, ?_⟩⟩ <;> assumption) (fun hHeld => ?_)
      first | (refine wpAnyH_take (i := 0) (v := ?_) rfl (by kernel_rfl) (by kernel_rfl) (by kernel_rfl) (fun _ _ _ h => h) (Or.inl ⟨by rfl, ?_⟩) (by assumption) ?_; rotate_left; (intro X hSw; (try dsimp only at hSw); go_simp; (try with_reducible rfl)); (try simp only [Act.put, List.setIfInBounds_toArray, List.set_cons_zero, List.set_cons_succ, List.getElem_toArray, List.getElem_cons_zero, List.getElem_cons_succ])) | fail "take 0"
      first | (refine wpAnyH_take (i := 1) (v := ?_) rfl (by kernel_rfl) (by kernel_rfl) (by kernel_rfl) (fun _ _ _ h => h) (Or.inl ⟨by rfl, ?_⟩) (by assumption) ?_; rotate_left; (intro X hSw; (try dsimp only at hSw); go_simp; (try with_reducible rfl)); (try simp only [Act.put, List.setIfInBounds_toArray, List.set_cons_zero, List.set_cons_succ, List.getElem_toArray, List.getElem_cons_zero, List.getElem_cons_succ])) | fail "take 1"
      refine wpAnyH_ready (rs := [2]) (by kernel_rfl) (by simp) ?_
      refine AllReadyH.cons rfl (fun K hK => ?_) AllReadyH.nil
      go_simp
      refine (waStacks_same _ _ _ _ _ _ _ _ _ _ _ _ _ _ _ SF SI _ (show Vals w4.drew _ _ _ _ from HQV.out) (show Nums .i64 w4.drew _ _ _ _ from HQN.out) (show Vals w4.drew _ _ _ _ from HRV.out) (show Nums .i64 w4.drew _ _ _ _ from HRN.out)).mono ?_
      rintro e w5 ⟨rfl, hb5⟩
      have HX5 := Lib.hid (HX.out.callD hb5)
      have HQ5 := Lib.hid (HQ.out.callD hb5)
      have HR5 := Lib.hid (HR.out.callD hb5)
      have HW5 := Lib.hid (v_below_callD HW.out hb5)
      obtain ⟨q0, q1, q2, q3, q4, q5, q6⟩ := HQ5.out.cells
      obtain ⟨r0, r1, r2, r3, r4, r5, r6⟩ := HR5.out.cells
      obtain ⟨x0, x1, x2, x3, x4, x5, x6⟩ := HX5.out.cells
      clear hb5
      (try dsimp only)
      refine hK.out _ _ (by refine ⟨⟨?_, ?_, ?_, ?_, ?_, ?_, ?_⟩, ⟨?_, ?_, ?_, ?_, ?_, ?_, ?_⟩, ⟨?_, ?_, ?_, ?_, ?_, ?_, ?_⟩⟩ <;> assumption) (fun hHeld => ?_)
      clear hK K
      (try simp only [Act.put, List.setIfInBounds_toArray, List.set_cons_zero, List.set_cons_succ, List.getElem_toArray, List.getElem_cons_zero, List.getElem_cons_succ])
      first | (refine wpAnyH_take (i := 3) (v := ?_) rfl (by kernel_rfl) (by kernel_rfl) (by kernel_rfl) (fun _ _ _ h => h) (Or.inl ⟨by rfl, ?_⟩) (by assumption) ?_; rotate_left; (intro X hSw; (try dsimp only at hSw); go_simp; (try with_reducible rfl)); (try simp only [Act.put, List.setIfInBounds_toArray, List.set_cons_zero, List.set_cons_succ, List.getElem_toArray, List.getElem_cons_zero, List.getElem_cons_succ])) | fail "take 3"
      first | (refine wpAnyH_take (i := 4) (v := ?_) rfl (by kernel_rfl) (by kernel_rfl) (by kernel_rfl) (fun _ _ _ h => h) (Or.inl ⟨by rfl, ?_⟩) (by assumption) ?_; rotate_left; (intro X hSw; (try dsimp only at hSw); go_simp; (try with_reducible rfl)); (try simp only [Act.put, List.setIfInBounds_toArray, List.set_cons_zero, List.set_cons_succ, List.getElem_toArray, List.getElem_cons_zero, List.getElem_cons_succ])) | fail "take 4"
      first | (refine wpAnyH_take (i := 5) (v := ?_) rfl (by kernel_rfl) (by kernel_rfl) (by kernel_rfl) (fun _ _ _ h => h) (Or.inl ⟨by rfl, ?_⟩) (by assumption) ?_; rotate_left; (intro X hSw; (try dsimp only at hSw); go_simp; (try with_reducible rfl)); (try simp only [Act.put, List.setIfInBounds_toArray, List.set_cons_zero, List.set_cons_succ, List.getElem_toArray, List.getElem_cons_zero, List.getElem_cons_succ])) | fail "take 5"
      first | (refine wpAnyH_take (i := 6) (v := ?_) rfl (by kernel_rfl) (by kernel_rfl) (by kernel_rfl) (fun _ _ _ h => h) (Or.inl ⟨by rfl, ?_⟩) (by assumption) ?_; rotate_left; (intro X hSw; (try dsimp only at hSw); go_simp; (try with_reducible rfl)); (try simp only [Act.put, List.setIfInBounds_toArray, List.set_cons_zero, List.set_cons_succ, List.getElem_toArray, List.getElem_cons_zero, List.getElem_cons_succ])) | fail "take 6"
      first | (refine wpAnyH_take (i := 7) (v := ?_) rfl (by kernel_rfl) (by kernel_rfl) (by kernel_rfl) (fun _ _ _ h => h) (Or.inl ⟨by rfl, ?_⟩) (by assumption) ?_; rotate_left; (intro X hSw; (try dsimp only at hSw); go_simp; (try with_reducible rfl)); (try simp only [Act.put, List.setIfInBounds_toArray, List.set_cons_zero, List.set_cons_succ, List.getElem_toArray, List.getElem_cons_zero, List.getElem_cons_succ])) | fail "take 7"
      first | (refine wpAnyH_take (i := 8) (v := ?_) rfl (by kernel_rfl) (by kernel_rfl) (by kernel_rfl) (fun _ _ _ h => h) (Or.inl ⟨by rfl, ?_⟩) (by assumption) ?_; rotate_left; (intro X hSw; (try dsimp only at hSw); go_simp; (try with_reducible rfl)); (try simp only [Act.put, List.setIfInBounds_toArray, List.set_cons_zero, List.set_cons_succ, List.getElem_toArray, List.getElem_cons_zero, List.getElem_cons_succ])) | fail "take 8"
      first | (refine wpAnyH_take (i := 9) (v := ?_) rfl (by kernel_rfl) (by kernel_rfl) (by kernel_rfl) (fun _ _ _ h => h) (Or.inl ⟨by rfl, ?_⟩) (by assumption) ?_; rotate_left; (intro X hSw; (try dsimp only at hSw); go_simp; (try with_reducible rfl)); (try simp only [Act.put, List.setIfInBounds_toArray, List.set_cons_zero, List.set_cons_succ, List.getElem_toArray, List.getElem_cons_zero, List.getElem_cons_succ])) | fail "take 9"
      first | (refine wpAnyH_take (i := 10) (v := ?_) rfl (by kernel_rfl) (by kernel_rfl) (by kernel_rfl) (fun _ _ _ h => h) (Or.inl ⟨by rfl, ?_⟩) (by assumption) ?_; rotate_left; (intro X hSw; (try dsimp only at hSw); go_simp; (try with_reducible rfl)); (try simp only [Act.put, List.setIfInBounds_toArray, List.set_cons_zero, List.set_cons_succ, List.getElem_toArray, List.getElem_cons_zero, List.getElem_cons_succ])) | fail "take 10"
      first | (refine wpAnyH_take (i := 11) (v := ?_) rfl (by kernel_rfl) (by kernel_rfl) (by kernel_rfl) (fun _ _ _ h => h) (Or.inl ⟨by rfl, ?_⟩) (by assumption) ?_; rotate_left; (intro X hSw; (try dsimp only at hSw); go_simp; (try with_reducible rfl)); (try simp only [Act.put, List.setIfInBounds_toArray, List.set_cons_zero, List.set_cons_succ, List.getElem_toArray, List.getElem_cons_zero, List.getElem_cons_succ])) | fail "take 11"
      first | (refine wpAnyH_take (i := 12) (v := undef) rfl (by kernel_rfl) (by kernel_rfl) (by kernel_rfl) (fun _ _ _ h => h) (Or.inr ⟨by rfl, rfl⟩) (by assumption) ?_; (try simp only [Act.put, List.setIfInBounds_toArray, List.set_cons_zero, List.set_cons_succ, List.getElem_toArray, List.getElem_cons_zero, List.getElem_cons_succ])) | fail "skip 12"
      first | (refine wpAnyH_take (i := 13) (v := undef) rfl (by kernel_rfl) (by kernel_rfl) (by kernel_rfl) (fun _ _ _ h => h) (Or.inr ⟨by rfl, rfl⟩) (by assumption) ?_; (try simp only [Act.put, List.setIfInBounds_toArray, List.set_cons_zero, List.set_cons_succ, List.getElem_toArray, List.getElem_cons_zero, List.getElem_cons_succ])) | fail "skip 13"
      first | (refine wpAnyH_take (i := 14) (v := undef) rfl (by kernel_rfl) (by kernel_rfl) (by kernel_rfl) (fun _ _ _ h => h) (Or.inr ⟨by rfl, rfl⟩) (by assumption) ?_; (try simp only [Act.put, List.setIfInBounds_toArray, List.set_cons_zero, List.set_cons_succ, List.getElem_toArray, List.getElem_cons_zero, List.getElem_cons_succ])) | fail "skip 14"
      first | (refine wpAnyH_take (i := 15) (v := undef) rfl (by kernel_rfl) (by kernel_rfl) (by kernel_rfl) (fun _ _ _ h => h) (Or.inr ⟨by rfl, rfl⟩) (by assumption) ?_; (try simp only [Act.put, List.setIfInBounds_toArray, List.set_cons_zero, List.set_cons_succ, List.getElem_toArray, List.getElem_cons_zero, List.getElem_cons_succ])) | fail "skip 15"
      first | (refine wpAnyH_take (i := 16) (v := undef) rfl (by kernel_rfl) (by kernel_rfl) (by kernel_rfl) (fun _ _ _ h => h) (Or.inr ⟨by rfl, rfl⟩) (by assumption) ?_; (try simp only [Act.put, List.setIfInBounds_toArray, List.set_cons_zero, List.set_cons_succ, List.getElem_toArray, List.getElem_cons_zero, List.getElem_cons_succ])) | fail "skip 16"
      first | (refine wpAnyH_take (i := 17) (v := undef) rfl (by kernel_rfl) (by kernel_rfl) (by kernel_rfl) (fun _ _ _ h => h) (Or.inr ⟨by rfl, rfl⟩) (by assumption) ?_; (try simp only [Act.put, List.setIfInBounds_toArray, List.set_cons_zero, List.set_cons_succ, List.getElem_toArray, List.getElem_cons_zero, List.getElem_cons_succ])) | fail "skip 17"
      first | (refine wpAnyH_take (i := 18) (v := ?_) rfl (by kernel_rfl) (by kernel_rfl) (by kernel_rfl) (fun _ _ _ h => h) (Or.inl ⟨by rfl, ?_⟩) (by assumption) ?_; rotate_left; (intro X hSw; (try dsimp only at hSw); go_simp; (try with_reducible rfl)); (try simp only [Act.put, List.setIfInBounds_toArray, List.set_cons_zero, List.set_cons_succ, List.getElem_toArray, List.getElem_cons_zero, List.getElem_cons_succ])) | fail "take 18"
      first | (refine wpAnyH_take (i := 19) (v := ?_) rfl (by kernel_rfl) (by kernel_rfl) (by kernel_rfl) (fun _ _ _ h => h) (Or.inl ⟨by rfl, ?_⟩) (by assumption) ?_; rotate_left; (intro X hSw; (try dsimp only at hSw); go_simp; (try with_reducible rfl)); (try simp only [Act.put, List.setIfInBounds_toArray, List.set_cons_zero, List.set_cons_succ, List.getElem_toArray, List.getElem_cons_zero, List.getElem_cons_succ])) | fail "take 19"
      first | (refine wpAnyH_take (i := 20) (v := ?_) rfl (by kernel_rfl) (by kernel_rfl) (by kernel_rfl) (fun _ _ _ h => h) (Or.inl ⟨by rfl, ?_⟩) (by assumption) ?_; rotate_left; (intro X hSw; (try dsimp only at hSw); go_simp; (try with_reducible rfl)); (try simp only [Act.put, List.setIfInBounds_toArray, List.set_cons_zero, List.set_cons_succ, List.getElem_toArray, List.getElem_cons_zero, List.getElem_cons_succ])) | fail "take 20"
      refine wpAnyH_done (by kernel_rfl) ?_ _
      go_wp2_with fail
      go_returns
      exact ⟨rfl, HW5.out⟩
    · obtain ⟨hz1, hz2⟩ := Agg.step_size HBB.out.symm
      obtain ⟨d0, d1, d2, d3, d4⟩ := Agg.stepOk_bounds HBB.out.symm
      rw [← Agg.aStep_of HBB.out.symm, ← HS.out] at hz1 hz2
      simp only at hz1 hz2 d0 d1 d2 d3 d4
      cases p
      · have hz := hz2 rfl
        clear hz1 hz2
        obtain ⟨r0, r1, r2, r3, r4, r5, r6⟩ := HR.out.cells
        have hwr : IntKind.i64.wrap ((F.length : Int) + (I.length : Int) - 1) = (F.length : Int) + (I.length : Int) - 1 := IntWalk.i64_in _ ⟨by omega, by omega⟩
        have g5 := fun w => stacksSize_any fa2 SF.length fc2 ia2 SI.length ic2 X Y Z SL SO w (by omega) (by omega)
        rw [show (SF.length : Int) + (SI.length : Int) = (F.length : Int) + (I.length : Int) - 1 by omega] at g5
        have G5 := Lib.hid g5
        clear g5
        have hsf : SF.length ≤ 60 := by omega
        have hsi : SI.length ≤ 60 := by omega
        clear hz d0 d1 d2 d3 d4
        go_wp2_with fail
        refine wp_region_held_drew (S := (fun U => (U.cell? ⟨w2.heap.size, 0, none⟩ = some (.slice fa2 SF.length fc2) ∧ U.cell? ⟨w2.heap.size, 1, none⟩ = some (.slice ia2 SI.length ic2) ∧ U.cell? ⟨w2.heap.size, 2, none⟩ = some (.int .i64 X) ∧ U.cell? ⟨w2.heap.size, 3, none⟩ = some (.int .i64 Y) ∧ U.cell? ⟨w2.heap.size, 4, none⟩ = some (.int .i64 Z) ∧ U.cell? ⟨w2.heap.size, 5, none⟩ = some (.int .i64 SL) ∧ U.cell? ⟨w2.heap.size, 6, none⟩ = some (.int .i64 SO)) ∧ (U.cell? ⟨w3.heap.size, 0, none⟩ = some (.slice fa3 SF.length fc3) ∧ U.cell? ⟨w3.heap.size, 1, none⟩ = some (.slice ia3 SI.length ic3) ∧ U.cell? ⟨w3.heap.size, 2, none⟩ = some (.int .i64 X) ∧ U.cell? ⟨w3.heap.size, 3, none⟩ = some (.int .i64 Y) ∧ U.cell? ⟨w3.heap.size, 4, none⟩ = some (.int .i64 Z) ∧ U.cell? ⟨w3.heap.size, 5, none⟩ = some (.int .i64 SL) ∧ U.cell? ⟨w3.heap.size, 6, none⟩ = some (.int .i64 SO)) ∧ (U.cell? ⟨w1.heap.size, 0, none⟩ = some (.slice fa F.length fc) ∧ U.cell? ⟨w1.heap.size, 1, none⟩ = some (.slice ia I.length ic) ∧ U.cell? ⟨w1.heap.size, 2, none⟩ = some (.int .i64 bx) ∧ U.cell? ⟨w1.heap.size, 3, none⟩ = some (.int .i64 by') ∧ U.cell? ⟨w1.heap.size, 4, none⟩ = some (.int .i64 bz) ∧ U.cell? ⟨w1.heap.size, 5, none⟩ = some (.int .i64 fl) ∧ U.cell? ⟨w1.heap.size, 6, none⟩ = some (.int .i64 co)))) (by kernel_rfl) (by refine ⟨⟨?_, ?_, ?_, ?_, ?_, ?_, ?_⟩, ⟨?_, ?_, ?_, ?_, ?_, ?_, ?_⟩, ⟨?_, ?_, ?_, ?_, ?_, ?_, ?_⟩⟩ <;> assumption) (fun hHeld => ?_)
        first | (refine wpAnyH_take (i := 0) (v := ?_) rfl (by kernel_rfl) (by kernel_rfl) (by kernel_rfl) (fun _ _ _ h => h) (Or.inl ⟨by rfl, ?_⟩) (by assumption) ?_; rotate_left; (intro X hSw; (try dsimp only at hSw); go_simp; (try with_reducible rfl)); (try simp only [Act.put, List.setIfInBounds_toArray, List.set_cons_zero, List.set_cons_succ, List.getElem_toArray, List.getElem_cons_zero, List.getElem_cons_succ])) | fail "take 0"
        first | (refine wpAnyH_take (i := 1) (v := ?_) rfl (by kernel_rfl) (by kernel_rfl) (by kernel_rfl) (fun _ _ _ h => h) (Or.inl ⟨by rfl, ?_⟩) (by assumption) ?_; rotate_left; (intro X hSw; (try dsimp only at hSw); go_simp; (try with_reducible rfl)); (try simp only [Act.put, List.setIfInBounds_toArray, List.set_cons_zero, List.set_cons_succ, List.getElem_toArray, List.getElem_cons_zero, List.getElem_cons_succ])) | fail "take 1"
        refine wpAnyH_ready (rs := [2]) (by kernel_rfl) (by simp) ?_
        refine AllReadyH.cons rfl (fun K hK => ?_) AllReadyH.nil
        go_simp
        refine (waStacks_same _ _ _ _ _ _ _ _ _ _ _ _ _ _ _ SF SI _ (show Vals w4.drew _ _ _ _ from HQV.out) (show Nums .i64 w4.drew _ _ _ _ from HQN.out) (show Vals w4.drew _ _ _ _ from HRV.out) (show Nums .i64 w4.drew _ _ _ _ from HRN.out)).mono ?_
        rintro e w5 ⟨rfl, hb5⟩
        have HX5 := Lib.hid (HX.out.callD hb5)
        have HQ5 := Lib.hid (HQ.out.callD hb5)
        have HR5 := Lib.hid (HR.out.callD hb5)
        have HW5 := Lib.hid (v_below_callD HW.out hb5)
        obtain ⟨q0, q1, q2, q3, q4, q5, q6⟩ := HQ5.out.cells
        obtain ⟨r0, r1, r2, r3, r4, r5, r6⟩ := HR5.out.cells
        obtain ⟨x0, x1, x2, x3, x4, x5, x6⟩ := HX5.out.cells
        clear hb5
        (try dsimp only)
        refine hK.out _ _ (by refine ⟨⟨?_, ?_, ?_, ?_, ?_, ?_, ?_⟩, ⟨?_, ?_, ?_, ?_, ?_, ?_, ?_⟩, ⟨?_, ?_, ?_, ?_, ?_, ?_, ?_⟩⟩ <;> assumption) (fun hHeld => ?_)
        clear hK K
        (try simp only [Act.put, List.setIfInBounds_toArray, List.set_cons_zero, List.set_cons_succ, List.getElem_toArray, List.getElem_cons_zero, List.getElem_cons_succ])
        first | (refine wpAnyH_take (i := 3) (v := ?_) rfl (by kernel_rfl) (by kernel_rfl) (by kernel_rfl) (fun _ _ _ h => h) (Or.inl ⟨by rfl, ?_⟩) (by assumption) ?_; rotate_left; (intro X hSw; (try dsimp only at hSw); go_simp; (try with_reducible rfl)); (try simp only [Act.put, List.setIfInBounds_toArray, List.set_cons_zero, List.set_cons_succ, List.getElem_toArray, List.getElem_cons_zero, List.getElem_cons_succ])) | fail "take 3"
        first | (refine wpAnyH_take (i := 4) (v := ?_) rfl (by kernel_rfl) (by kernel_rfl) (by kernel_rfl) (fun _ _ _ h => h) (Or.inl ⟨by rfl, ?_⟩) (by assumption) ?_; rotate_left; (intro X hSw; (try dsimp only at hSw); go_simp; (try with_reducible rfl)); (try simp only [Act.put, List.setIfInBounds_toArray, List.set_cons_zero, List.set_cons_succ, List.getElem_toArray, List.getElem_cons_zero, List.getElem_cons_succ])) | fail "take 4"
        first | (refine wpAnyH_take (i := 5) (v := ?_) rfl (by kernel_rfl) (by kernel_rfl) (by kernel_rfl) (fun _ _ _ h => h) (Or.inl ⟨by rfl, ?_⟩) (by assumption) ?_; rotate_left; (intro X hSw; (try dsimp only at hSw); go_simp; (try with_reducible rfl)); (try simp only [Act.put, List.setIfInBounds_toArray, List.set_cons_zero, List.set_cons_succ, List.getElem_toArray, List.getElem_cons_zero, List.getElem_cons_succ])) | fail "take 5"
        first | (refine wpAnyH_take (i := 6) (v := ?_) rfl (by kernel_rfl) (by kernel_rfl) (by kernel_rfl) (fun _ _ _ h => h) (Or.inl ⟨by rfl, ?_⟩) (by assumption) ?_; rotate_left; (intro X hSw; (try dsimp only at hSw); go_simp; (try with_reducible rfl)); (try simp only [Act.put, List.setIfInBounds_toArray, List.set_cons_zero, List.set_cons_succ, List.getElem_toArray, List.getElem_cons_zero, List.getElem_cons_succ])) | fail "take 6"
        first | (refine wpAnyH_take (i := 7) (v := ?_) rfl (by kernel_rfl) (by kernel_rfl) (by kernel_rfl) (fun _ _ _ h => h) (Or.inl ⟨by rfl, ?_⟩) (by assumption) ?_; rotate_left; (intro X hSw; (try dsimp only at hSw); go_simp; (try with_reducible rfl)); (try simp only [Act.put, List.setIfInBounds_toArray, List.set_cons_zero, List.set_cons_succ, List.getElem_toArray, List.getElem_cons_zero, List.getElem_cons_succ])) | fail "take 7"
        first | (refine wpAnyH_take (i := 8) (v := ?_) rfl (by kernel_rfl) (by kernel_rfl) (by kernel_rfl) (fun _ _ _ h => h) (Or.inl ⟨by rfl, ?_⟩) (by assumption) ?_; rotate_left; (intro X hSw; (try dsimp only at hSw); go_simp; (try with_reducible rfl)); (try simp only [Act.put, List.setIfInBounds_toArray, List.set_cons_zero, List.set_cons_succ, List.getElem_toArray, List.getElem_cons_zero, List.getElem_cons_succ])) | fail "take 8"
        first | (refine wpAnyH_take (i := 9) (v := ?_) rfl (by kernel_rfl) (by kernel_rfl) (by kernel_rfl) (fun _ _ _ h => h) (Or.inl ⟨by rfl, ?_⟩) (by assumption) ?_; rotate_left; (intro X hSw; (try dsimp only at hSw); go_simp; (try with_reducible rfl)); (try simp only [Act.put, List.setIfInBounds_toArray, List.set_cons_zero, List.set_cons_succ, List.getElem_toArray, List.getElem_cons_zero, List.getElem_cons_succ])) | fail "take 9"
        first | (refine wpAnyH_take (i := 10) (v := ?_) rfl (by kernel_rfl) (by kernel_rfl) (by kernel_rfl) (fun _ _ _ h => h) (Or.inl ⟨by rfl, ?_⟩) (by assumption) ?_; rotate_left; (intro X hSw; (try dsimp only at hSw); go_simp; (try with_reducible rfl)); (try simp only [Act.put, List.setIfInBounds_toArray, List.set_cons_zero, List.set_cons_succ, List.getElem_toArray, List.getElem_cons_zero, List.getElem_cons_succ])) | fail "take 10"
        first | (refine wpAnyH_take (i := 11) (v := ?_) rfl (by kernel_rfl) (by kernel_rfl) (by kernel_rfl) (fun _ _ _ h => h) (Or.inl ⟨by rfl, ?_⟩) (by assumption) ?_; rotate_left; (intro X hSw; (try dsimp only at hSw); go_simp; (try with_reducible rfl)); (try simp only [Act.put, List.setIfInBounds_toArray, List.set_cons_zero, List.set_cons_succ, List.getElem_toArray, List.getElem_cons_zero, List.getElem_cons_succ])) | fail "take 11"
        first | (refine wpAnyH_take (i := 12) (v := ?_) rfl (by kernel_rfl) (by kernel_rfl) (by kernel_rfl) (fun _ _ _ h => h) (Or.inl ⟨by rfl, ?_⟩) (by assumption) ?_; rotate_left; (intro X hSw; (try dsimp only at hSw); go_simp; (try with_reducible rfl)); (try simp only [Act.put, List.setIfInBounds_toArray, List.set_cons_zero, List.set_cons_succ, List.getElem_toArray, List.getElem_cons_zero, List.getElem_cons_succ])) | fail "take 12"
        first | (refine wpAnyH_take (i := 14) (v := ?_) rfl (by kernel_rfl) (by kernel_rfl) (by kernel_rfl) (fun _ _ _ h => h) (Or.inl ⟨by rfl, ?_⟩) (by assumption) ?_; rotate_left; (intro X hSw; (try dsimp only at hSw); go_simp; (try with_reducible rfl)); (try simp only [Act.put, List.setIfInBounds_toArray, List.set_cons_zero, List.set_cons_succ, List.getElem_toArray, List.getElem_cons_zero, List.getElem_cons_succ])) | fail "take 14"
        refine wpAnyH_ready (rs := [13]) (by kernel_rfl) (by simp) ?_
        refine AllReadyH.cons rfl (fun K hK => ?_) AllReadyH.nil
        go_simp
        refine (G5.out _).mono ?_
        rintro e w6 ⟨rfl, hb6⟩
        have HW6 := Lib.hid (HW5.out.trans (hb6.mono HW5.out.size))
        have HX6 := Lib.hid (HX5.out.call hb6)
        have HQ6 := Lib.hid (HQ5.out.call hb6)
        have HR6 := Lib.hid (HR5.out.call hb6)
        obtain ⟨x0, x1, x2, x3, x4, x5, x6⟩ := HX6.out.cells
        obtain ⟨q0, q1, q2, q3, q4, q5, q6⟩ := HQ6.out.cells
        obtain ⟨r0, r1, r2, r3, r4, r5, r6⟩ := HR6.out.cells
        clear hb6
        (try dsimp only)
        refine hK.out _ _ (by refine ⟨⟨?_, ?_, ?_, ?_, ?_, ?_, ?_⟩, ⟨?_, ?_, ?_, ?_, ?_, ?_, ?_⟩, ⟨?_, ?_, ?_, ?_, ?_, ?_, ?_⟩⟩ <;> assumption) (fun hHeld => ?_)
        clear hK K
        (try simp only [Act.put, List.setIfInBounds_toArray, List.set_cons_zero, List.set_cons_succ, List.getElem_toArray, List.getElem_cons_zero, List.getElem_cons_succ])
        refine wpAnyH_ready (rs := [15]) (by kernel_rfl) (by simp) ?_
        refine AllReadyH.cons rfl (fun K hK => ?_) AllReadyH.nil
        go_simp
        refine (stacksSize_any fa F.length fc ia I.length ic bx by' bz fl co _ (by omega) (by omega)).mono ?_
        rintro e w7 ⟨rfl, hb7⟩
        have HW7 := Lib.hid (HW6.out.trans (hb7.mono HW6.out.size))
        have HX7 := Lib.hid (HX6.out.call hb7)
        have HQ7 := Lib.hid (HQ6.out.call hb7)
        have HR7 := Lib.hid (HR6.out.call hb7)
        obtain ⟨x0, x1, x2, x3, x4, x5, x6⟩ := HX7.out.cells
        obtain ⟨q0, q1, q2, q3, q4, q5, q6⟩ := HQ7.out.cells
        obtain ⟨r0, r1, r2, r3, r4, r5, r6⟩ := HR7.out.cells
        clear hb7
        (try dsimp only)
        refine hK.out _ _ (by refine ⟨⟨?_, ?_, ?_, ?_, ?_, ?_, ?_⟩, ⟨?_, ?_, ?_, ?_, ?_, ?_, ?_⟩, ⟨?_, ?_, ?_, ?_, ?_, ?_, ?_⟩⟩ <;> assumption) (fun hHeld => ?_)
        clear hK K
        (try simp only [Act.put, List.setIfInBounds_toArray, List.set_cons_zero, List.set_cons_succ, List.getElem_toArray, List.getElem_cons_zero, List.getElem_cons_succ])
        first | (refine wpAnyH_take (i := 16) (v := ?_) rfl (by kernel_rfl) (by kernel_rfl) (by kernel_rfl) (fun _ _ _ h => h) (Or.inl ⟨by rfl, ?_⟩) (by assumption) ?_; rotate_left; (intro X hSw; (try dsimp only at hSw); go_simp; (try with_reducible rfl)); (try simp only [Act.put, List.setIfInBounds_toArray, List.set_cons_zero, List.set_cons_succ, List.getElem_toArray, List.getElem_cons_zero, List.getElem_cons_succ])) | fail "take 16"
        first | (refine wpAnyH_take (i := 17) (v := ?_) rfl (by kernel_rfl) (by kernel_rfl) (by kernel_rfl) (fun _ _ _ h => h) (Or.inl ⟨by rfl, ?_⟩) (by assumption) ?_; rotate_left; (intro X hSw; (try dsimp only at hSw); go_simp; (try with_reducible rfl)); (try simp only [Act.put, List.setIfInBounds_toArray, List.set_cons_zero, List.set_cons_succ, List.getElem_toArray, List.getElem_cons_zero, List.getElem_cons_succ])) | fail "take 17"
        first | (refine wpAnyH_take (i := 18) (v := ?_) rfl (by kernel_rfl) (by kernel_rfl) (by kernel_rfl) (fun _ _ _ h => h) (Or.inl ⟨by rfl, ?_⟩) (by assumption) ?_; rotate_left; (intro X hSw; (try dsimp only at hSw); go_simp; (try with_reducible rfl)); (try simp only [Act.put, List.setIfInBounds_toArray, List.set_cons_zero, List.set_cons_succ, List.getElem_toArray, List.getElem_cons_zero, List.getElem_cons_succ])) | fail "take 18"
        first | (refine wpAnyH_take (i := 19) (v := ?_) rfl (by kernel_rfl) (by kernel_rfl) (by kernel_rfl) (fun _ _ _ h => h) (Or.inl ⟨by rfl, ?_⟩) (by assumption) ?_; rotate_left; (intro X hSw; (try dsimp only at hSw); go_simp; (try with_reducible rfl)); (try simp only [Act.put, List.setIfInBounds_toArray, List.set_cons_zero, List.set_cons_succ, List.getElem_toArray, List.getElem_cons_zero, List.getElem_cons_succ])) | fail "take 19"
        first | (refine wpAnyH_take (i := 20) (v := ?_) rfl (by kernel_rfl) (by kernel_rfl) (by kernel_rfl) (fun _ _ _ h => h) (Or.inl ⟨by rfl, ?_⟩) (by assumption) ?_; rotate_left; (intro X hSw; (try dsimp only at hSw); go_simp; (try with_reducible rfl)); (try simp only [Act.put, List.setIfInBounds_toArray, List.set_cons_zero, List.set_cons_succ, List.getElem_toArray, List.getElem_cons_zero, List.getElem_cons_succ])) | fail "take 20"
        refine wpAnyH_done (by kernel_rfl) ?_ _
        go_wp2_with fail
        go_returns
        exact ⟨by first | rfl | (simp; done), HW7.out⟩
      · have hz := hz1 rfl
        clear hz1 hz2 HRV HRN HR
        obtain ⟨⟨⟨v1', v2', v3'⟩, va⟩, hva⟩ : ∃ z, z = Agg.aValS k ⟨F, I, ⟨bx, by', bz⟩, fl, co⟩ := ⟨_, rfl⟩
        obtain ⟨⟨⟨l1, l2, l3⟩, vl⟩, hvl⟩ : ∃ z, z = Agg.aLift k x := ⟨_, rfl⟩
        obtain ⟨⟨⟨u1, u2, u3⟩, vb⟩, hvb⟩ : ∃ z, z = Agg.aValS k ⟨SF, SI, ⟨X, Y, Z⟩, SL, SO⟩ := ⟨_, rfl⟩
        obtain ⟨⟨⟨c1, c2, c3⟩, vd⟩, hvd⟩ : ∃ z, z = Agg.aComb k ⟨v1', v2', v3'⟩ ⟨l1, l2, l3⟩ := ⟨_, rfl⟩
        have g1 := fun w h h' => stacksValue_any k fa F.length fc ia I.length ic bx by' bz fl co F I w h h' (by omega) (by omega)
        have g2 := fun w => liftItem_any k x w
        have g3 := fun w h h' => stacksValue_any k fa2 SF.length fc2 ia2 SI.length ic2 X Y Z SL SO SF SI w h h' (by omega) (by omega)
        have g4 := fun w => combineValues_any k v1' v2' v3' l1 l2 l3 w
        have hsame : va = true → vb = true → vd = true → (⟨u1, u2, u3⟩ : Agg.V) = ⟨c1, c2, c3⟩ := by
          rintro rfl rfl rfl
          refine Agg.push_value HBB.out.symm hva (hvb.trans ?_) (by rw [← hvl]) hvd
          rw [HS.out, Agg.aStep_of HBB.out.symm]
        rw [← hva] at g1
        rw [← hvl] at g2
        rw [← hvb] at g3
        rw [← hvd] at g4
        have G1 := Lib.hid g1
        have G2 := Lib.hid g2
        have G3 := Lib.hid g3
        have G4 := Lib.hid g4
        have HSAME := Lib.hid hsame
        clear g1 g2 g3 g4 hsame hva hvl hvb hvd HBB HS
        go_wp2_with fail
        refine (G1.out _ HV.out HN.out).mono ?_
        rintro e w5 ⟨rfl, hb5⟩
        obtain ⟨W5, hW5⟩ : ∃ W5, W5 = w5.alloc (.cells #[.int .i64 v1', .int .i64 v2', .int .i64 v3'] 29) := ⟨_, rfl⟩
        have hb55 : Below w5.heap.size w5 W5 := by rw [hW5]; exact (Below.refl _ _).alloc (Nat.le_refl _) _
        have HVV := Lib.hid (show Box W5 w5.heap.size 29 v1' v2' v3' from by rw [hW5]; exact Box.new _ _ _ _ _)
        have hbb5 := hb5.trans (hb55.mono hb5.size)
        have HX := Lib.hid (HX.out.call hbb5)
        have HP := Lib.hid (HP.out.call hbb5)
        have HQ := Lib.hid (HQ.out.call hbb5)
        have HW := Lib.hid (HW.out.trans (hbb5.mono HW.out.size))
        have HQV := Lib.hid (HQV.out.below hbb5)
        have HQN := Lib.hid (HQN.out.below hbb5)
        clear hb5 hb55 hbb5
        try clear q0 q1 q2 q3 q4 q5 q6
        try clear x0 x1 x2 x3 x4 x5 x6
        try clear p0 p1
        try clear v0 v1 v2
        try clear l0 l1' l2'
        go_upto_region 9 with (fail)
        rw [← hW5]
        clear hW5
        obtain ⟨p0, p1⟩ := HP.out.cells
        go_wp2_with fail
        refine (G2.out _).mono ?_
        rintro e w6 ⟨rfl, hb6⟩
        obtain ⟨W6, hW6⟩ : ∃ W6, W6 = w6.alloc (.cells #[.int .i64 l1, .int .i64 l2, .int .i64 l3] 29) := ⟨_, rfl⟩
        have hb66 : Below w6.heap.size w6 W6 := by rw [hW6]; exact (Below.refl _ _).alloc (Nat.le_refl _) _
        have HL := Lib.hid (show Box W6 w6.heap.size 29 l1 l2 l3 from by rw [hW6]; exact Box.new _ _ _ _ _)
        have hbb6 := hb6.trans (hb66.mono hb6.size)
        have HX := Lib.hid (HX.out.call hbb6)
        have HQ := Lib.hid (HQ.out.call hbb6)
        have HW := Lib.hid (HW.out.trans (hbb6.mono HW.out.size))
        have HQV := Lib.hid (HQV.out.below hbb6)
        have HQN := Lib.hid (HQN.out.below hbb6)
        have HVV := Lib.hid (HVV.out.call hbb6)
        clear hb6 hb66 hbb6
        try clear q0 q1 q2 q3 q4 q5 q6
        try clear x0 x1 x2 x3 x4 x5 x6
        try clear p0 p1
        try clear v0 v1 v2
        try clear l0 l1' l2'
        go_upto_region 10 with (fail)
        rw [← hW6]
        clear hW6
        obtain ⟨q0, q1, q2, q3, q4, q5, q6⟩ := HQ.out.cells
        go_wp2_with fail
        refine (G3.out _ HQV.out HQN.out).mono ?_
        rintro e w7 ⟨rfl, hb7⟩
        obtain ⟨W7, hW7⟩ : ∃ W7, W7 = w7.alloc (.cells #[.int .i64 u1, .int .i64 u2, .int .i64 u3] 29) := ⟨_, rfl⟩
        have hb77 : Below w7.heap.size w7 W7 := by rw [hW7]; exact (Below.refl _ _).alloc (Nat.le_refl _) _
        have HU := Lib.hid (show Box W7 w7.heap.size 29 u1 u2 u3 from by rw [hW7]; exact Box.new _ _ _ _ _)
        have hbb7 := hb7.trans (hb77.mono hb7.size)
        have HX := Lib.hid (HX.out.call hbb7)
        have HQ := Lib.hid (HQ.out.call hbb7)
        have HW := Lib.hid (HW.out.trans (hbb7.mono HW.out.size))
        have HVV := Lib.hid (HVV.out.call hbb7)
        have HL := Lib.hid (HL.out.call hbb7)
        clear hb7 hb77 hbb7
        try clear q0 q1 q2 q3 q4 q5 q6
        try clear x0 x1 x2 x3 x4 x5 x6
        try clear p0 p1
        try clear v0 v1 v2
        try clear l0 l1' l2'
        go_upto_region 11 with (fail)
        rw [← hW7]
        clear hW7
        obtain ⟨v0, v1, v2⟩ := HVV.out.cells
        obtain ⟨l0, l1', l2'⟩ := HL.out.cells
        go_wp2_with fail
        refine (G4.out _).mono ?_
        rintro e w8 ⟨rfl, hb8⟩
        obtain ⟨W8, hW8⟩ : ∃ W8, W8 = w8.alloc (.cells #[.int .i64 c1, .int .i64 c2, .int .i64 c3] 29) := ⟨_, rfl⟩
        have hb88 : Below w8.heap.size w8 W8 := by rw [hW8]; exact (Below.refl _ _).alloc (Nat.le_refl _) _
        have HC := Lib.hid (show Box W8 w8.heap.size 29 c1 c2 c3 from by rw [hW8]; exact Box.new _ _ _ _ _)
        have hbb8 := hb8.trans (hb88.mono hb8.size)
        have HX := Lib.hid (HX.out.call hbb8)
        have HQ := Lib.hid (HQ.out.call hbb8)
        have HW := Lib.hid (HW.out.trans (hbb8.mono HW.out.size))
        have HU := Lib.hid (HU.out.call hbb8)
        clear hb8 hb88 hbb8
        try clear q0 q1 q2 q3 q4 q5 q6
        try clear x0 x1 x2 x3 x4 x5 x6
        try clear p0 p1
        try clear v0 v1 v2
        try clear l0 l1' l2'
        go_upto_region 12 with (fail)
        rw [← hW8]
        clear hW8
        obtain ⟨q0, q1, q2, q3, q4, q5, q6⟩ := HQ.out.cells
        obtain ⟨x0, x1, x2, x3, x4, x5, x6⟩ := HX.out.cells
        obtain ⟨u0, u1', u2'⟩ := HU.out.cells
        obtain ⟨c0, c1', c2'⟩ := HC.out.cells
        have hwr : IntKind.i64.wrap ((F.length : Int) + (I.length : Int) + 1) = (F.length : Int) + (I.length : Int) + 1 := IntWalk.i64_in _ ⟨by omega, by omega⟩
        have g5 := fun w => stacksSize_any fa2 SF.length fc2 ia2 SI.length ic2 X Y Z SL SO w (by omega) (by omega)
        rw [show (SF.length : Int) + (SI.length : Int) = (F.length : Int) + (I.length : Int) + 1 by omega] at g5
        have G5 := Lib.hid g5
        clear g5
        have hsf : SF.length ≤ 61 := by omega
        have hsi : SI.length ≤ 61 := by omega
        clear hz d0 d1 d2 d3 d4 HQV HQN
        cases va
        · go_wp2_with fail
          refine wp_region_held_drew (S := (fun U => (U.cell? ⟨w2.heap.size, 0, none⟩ = some (.slice fa2 SF.length fc2) ∧ U.cell? ⟨w2.heap.size, 1, none⟩ = some (.slice ia2 SI.length ic2) ∧ U.cell? ⟨w2.heap.size, 2, none⟩ = some (.int .i64 X) ∧ U.cell? ⟨w2.heap.size, 3, none⟩ = some (.int .i64 Y) ∧ U.cell? ⟨w2.heap.size, 4, none⟩ = some (.int .i64 Z) ∧ U.cell? ⟨w2.heap.size, 5, none⟩ = some (.int .i64 SL) ∧ U.cell? ⟨w2.heap.size, 6, none⟩ = some (.int .i64 SO)) ∧ (U.cell? ⟨w1.heap.size, 0, none⟩ = some (.slice fa F.length fc) ∧ U.cell? ⟨w1.heap.size, 1, none⟩ = some (.slice ia I.length ic) ∧ U.cell? ⟨w1.heap.size, 2, none⟩ = some (.int .i64 bx) ∧ U.cell? ⟨w1.heap.size, 3, none⟩ = some (.int .i64 by') ∧ U.cell? ⟨w1.heap.size, 4, none⟩ = some (.int .i64 bz) ∧ U.cell? ⟨w1.heap.size, 5, none⟩ = some (.int .i64 fl) ∧ U.cell? ⟨w1.heap.size, 6, none⟩ = some (.int .i64 co)) ∧ (U.cell? ⟨w7.heap.size, 0, none⟩ = some (.int .i64 u1) ∧ U.cell? ⟨w7.heap.size, 1, none⟩ = some (.int .i64 u2) ∧ U.cell? ⟨w7.heap.size, 2, none⟩ = some (.int .i64 u3)) ∧ (U.cell? ⟨w8.heap.size, 0, none⟩ = some (.int .i64 c1) ∧ U.cell? ⟨w8.heap.size, 1, none⟩ = some (.int .i64 c2) ∧ U.cell? ⟨w8.heap.size, 2, none⟩ = some (.int .i64 c3)))) (by kernel_rfl) (by refine ⟨⟨?_, ?_, ?_, ?_, ?_, ?_, ?_⟩, ⟨?_, ?_, ?_, ?_, ?_, ?_, ?_⟩, ⟨?_, ?_, ?_⟩, ?_, ?_, ?_⟩ <;> assumption) (fun hHeld => ?_)
          first | (refine wpAnyH_take (i := 0) (v := ?_) rfl (by kernel_rfl) (by kernel_rfl) (by kernel_rfl) (fun _ _ _ h => h) (Or.inl ⟨by rfl, ?_⟩) (by assumption) ?_; rotate_left; (intro X hSw; (try dsimp only at hSw); go_simp; (try with_reducible rfl)); (try simp only [Act.put, List.setIfInBounds_toArray, List.set_cons_zero, List.set_cons_succ, List.getElem_toArray, List.getElem_cons_zero, List.getElem_cons_succ])) | fail "take 0"
          first | (refine wpAnyH_take (i := 2) (v := ?_) rfl (by kernel_rfl) (by kernel_rfl) (by kernel_rfl) (fun _ _ _ h => h) (Or.inl ⟨by rfl, ?_⟩) (by assumption) ?_; rotate_left; (intro X hSw; (try dsimp only at hSw); go_simp; (try with_reducible rfl)); (try simp only [Act.put, List.setIfInBounds_toArray, List.set_cons_zero, List.set_cons_succ, List.getElem_toArray, List.getElem_cons_zero, List.getElem_cons_succ])) | fail "take 2"
          refine wpAnyH_ready (rs := [1]) (by kernel_rfl) (by simp) ?_
          refine AllReadyH.cons rfl (fun K hK => ?_) AllReadyH.nil
          go_simp
          refine (G5.out _).mono ?_
          rintro e w10 ⟨rfl, hb10⟩
          have HX10 := Lib.hid (HX.out.callD hb10)
          have HQ10 := Lib.hid (HQ.out.callD hb10)
          have HU10 := Lib.hid (HU.out.callD hb10)
          have HC10 := Lib.hid (HC.out.callD hb10)
          have HW10 := Lib.hid (v_below_callD HW.out hb10)
          obtain ⟨x0, x1, x2, x3, x4, x5, x6⟩ := HX10.out.cells
          obtain ⟨q0, q1, q2, q3, q4, q5, q6⟩ := HQ10.out.cells
          obtain ⟨u0, u1', u2'⟩ := HU10.out.cells
          obtain ⟨c0, c1', c2'⟩ := HC10.out.cells
          clear hb10
          (try dsimp only)
          refine hK.out _ _ (by refine ⟨⟨?_, ?_, ?_, ?_, ?_, ?_, ?_⟩, ⟨?_, ?_, ?_, ?_, ?_, ?_, ?_⟩, ⟨?_, ?_, ?_⟩, ?_, ?_, ?_⟩ <;> assumption) (fun hHeld => ?_)
          clear hK K
          (try simp only [Act.put, List.setIfInBounds_toArray, List.set_cons_zero, List.set_cons_succ, List.getElem_toArray, List.getElem_cons_zero, List.getElem_cons_succ])
          refine wpAnyH_ready (rs := [3]) (by kernel_rfl) (by simp) ?_
          refine AllReadyH.cons rfl (fun K hK => ?_) AllReadyH.nil
          go_simp
          refine (stacksSize_any fa F.length fc ia I.length ic bx by' bz fl co _ (by omega) (by omega)).mono ?_
          rintro e w11 ⟨rfl, hb11⟩
          have HW11 := Lib.hid (HW10.out.trans (hb11.mono HW10.out.size))
          have HX11 := Lib.hid (HX10.out.call hb11)
          have HQ11 := Lib.hid (HQ10.out.call hb11)
          have HU11 := Lib.hid (HU10.out.call hb11)
          have HC11 := Lib.hid (HC10.out.call hb11)
          obtain ⟨x0, x1, x2, x3, x4, x5, x6⟩ := HX11.out.cells
          obtain ⟨q0, q1, q2, q3, q4, q5, q6⟩ := HQ11.out.cells
          obtain ⟨u0, u1', u2'⟩ := HU11.out.cells
          obtain ⟨c0, c1', c2'⟩ := HC11.out.cells
          clear hb11
          (try dsimp only)
          refine hK.out _ _ (by refine ⟨⟨?_, ?_, ?_, ?_, ?_, ?_, ?_⟩, ⟨?_, ?_, ?_, ?_, ?_, ?_, ?_⟩, ⟨?_, ?_, ?_⟩, ?_, ?_, ?_⟩ <;> assumption) (fun hHeld => ?_)
          clear hK K
          (try simp only [Act.put, List.setIfInBounds_toArray, List.set_cons_zero, List.set_cons_succ, List.getElem_toArray, List.getElem_cons_zero, List.getElem_cons_succ])
          first | (refine wpAnyH_take (i := 4) (v := ?_) rfl (by kernel_rfl) (by kernel_rfl) (by kernel_rfl) (fun _ _ _ h => h) (Or.inl ⟨by rfl, ?_⟩) (by assumption) ?_; rotate_left; (intro X hSw; (try dsimp only at hSw); go_simp; (try with_reducible rfl)); (try simp only [Act.put, List.setIfInBounds_toArray, List.set_cons_zero, List.set_cons_succ, List.getElem_toArray, List.getElem_cons_zero, List.getElem_cons_succ])) | fail "take 4"
          first | (refine wpAnyH_take (i := 5) (v := ?_) rfl (by kernel_rfl) (by kernel_rfl) (by kernel_rfl) (fun _ _ _ h => h) (Or.inl ⟨by rfl, ?_⟩) (by assumption) ?_; rotate_left; (intro X hSw; (try dsimp only at hSw); go_simp; (try with_reducible rfl)); (try simp only [Act.put, List.setIfInBounds_toArray, List.set_cons_zero, List.set_cons_succ, List.getElem_toArray, List.getElem_cons_zero, List.getElem_cons_succ])) | fail "take 5"
          first | (refine wpAnyH_take (i := 6) (v := ?_) rfl (by kernel_rfl) (by kernel_rfl) (by kernel_rfl) (fun _ _ _ h => h) (Or.inl ⟨by rfl, ?_⟩) (by assumption) ?_; rotate_left; (intro X hSw; (try dsimp only at hSw); go_simp; (try with_reducible rfl)); (try simp only [Act.put, List.setIfInBounds_toArray, List.set_cons_zero, List.set_cons_succ, List.getElem_toArray, List.getElem_cons_zero, List.getElem_cons_succ])) | fail "take 6"
          first | (refine wpAnyH_take (i := 7) (v := ?_) rfl (by kernel_rfl) (by kernel_rfl) (by kernel_rfl) (fun _ _ _ h => h) (Or.inl ⟨by rfl, ?_⟩) (by assumption) ?_; rotate_left; (intro X hSw; (try dsimp only at hSw); go_simp; (try with_reducible rfl)); (try simp only [Act.put, List.setIfInBounds_toArray, List.set_cons_zero, List.set_cons_succ, List.getElem_toArray, List.getElem_cons_zero, List.getElem_cons_succ])) | fail "take 7"
          first | (refine wpAnyH_take (i := 8) (v := ?_) rfl (by kernel_rfl) (by kernel_rfl) (by kernel_rfl) (fun _ _ _ h => h) (Or.inl ⟨by rfl, ?_⟩) (by assumption) ?_; rotate_left; (intro X hSw; (try dsimp only at hSw); go_simp; (try with_reducible rfl)); (try simp only [Act.put, List.setIfInBounds_toArray, List.set_cons_zero, List.set_cons_succ, List.getElem_toArray, List.getElem_cons_zero, List.getElem_cons_succ])) | fail "take 8"
          first | (refine wpAnyH_take (i := 9) (v := ?_) rfl (by kernel_rfl) (by kernel_rfl) (by kernel_rfl) (fun _ _ _ h => h) (Or.inl ⟨by rfl, ?_⟩) (by assumption) ?_; rotate_left; (intro X hSw; (try dsimp only at hSw); go_simp; (try with_reducible rfl)); (try simp only [Act.put, List.setIfInBounds_toArray, List.set_cons_zero, List.set_cons_succ, List.getElem_toArray, List.getElem_cons_zero, List.getElem_cons_succ])) | fail "take 9"
          first | (refine wpAnyH_take (i := 10) (v := undef) rfl (by kernel_rfl) (by kernel_rfl) (by kernel_rfl) (fun _ _ _ h => h) (Or.inr ⟨by rfl, rfl⟩) (by assumption) ?_; (try simp only [Act.put, List.setIfInBounds_toArray, List.set_cons_zero, List.set_cons_succ, List.getElem_toArray, List.getElem_cons_zero, List.getElem_cons_succ])) | fail "skip 10"
          first | (refine wpAnyH_take (i := 11) (v := undef) rfl (by kernel_rfl) (by kernel_rfl) (by kernel_rfl) (fun _ _ _ h => h) (Or.inr ⟨by rfl, rfl⟩) (by assumption) ?_; (try simp only [Act.put, List.setIfInBounds_toArray, List.set_cons_zero, List.set_cons_succ, List.getElem_toArray, List.getElem_cons_zero, List.getElem_cons_succ])) | fail "skip 11"
          first | (refine wpAnyH_take (i := 12) (v := ?_) rfl (by kernel_rfl) (by kernel_rfl) (by kernel_rfl) (fun _ _ _ h => h) (Or.inl ⟨by rfl, ?_⟩) (by assumption) ?_; rotate_left; (intro X hSw; (try dsimp only at hSw); go_simp; (try with_reducible rfl)); (try simp only [Act.put, List.setIfInBounds_toArray, List.set_cons_zero, List.set_cons_succ, List.getElem_toArray, List.getElem_cons_zero, List.getElem_cons_succ])) | fail "take 12"
          first | (refine wpAnyH_take (i := 13) (v := ?_) rfl (by kernel_rfl) (by kernel_rfl) (by kernel_rfl) (fun _ _ _ h => h) (Or.inl ⟨by rfl, ?_⟩) (by assumption) ?_; rotate_left; (intro X hSw; (try dsimp only at hSw); go_simp; (try with_reducible rfl)); (try simp only [Act.put, List.setIfInBounds_toArray, List.set_cons_zero, List.set_cons_succ, List.getElem_toArray, List.getElem_cons_zero, List.getElem_cons_succ])) | fail "take 13"
          first | (refine wpAnyH_take (i := 14) (v := undef) rfl (by kernel_rfl) (by kernel_rfl) (by kernel_rfl) (fun _ _ _ h => h) (Or.inr ⟨by rfl, rfl⟩) (by assumption) ?_; (try simp only [Act.put, List.setIfInBounds_toArray, List.set_cons_zero, List.set_cons_succ, List.getElem_toArray, List.getElem_cons_zero, List.getElem_cons_succ])) | fail "skip 14"
          first | (refine wpAnyH_take (i := 15) (v := undef) rfl (by kernel_rfl) (by kernel_rfl) (by kernel_rfl) (fun _ _ _ h => h) (Or.inr ⟨by rfl, rfl⟩) (by assumption) ?_; (try simp only [Act.put, List.setIfInBounds_toArray, List.set_cons_zero, List.set_cons_succ, List.getElem_toArray, List.getElem_cons_zero, List.getElem_cons_succ])) | fail "skip 15"
          first | (refine wpAnyH_take (i := 16) (v := ?_) rfl (by kernel_rfl) (by kernel_rfl) (by kernel_rfl) (fun _ _ _ h => h) (Or.inl ⟨by rfl, ?_⟩) (by assumption) ?_; rotate_left; (intro X hSw; (try dsimp only at hSw); go_simp; (try with_reducible rfl)); (try simp only [Act.put, List.setIfInBounds_toArray, List.set_cons_zero, List.set_cons_succ, List.getElem_toArray, List.getElem_cons_zero, List.getElem_cons_succ])) | fail "take 16"
          first | (refine wpAnyH_take (i := 17) (v := ?_) rfl (by kernel_rfl) (by kernel_rfl) (by kernel_rfl) (fun _ _ _ h => h) (Or.inl ⟨by rfl, ?_⟩) (by assumption) ?_; rotate_left; (intro X hSw; (try dsimp only at hSw); go_simp; (try with_reducible rfl)); (try simp only [Act.put, List.setIfInBounds_toArray, List.set_cons_zero, List.set_cons_succ, List.getElem_toArray, List.getElem_cons_zero, List.getElem_cons_succ])) | fail "take 17"
          first | (refine wpAnyH_take (i := 18) (v := undef) rfl (by kernel_rfl) (by kernel_rfl) (by kernel_rfl) (fun _ _ _ h => h) (Or.inr ⟨by rfl, rfl⟩) (by assumption) ?_; (try simp only [Act.put, List.setIfInBounds_toArray, List.set_cons_zero, List.set_cons_succ, List.getElem_toArray, List.getElem_cons_zero, List.getElem_cons_succ])) | fail "skip 18"
          first | (refine wpAnyH_take (i := 19) (v := undef) rfl (by kernel_rfl) (by kernel_rfl) (by kernel_rfl) (fun _ _ _ h => h) (Or.inr ⟨by rfl, rfl⟩) (by assumption) ?_; (try simp only [Act.put, List.setIfInBounds_toArray, List.set_cons_zero, List.set_cons_succ, List.getElem_toArray, List.getElem_cons_zero, List.getElem_cons_succ])) | fail "skip 19"
          first | (refine wpAnyH_take (i := 20) (v := undef) rfl (by kernel_rfl) (by kernel_rfl) (by kernel_rfl) (fun _ _ _ h => h) (Or.inr ⟨by rfl, rfl⟩) (by assumption) ?_; (try simp only [Act.put, List.setIfInBounds_toArray, List.set_cons_zero, List.set_cons_succ, List.getElem_toArray, List.getElem_cons_zero, List.getElem_cons_succ])) | fail "skip 20"
          first | (refine wpAnyH_take (i := 21) (v := ?_) rfl (by kernel_rfl) (by kernel_rfl) (by kernel_rfl) (fun _ _ _ h => h) (Or.inl ⟨by rfl, ?_⟩) (by assumption) ?_; rotate_left; (intro X hSw; (try dsimp only at hSw); go_simp; (try with_reducible rfl)); (try simp only [Act.put, List.setIfInBounds_toArray, List.set_cons_zero, List.set_cons_succ, List.getElem_toArray, List.getElem_cons_zero, List.getElem_cons_succ])) | fail "take 21"
          first | (refine wpAnyH_take (i := 22) (v := ?_) rfl (by kernel_rfl) (by kernel_rfl) (by kernel_rfl) (fun _ _ _ h => h) (Or.inl ⟨by rfl, ?_⟩) (by assumption) ?_; rotate_left; (intro X hSw; (try dsimp only at hSw); go_simp; (try with_reducible rfl)); (try simp only [Act.put, List.setIfInBounds_toArray, List.set_cons_zero, List.set_cons_succ, List.getElem_toArray, List.getElem_cons_zero, List.getElem_cons_succ])) | fail "take 22"
          first | (refine wpAnyH_take (i := 23) (v := ?_) rfl (by kernel_rfl) (by kernel_rfl) (by kernel_rfl) (fun _ _ _ h => h) (Or.inl ⟨by rfl, ?_⟩) (by assumption) ?_; rotate_left; (intro X hSw; (try dsimp only at hSw); go_simp; (try with_reducible rfl)); (try simp only [Act.put, List.setIfInBounds_toArray, List.set_cons_zero, List.set_cons_succ, List.getElem_toArray, List.getElem_cons_zero, List.getElem_cons_succ])) | fail "take 23"
          refine wpAnyH_done (by kernel_rfl) ?_ _
          go_wp2_with fail
          go_returns
          exact ⟨by first | rfl | (simp; done), HW11.out⟩
        · cases vb
          · go_wp2_with fail
            refine wp_region_held_drew (S := (fun U => (U.cell? ⟨w2.heap.size, 0, none⟩ = some (.slice fa2 SF.length fc2) ∧ U.cell? ⟨w2.heap.size, 1, none⟩ = some (.slice ia2 SI.length ic2) ∧ U.cell? ⟨w2.heap.size, 2, none⟩ = some (.int .i64 X) ∧ U.cell? ⟨w2.heap.size, 3, none⟩ = some (.int .i64 Y) ∧ U.cell? ⟨w2.heap.size, 4, none⟩ = some (.int .i64 Z) ∧ U.cell? ⟨w2.heap.size, 5, none⟩ = some (.int .i64 SL) ∧ U.cell? ⟨w2.heap.size, 6, none⟩ = some (.int .i64 SO)) ∧ (U.cell? ⟨w1.heap.size, 0, none⟩ = some (.slice fa F.length fc) ∧ U.cell? ⟨w1.heap.size, 1, none⟩ = some (.slice ia I.length ic) ∧ U.cell? ⟨w1.heap.size, 2, none⟩ = some (.int .i64 bx) ∧ U.cell? ⟨w1.heap.size, 3, none⟩ = some (.int .i64 by') ∧ U.cell? ⟨w1.heap.size, 4, none⟩ = some (.int .i64 bz) ∧ U.cell? ⟨w1.heap.size, 5, none⟩ = some (.int .i64 fl) ∧ U.cell? ⟨w1.heap.size, 6, none⟩ = some (.int .i64 co)) ∧ (U.cell? ⟨w7.heap.size, 0, none⟩ = some (.int .i64 u1) ∧ U.cell? ⟨w7.heap.size, 1, none⟩ = some (.int .i64 u2) ∧ U.cell? ⟨w7.heap.size, 2, none⟩ = some (.int .i64 u3)) ∧ (U.cell? ⟨w8.heap.size, 0, none⟩ = some (.int .i64 c1) ∧ U.cell? ⟨w8.heap.size, 1, none⟩ = some (.int .i64 c2) ∧ U.cell? ⟨w8.heap.size, 2, none⟩ = some (.int .i64 c3)))) (by kernel_rfl) (by refine ⟨⟨?_, ?_, ?_, ?_, ?_, ?_, ?_⟩, ⟨?_, ?_, ?_, ?_, ?_, ?_, ?_⟩, ⟨?_, ?_, ?_⟩, ?_, ?_, ?_⟩ <;> assumption) (fun hHeld => ?_)
            first | (refine wpAnyH_take (i := 0) (v := ?_) rfl (by kernel_rfl) (by kernel_rfl) (by kernel_rfl) (fun _ _ _ h => h) (Or.inl ⟨by rfl, ?_⟩) (by assumption) ?_; rotate_left; (intro X hSw; (try dsimp only at hSw); go_simp; (try with_reducible rfl)); (try simp only [Act.put, List.setIfInBounds_toArray, List.set_cons_zero, List.set_cons_succ, List.getElem_toArray, List.getElem_cons_zero, List.getElem_cons_succ])) | fail "take 0"
            first | (refine wpAnyH_take (i := 2) (v := ?_) rfl (by kernel_rfl) (by kernel_rfl) (by kernel_rfl) (fun _ _ _ h => h) (Or.inl ⟨by rfl, ?_⟩) (by assumption) ?_; rotate_left; (intro X hSw; (try dsimp only at hSw); go_simp; (try with_reducible rfl)); (try simp only [Act.put, List.setIfInBounds_toArray, List.set_cons_zero, List.set_cons_succ, List.getElem_toArray, List.getElem_cons_zero, List.getElem_cons_succ])) | fail "take 2"
            refine wpAnyH_ready (rs := [1]) (by kernel_rfl) (by simp) ?_
            refine AllReadyH.cons rfl (fun K hK => ?_) AllReadyH.nil
            go_simp
            refine (G5.out _).mono ?_
            rintro e w10 ⟨rfl, hb10⟩
            have HX10 := Lib.hid (HX.out.callD hb10)
            have HQ10 := Lib.hid (HQ.out.callD hb10)
            have HU10 := Lib.hid (HU.out.callD hb10)
            have HC10 := Lib.hid (HC.out.callD hb10)
            have HW10 := Lib.hid (v_below_callD HW.out hb10)
            obtain ⟨x0, x1, x2, x3, x4, x5, x6⟩ := HX10.out.cells
            obtain ⟨q0, q1, q2, q3, q4, q5, q6⟩ := HQ10.out.cells
            obtain ⟨u0, u1', u2'⟩ := HU10.out.cells
            obtain ⟨c0, c1', c2'⟩ := HC10.out.cells
            clear hb10
            (try dsimp only)
            refine hK.out _ _ (by refine ⟨⟨?_, ?_, ?_, ?_, ?_, ?_, ?_⟩, ⟨?_, ?_, ?_, ?_, ?_, ?_, ?_⟩, ⟨?_, ?_, ?_⟩, ?_, ?_, ?_⟩ <;> assumption) (fun hHeld => ?_)
            clear hK K
            (try simp only [Act.put, List.setIfInBounds_toArray, List.set_cons_zero, List.set_cons_succ, List.getElem_toArray, List.getElem_cons_zero, List.getElem_cons_succ])
            refine wpAnyH_ready (rs := [3]) (by kernel_rfl) (by simp) ?_
            refine AllReadyH.cons rfl (fun K hK => ?_) AllReadyH.nil
            go_simp
            refine (stacksSize_any fa F.length fc ia I.length ic bx by' bz fl co _ (by omega) (by omega)).mono ?_
            rintro e w11 ⟨rfl, hb11⟩
            have HW11 := Lib.hid (HW10.out.trans (hb11.mono HW10.out.size))
            have HX11 := Lib.hid (HX10.out.call hb11)
            have HQ11 := Lib.hid (HQ10.out.call hb11)
            have HU11 := Lib.hid (HU10.out.call hb11)
            have HC11 := Lib.hid (HC10.out.call hb11)
            obtain ⟨x0, x1, x2, x3, x4, x5, x6⟩ := HX11.out.cells
            obtain ⟨q0, q1, q2, q3, q4, q5, q6⟩ := HQ11.out.cells
            obtain ⟨u0, u1', u2'⟩ := HU11.out.cells
            obtain ⟨c0, c1', c2'⟩ := HC11.out.cells
            clear hb11
            (try dsimp only)
            refine hK.out _ _ (by refine ⟨⟨?_, ?_, ?_, ?_, ?_, ?_, ?_⟩, ⟨?_, ?_, ?_, ?_, ?_, ?_, ?_⟩, ⟨?_, ?_, ?_⟩, ?_, ?_, ?_⟩ <;> assumption) (fun hHeld => ?_)
            clear hK K
            (try simp only [Act.put, List.setIfInBounds_toArray, List.set_cons_zero, List.set_cons_succ, List.getElem_toArray, List.getElem_cons_zero, List.getElem_cons_succ])
            first | (refine wpAnyH_take (i := 4) (v := ?_) rfl (by kernel_rfl) (by kernel_rfl) (by kernel_rfl) (fun _ _ _ h => h) (Or.inl ⟨by rfl, ?_⟩) (by assumption) ?_; rotate_left; (intro X hSw; (try dsimp only at hSw); go_simp; (try with_reducible rfl)); (try simp only [Act.put, List.setIfInBounds_toArray, List.set_cons_zero, List.set_cons_succ, List.getElem_toArray, List.getElem_cons_zero, List.getElem_cons_succ])) | fail "take 4"
            first | (refine wpAnyH_take (i := 5) (v := ?_) rfl (by kernel_rfl) (by kernel_rfl) (by kernel_rfl) (fun _ _ _ h => h) (Or.inl ⟨by rfl, ?_⟩) (by assumption) ?_; rotate_left; (intro X hSw; (try dsimp only at hSw); go_simp; (try with_reducible rfl)); (try simp only [Act.put, List.setIfInBounds_toArray, List.set_cons_zero, List.set_cons_succ, List.getElem_toArray, List.getElem_cons_zero, List.getElem_cons_succ])) | fail "take 5"
            first | (refine wpAnyH_take (i := 6) (v := ?_) rfl (by kernel_rfl) (by kernel_rfl) (by kernel_rfl) (fun _ _ _ h => h) (Or.inl ⟨by rfl, ?_⟩) (by assumption) ?_; rotate_left; (intro X hSw; (try dsimp only at hSw); go_simp; (try with_reducible rfl)); (try simp only [Act.put, List.setIfInBounds_toArray, List.set_cons_zero, List.set_cons_succ, List.getElem_toArray, List.getElem_cons_zero, List.getElem_cons_succ])) | fail "take 6"
            first | (refine wpAnyH_take (i := 7) (v := ?_) rfl (by kernel_rfl) (by kernel_rfl) (by kernel_rfl) (fun _ _ _ h => h) (Or.inl ⟨by rfl, ?_⟩) (by assumption) ?_; rotate_left; (intro X hSw; (try dsimp only at hSw); go_simp; (try with_reducible rfl)); (try simp only [Act.put, List.setIfInBounds_toArray, List.set_cons_zero, List.set_cons_succ, List.getElem_toArray, List.getElem_cons_zero, List.getElem_cons_succ])) | fail "take 7"
            first | (refine wpAnyH_take (i := 8) (v := ?_) rfl (by kernel_rfl) (by kernel_rfl) (by kernel_rfl) (fun _ _ _ h => h) (Or.inl ⟨by rfl, ?_⟩) (by assumption) ?_; rotate_left; (intro X hSw; (try dsimp only at hSw); go_simp; (try with_reducible rfl)); (try simp only [Act.put, List.setIfInBounds_toArray, List.set_cons_zero, List.set_cons_succ, List.getElem_toArray, List.getElem_cons_zero, List.getElem_cons_succ])) | fail "take 8"
            first | (refine wpAnyH_take (i := 9) (v := ?_) rfl (by kernel_rfl) (by kernel_rfl) (by kernel_rfl) (fun _ _ _ h => h) (Or.inl ⟨by rfl, ?_⟩) (by assumption) ?_; rotate_left; (intro X hSw; (try dsimp only at hSw); go_simp; (try with_reducible rfl)); (try simp only [Act.put, List.setIfInBounds_toArray, List.set_cons_zero, List.set_cons_succ, List.getElem_toArray, List.getElem_cons_zero, List.getElem_cons_succ])) | fail "take 9"
            first | (refine wpAnyH_take (i := 10) (v := ?_) rfl (by kernel_rfl) (by kernel_rfl) (by kernel_rfl) (fun _ _ _ h => h) (Or.inl ⟨by rfl, ?_⟩) (by assumption) ?_; rotate_left; (intro X hSw; (try dsimp only at hSw); go_simp; (try with_reducible rfl)); (try simp only [Act.put, List.setIfInBounds_toArray, List.set_cons_zero, List.set_cons_succ, List.getElem_toArray, List.getElem_cons_zero, List.getElem_cons_succ])) | fail "take 10"
            first | (refine wpAnyH_take (i := 11) (v := ?_) rfl (by kernel_rfl) (by kernel_rfl) (by kernel_rfl) (fun _ _ _ h => h) (Or.inl ⟨by rfl, ?_⟩) (by assumption) ?_; rotate_left; (intro X hSw; (try dsimp only at hSw); go_simp; (try with_reducible rfl)); (try simp only [Act.put, List.setIfInBounds_toArray, List.set_cons_zero, List.set_cons_succ, List.getElem_toArray, List.getElem_cons_zero, List.getElem_cons_succ])) | fail "take 11"
            first | (refine wpAnyH_take (i := 12) (v := ?_) rfl (by kernel_rfl) (by kernel_rfl) (by kernel_rfl) (fun _ _ _ h => h) (Or.inl ⟨by rfl, ?_⟩) (by assumption) ?_; rotate_left; (intro X hSw; (try dsimp only at hSw); go_simp; (try with_reducible rfl)); (try simp only [Act.put, List.setIfInBounds_toArray, List.set_cons_zero, List.set_cons_succ, List.getElem_toArray, List.getElem_cons_zero, List.getElem_cons_succ])) | fail "take 12"
            first | (refine wpAnyH_take (i := 13) (v := ?_) rfl (by kernel_rfl) (by kernel_rfl) (by kernel_rfl) (fun _ _ _ h => h) (Or.inl ⟨by rfl, ?_⟩) (by assumption) ?_; rotate_left; (intro X hSw; (try dsimp only at hSw); go_simp; (try with_reducible rfl)); (try simp only [Act.put, List.setIfInBounds_toArray, List.set_cons_zero, List.set_cons_succ, List.getElem_toArray, List.getElem_cons_zero, List.getElem_cons_succ])) | fail "take 13"
            first | (refine wpAnyH_take (i := 14) (v := undef) rfl (by kernel_rfl) (by kernel_rfl) (by kernel_rfl) (fun _ _ _ h => h) (Or.inr ⟨by rfl, rfl⟩) (by assumption) ?_; (try simp only [Act.put, List.setIfInBounds_toArray, List.set_cons_zero, List.set_cons_succ, List.getElem_toArray, List.getElem_cons_zero, List.getElem_cons_succ])) | fail "skip 14"
            first | (refine wpAnyH_take (i := 15) (v := undef) rfl (by kernel_rfl) (by kernel_rfl) (by kernel_rfl) (fun _ _ _ h => h) (Or.inr ⟨by rfl, rfl⟩) (by assumption) ?_; (try simp only [Act.put, List.setIfInBounds_toArray, List.set_cons_zero, List.set_cons_succ, List.getElem_toArray, List.getElem_cons_zero, List.getElem_cons_succ])) | fail "skip 15"
            first | (refine wpAnyH_take (i := 16) (v := ?_) rfl (by kernel_rfl) (by kernel_rfl) (by kernel_rfl) (fun _ _ _ h => h) (Or.inl ⟨by rfl, ?_⟩) (by assumption) ?_; rotate_left; (intro X hSw; (try dsimp only at hSw); go_simp; (try with_reducible rfl)); (try simp only [Act.put, List.setIfInBounds_toArray, List.set_cons_zero, List.set_cons_succ, List.getElem_toArray, List.getElem_cons_zero, List.getElem_cons_succ])) | fail "take 16"
            first | (refine wpAnyH_take (i := 17) (v := ?_) rfl (by kernel_rfl) (by kernel_rfl) (by kernel_rfl) (fun _ _ _ h => h) (Or.inl ⟨by rfl, ?_⟩) (by assumption) ?_; rotate_left; (intro X hSw; (try dsimp only at hSw); go_simp; (try with_reducible rfl)); (try simp only [Act.put, List.setIfInBounds_toArray, List.set_cons_zero, List.set_cons_succ, List.getElem_toArray, List.getElem_cons_zero, List.getElem_cons_succ])) | fail "take 17"
            first | (refine wpAnyH_take (i := 18) (v := undef) rfl (by kernel_rfl) (by kernel_rfl) (by kernel_rfl) (fun _ _ _ h => h) (Or.inr ⟨by rfl, rfl⟩) (by assumption) ?_; (try simp only [Act.put, List.setIfInBounds_toArray, List.set_cons_zero, List.set_cons_succ, List.getElem_toArray, List.getElem_cons_zero, List.getElem_cons_succ])) | fail "skip 18"
            first | (refine wpAnyH_take (i := 19) (v := undef) rfl (by kernel_rfl) (by kernel_rfl) (by kernel_rfl) (fun _ _ _ h => h) (Or.inr ⟨by rfl, rfl⟩) (by assumption) ?_; (try simp only [Act.put, List.setIfInBounds_toArray, List.set_cons_zero, List.set_cons_succ, List.getElem_toArray, List.getElem_cons_zero, List.getElem_cons_succ])) | fail "skip 19"
            first | (refine wpAnyH_take (i := 20) (v := undef) rfl (by kernel_rfl) (by kernel_rfl) (by kernel_rfl) (fun _ _ _ h => h) (Or.inr ⟨by rfl, rfl⟩) (by assumption) ?_; (try simp only [Act.put, List.setIfInBounds_toArray, List.set_cons_zero, List.set_cons_succ, List.getElem_toArray, List.getElem_cons_zero, List.getElem_cons_succ])) | fail "skip 20"
            first | (refine wpAnyH_take (i := 21) (v := ?_) rfl (by kernel_rfl) (by kernel_rfl) (by kernel_rfl) (fun _ _ _ h => h) (Or.inl ⟨by rfl, ?_⟩) (by assumption) ?_; rotate_left; (intro X hSw; (try dsimp only at hSw); go_simp; (try with_reducible rfl)); (try simp only [Act.put, List.setIfInBounds_toArray, List.set_cons_zero, List.set_cons_succ, List.getElem_toArray, List.getElem_cons_zero, List.getElem_cons_succ])) | fail "take 21"
            first | (refine wpAnyH_take (i := 22) (v := ?_) rfl (by kernel_rfl) (by kernel_rfl) (by kernel_rfl) (fun _ _ _ h => h) (Or.inl ⟨by rfl, ?_⟩) (by assumption) ?_; rotate_left; (intro X hSw; (try dsimp only at hSw); go_simp; (try with_reducible rfl)); (try simp only [Act.put, List.setIfInBounds_toArray, List.set_cons_zero, List.set_cons_succ, List.getElem_toArray, List.getElem_cons_zero, List.getElem_cons_succ])) | fail "take 22"
            first | (refine wpAnyH_take (i := 23) (v := ?_) rfl (by kernel_rfl) (by kernel_rfl) (by kernel_rfl) (fun _ _ _ h => h) (Or.inl ⟨by rfl, ?_⟩) (by assumption) ?_; rotate_left; (intro X hSw; (try dsimp only at hSw); go_simp; (try with_reducible rfl)); (try simp only [Act.put, List.setIfInBounds_toArray, List.set_cons_zero, List.set_cons_succ, List.getElem_toArray, List.getElem_cons_zero, List.getElem_cons_succ])) | fail "take 23"
            refine wpAnyH_done (by kernel_rfl) ?_ _
            go_wp2_with fail
            go_returns
            exact ⟨by first | rfl | (simp; done), HW11.out⟩
          · cases vd
            · go_wp2_with fail
              refine wp_region_held_drew (S := (fun U => (U.cell? ⟨w2.heap.size, 0, none⟩ = some (.slice fa2 SF.length fc2) ∧ U.cell? ⟨w2.heap.size, 1, none⟩ = some (.slice ia2 SI.length ic2) ∧ U.cell? ⟨w2.heap.size, 2, none⟩ = some (.int .i64 X) ∧ U.cell? ⟨w2.heap.size, 3, none⟩ = some (.int .i64 Y) ∧ U.cell? ⟨w2.heap.size, 4, none⟩ = some (.int .i64 Z) ∧ U.cell? ⟨w2.heap.size, 5, none⟩ = some (.int .i64 SL) ∧ U.cell? ⟨w2.heap.size, 6, none⟩ = some (.int .i64 SO)) ∧ (U.cell? ⟨w1.heap.size, 0, none⟩ = some (.slice fa F.length fc) ∧ U.cell? ⟨w1.heap.size, 1, none⟩ = some (.slice ia I.length ic) ∧ U.cell? ⟨w1.heap.size, 2, none⟩ = some (.int .i64 bx) ∧ U.cell? ⟨w1.heap.size, 3, none⟩ = some (.int .i64 by') ∧ U.cell? ⟨w1.heap.size, 4, none⟩ = some (.int .i64 bz) ∧ U.cell? ⟨w1.heap.size, 5, none⟩ = some (.int .i64 fl) ∧ U.cell? ⟨w1.heap.size, 6, none⟩ = some (.int .i64 co)) ∧ (U.cell? ⟨w7.heap.size, 0, none⟩ = some (.int .i64 u1) ∧ U.cell? ⟨w7.heap.size, 1, none⟩ = some (.int .i64 u2) ∧ U.cell? ⟨w7.heap.size, 2, none⟩ = some (.int .i64 u3)) ∧ (U.cell? ⟨w8.heap.size, 0, none⟩ = some (.int .i64 c1) ∧ U.cell? ⟨w8.heap.size, 1, none⟩ = some (.int .i64 c2) ∧ U.cell? ⟨w8.heap.size, 2, none⟩ = some (.int .i64 c3)))) (by kernel_rfl) (by refine ⟨⟨?_, ?_, ?_, ?_, ?_, ?_, ?_⟩, ⟨?_, ?_, ?_, ?_, ?_, ?_, ?_⟩, ⟨?_, ?_, ?_⟩, ?_, ?_, ?_⟩ <;> assumption) (fun hHeld => ?_)
              first | (refine wpAnyH_take (i := 0) (v := ?_) rfl (by kernel_rfl) (by kernel_rfl) (by kernel_rfl) (fun _ _ _ h => h) (Or.inl ⟨by rfl, ?_⟩) (by assumption) ?_; rotate_left; (intro X hSw; (try dsimp only at hSw); go_simp; (try with_reducible rfl)); (try simp only [Act.put, List.setIfInBounds_toArray, List.set_cons_zero, List.set_cons_succ, List.getElem_toArray, List.getElem_cons_zero, List.getElem_cons_succ])) | fail "take 0"
              first | (refine wpAnyH_take (i := 2) (v := ?_) rfl (by kernel_rfl) (by kernel_rfl) (by kernel_rfl) (fun _ _ _ h => h) (Or.inl ⟨by rfl, ?_⟩) (by assumption) ?_; rotate_left; (intro X hSw; (try dsimp only at hSw); go_simp; (try with_reducible rfl)); (try simp only [Act.put, List.setIfInBounds_toArray, List.set_cons_zero, List.set_cons_succ, List.getElem_toArray, List.getElem_cons_zero, List.getElem_cons_succ])) | fail "take 2"
              refine wpAnyH_ready (rs := [1]) (by kernel_rfl) (by simp) ?_
              refine AllReadyH.cons rfl (fun K hK => ?_) AllReadyH.nil
              go_simp
              refine (G5.out _).mono ?_
              rintro e w10 ⟨rfl, hb10⟩
              have HX10 := Lib.hid (HX.out.callD hb10)
              have HQ10 := Lib.hid (HQ.out.callD hb10)
              have HU10 := Lib.hid (HU.out.callD hb10)
              have HC10 := Lib.hid (HC.out.callD hb10)
              have HW10 := Lib.hid (v_below_callD HW.out hb10)
              obtain ⟨x0, x1, x2, x3, x4, x5, x6⟩ := HX10.out.cells
              obtain ⟨q0, q1, q2, q3, q4, q5, q6⟩ := HQ10.out.cells
              obtain ⟨u0, u1', u2'⟩ := HU10.out.cells
              obtain ⟨c0, c1', c2'⟩ := HC10.out.cells
              clear hb10
              (try dsimp only)
              refine hK.out _ _ (by refine ⟨⟨?_, ?_, ?_, ?_, ?_, ?_, ?_⟩, ⟨?_, ?_, ?_, ?_, ?_, ?_, ?_⟩, ⟨?_, ?_, ?_⟩, ?_, ?_, ?_⟩ <;> assumption) (fun hHeld => ?_)
              clear hK K
              (try simp only [Act.put, List.setIfInBounds_toArray, List.set_cons_zero, List.set_cons_succ, List.getElem_toArray, List.getElem_cons_zero, List.getElem_cons_succ])
              refine wpAnyH_ready (rs := [3]) (by kernel_rfl) (by simp) ?_
              refine AllReadyH.cons rfl (fun K hK => ?_) AllReadyH.nil
              go_simp
              refine (stacksSize_any fa F.length fc ia I.length ic bx by' bz fl co _ (by omega) (by omega)).mono ?_
              rintro e w11 ⟨rfl, hb11⟩
              have HW11 := Lib.hid (HW10.out.trans (hb11.mono HW10.out.size))
              have HX11 := Lib.hid (HX10.out.call hb11)
              have HQ11 := Lib.hid (HQ10.out.call hb11)
              have HU11 := Lib.hid (HU10.out.call hb11)
              have HC11 := Lib.hid (HC10.out.call hb11)
              obtain ⟨x0, x1, x2, x3, x4, x5, x6⟩ := HX11.out.cells
              obtain ⟨q0, q1, q2, q3, q4, q5, q6⟩ := HQ11.out.cells
              obtain ⟨u0, u1', u2'⟩ := HU11.out.cells
              obtain ⟨c0, c1', c2'⟩ := HC11.out.cells
              clear hb11
              (try dsimp only)
              refine hK.out _ _ (by refine ⟨⟨?_, ?_, ?_, ?_, ?_, ?_, ?_⟩, ⟨?_, ?_, ?_, ?_, ?_, ?_, ?_⟩, ⟨?_, ?_, ?_⟩, ?_, ?_, ?_⟩ <;> assumption) (fun hHeld => ?_)
              clear hK K
              (try simp only [Act.put, List.setIfInBounds_toArray, List.set_cons_zero, List.set_cons_succ, List.getElem_toArray, List.getElem_cons_zero, List.getElem_cons_succ])
              first | (refine wpAnyH_take (i := 4) (v := ?_) rfl (by kernel_rfl) (by kernel_rfl) (by kernel_rfl) (fun _ _ _ h => h) (Or.inl ⟨by rfl, ?_⟩) (by assumption) ?_; rotate_left; (intro X hSw; (try dsimp only at hSw); go_simp; (try with_reducible rfl)); (try simp only [Act.put, List.setIfInBounds_toArray, List.set_cons_zero, List.set_cons_succ, List.getElem_toArray, List.getElem_cons_zero, List.getElem_cons_succ])) | fail "take 4"
              first | (refine wpAnyH_take (i := 5) (v := ?_) rfl (by kernel_rfl) (by kernel_rfl) (by kernel_rfl) (fun _ _ _ h => h) (Or.inl ⟨by rfl, ?_⟩) (by assumption) ?_; rotate_left; (intro X hSw; (try dsimp only at hSw); go_simp; (try with_reducible rfl)); (try simp only [Act.put, List.setIfInBounds_toArray, List.set_cons_zero, List.set_cons_succ, List.getElem_toArray, List.getElem_cons_zero, List.getElem_cons_succ])) | fail "take 5"
              first | (refine wpAnyH_take (i := 6) (v := ?_) rfl (by kernel_rfl) (by kernel_rfl) (by kernel_rfl) (fun _ _ _ h => h) (Or.inl ⟨by rfl, ?_⟩) (by assumption) ?_; rotate_left; (intro X hSw; (try dsimp only at hSw); go_simp; (try with_reducible rfl)); (try simp only [Act.put, List.setIfInBounds_toArray, List.set_cons_zero, List.set_cons_succ, List.getElem_toArray, List.getElem_cons_zero, List.getElem_cons_succ])) | fail "take 6"
              first | (refine wpAnyH_take (i := 7) (v := ?_) rfl (by kernel_rfl) (by kernel_rfl) (by kernel_rfl) (fun _ _ _ h => h) (Or.inl ⟨by rfl, ?_⟩) (by assumption) ?_; rotate_left; (intro X hSw; (try dsimp only at hSw); go_simp; (try with_reducible rfl)); (try simp only [Act.put, List.setIfInBounds_toArray, List.set_cons_zero, List.set_cons_succ, List.getElem_toArray, List.getElem_cons_zero, List.getElem_cons_succ])) | fail "take 7"
              first | (refine wpAnyH_take (i := 8) (v := ?_) rfl (by kernel_rfl) (by kernel_rfl) (by kernel_rfl) (fun _ _ _ h => h) (Or.inl ⟨by rfl, ?_⟩) (by assumption) ?_; rotate_left; (intro X hSw; (try dsimp only at hSw); go_simp; (try with_reducible rfl)); (try simp only [Act.put, List.setIfInBounds_toArray, List.set_cons_zero, List.set_cons_succ, List.getElem_toArray, List.getElem_cons_zero, List.getElem_cons_succ])) | fail "take 8"
              first | (refine wpAnyH_take (i := 9) (v := ?_) rfl (by kernel_rfl) (by kernel_rfl) (by kernel_rfl) (fun _ _ _ h => h) (Or.inl ⟨by rfl, ?_⟩) (by assumption) ?_; rotate_left; (intro X hSw; (try dsimp only at hSw); go_simp; (try with_reducible rfl)); (try simp only [Act.put, List.setIfInBounds_toArray, List.set_cons_zero, List.set_cons_succ, List.getElem_toArray, List.getElem_cons_zero, List.getElem_cons_succ])) | fail "take 9"
              first | (refine wpAnyH_take (i := 10) (v := ?_) rfl (by kernel_rfl) (by kernel_rfl) (by kernel_rfl) (fun _ _ _ h => h) (Or.inl ⟨by rfl, ?_⟩) (by assumption) ?_; rotate_left; (intro X hSw; (try dsimp only at hSw); go_simp; (try with_reducible rfl)); (try simp only [Act.put, List.setIfInBounds_toArray, List.set_cons_zero, List.set_cons_succ, List.getElem_toArray, List.getElem_cons_zero, List.getElem_cons_succ])) | fail "take 10"
              first | (refine wpAnyH_take (i := 11) (v := ?_) rfl (by kernel_rfl) (by kernel_rfl) (by kernel_rfl) (fun _ _ _ h => h) (Or.inl ⟨by rfl, ?_⟩) (by assumption) ?_; rotate_left; (intro X hSw; (try dsimp only at hSw); go_simp; (try with_reducible rfl)); (try simp only [Act.put, List.setIfInBounds_toArray, List.set_cons_zero, List.set_cons_succ, List.getElem_toArray, List.getElem_cons_zero, List.getElem_cons_succ])) | fail "take 11"
              first | (refine wpAnyH_take (i := 12) (v := ?_) rfl (by kernel_rfl) (by kernel_rfl) (by kernel_rfl) (fun _ _ _ h => h) (Or.inl ⟨by rfl, ?_⟩) (by assumption) ?_; rotate_left; (intro X hSw; (try dsimp only at hSw); go_simp; (try with_reducible rfl)); (try simp only [Act.put, List.setIfInBounds_toArray, List.set_cons_zero, List.set_cons_succ, List.getElem_toArray, List.getElem_cons_zero, List.getElem_cons_succ])) | fail "take 12"
              first | (refine wpAnyH_take (i := 13) (v := ?_) rfl (by kernel_rfl) (by kernel_rfl) (by kernel_rfl) (fun _ _ _ h => h) (Or.inl ⟨by rfl, ?_⟩) (by assumption) ?_; rotate_left; (intro X hSw; (try dsimp only at hSw); go_simp; (try with_reducible rfl)); (try simp only [Act.put, List.setIfInBounds_toArray, List.set_cons_zero, List.set_cons_succ, List.getElem_toArray, List.getElem_cons_zero, List.getElem_cons_succ])) | fail "take 13"
              first | (refine wpAnyH_take (i := 14) (v := ?_) rfl (by kernel_rfl) (by kernel_rfl) (by kernel_rfl) (fun _ _ _ h => h) (Or.inl ⟨by rfl, ?_⟩) (by assumption) ?_; rotate_left; (intro X hSw; (try dsimp only at hSw); go_simp; (try with_reducible rfl)); (try simp only [Act.put, List.setIfInBounds_toArray, List.set_cons_zero, List.set_cons_succ, List.getElem_toArray, List.getElem_cons_zero, List.getElem_cons_succ])) | fail "take 14"
              first | (refine wpAnyH_take (i := 15) (v := ?_) rfl (by kernel_rfl) (by kernel_rfl) (by kernel_rfl) (fun _ _ _ h => h) (Or.inl ⟨by rfl, ?_⟩) (by assumption) ?_; rotate_left; (intro X hSw; (try dsimp only at hSw); go_simp; (try with_reducible rfl)); (try simp only [Act.put, List.setIfInBounds_toArray, List.set_cons_zero, List.set_cons_succ, List.getElem_toArray, List.getElem_cons_zero, List.getElem_cons_succ])) | fail "take 15"
              first | (refine wpAnyH_take (i := 16) (v := ?_) rfl (by kernel_rfl) (by kernel_rfl) (by kernel_rfl) (fun _ _ _ h => h) (Or.inl ⟨by rfl, ?_⟩) (by assumption) ?_; rotate_left; (intro X hSw; (try dsimp only at hSw); go_simp; (try with_reducible rfl)); (try simp only [Act.put, List.setIfInBounds_toArray, List.set_cons_zero, List.set_cons_succ, List.getElem_toArray, List.getElem_cons_zero, List.getElem_cons_succ])) | fail "take 16"
              first | (refine wpAnyH_take (i := 17) (v := ?_) rfl (by kernel_rfl) (by kernel_rfl) (by kernel_rfl) (fun _ _ _ h => h) (Or.inl ⟨by rfl, ?_⟩) (by assumption) ?_; rotate_left; (intro X hSw; (try dsimp only at hSw); go_simp; (try with_reducible rfl)); (try simp only [Act.put, List.setIfInBounds_toArray, List.set_cons_zero, List.set_cons_succ, List.getElem_toArray, List.getElem_cons_zero, List.getElem_cons_succ])) | fail "take 17"
              first | (refine wpAnyH_take (i := 18) (v := undef) rfl (by kernel_rfl) (by kernel_rfl) (by kernel_rfl) (fun _ _ _ h => h) (Or.inr ⟨by rfl, rfl⟩) (by assumption) ?_; (try simp only [Act.put, List.setIfInBounds_toArray, List.set_cons_zero, List.set_cons_succ, List.getElem_toArray, List.getElem_cons_zero, List.getElem_cons_succ])) | fail "skip 18"
              first | (refine wpAnyH_take (i := 19) (v := undef) rfl (by kernel_rfl) (by kernel_rfl) (by kernel_rfl) (fun _ _ _ h => h) (Or.inr ⟨by rfl, rfl⟩) (by assumption) ?_; (try simp only [Act.put, List.setIfInBounds_toArray, List.set_cons_zero, List.set_cons_succ, List.getElem_toArray, List.getElem_cons_zero, List.getElem_cons_succ])) | fail "skip 19"
              first | (refine wpAnyH_take (i := 20) (v := undef) rfl (by kernel_rfl) (by kernel_rfl) (by kernel_rfl) (fun _ _ _ h => h) (Or.inr ⟨by rfl, rfl⟩) (by assumption) ?_; (try simp only [Act.put, List.setIfInBounds_toArray, List.set_cons_zero, List.set_cons_succ, List.getElem_toArray, List.getElem_cons_zero, List.getElem_cons_succ])) | fail "skip 20"
              first | (refine wpAnyH_take (i := 21) (v := ?_) rfl (by kernel_rfl) (by kernel_rfl) (by kernel_rfl) (fun _ _ _ h => h) (Or.inl ⟨by rfl, ?_⟩) (by assumption) ?_; rotate_left; (intro X hSw; (try dsimp only at hSw); go_simp; (try with_reducible rfl)); (try simp only [Act.put, List.setIfInBounds_toArray, List.set_cons_zero, List.set_cons_succ, List.getElem_toArray, List.getElem_cons_zero, List.getElem_cons_succ])) | fail "take 21"
              first | (refine wpAnyH_take (i := 22) (v := ?_) rfl (by kernel_rfl) (by kernel_rfl) (by kernel_rfl) (fun _ _ _ h => h) (Or.inl ⟨by rfl, ?_⟩) (by assumption) ?_; rotate_left; (intro X hSw; (try dsimp only at hSw); go_simp; (try with_reducible rfl)); (try simp only [Act.put, List.setIfInBounds_toArray, List.set_cons_zero, List.set_cons_succ, List.getElem_toArray, List.getElem_cons_zero, List.getElem_cons_succ])) | fail "take 22"
              first | (refine wpAnyH_take (i := 23) (v := ?_) rfl (by kernel_rfl) (by kernel_rfl) (by kernel_rfl) (fun _ _ _ h => h) (Or.inl ⟨by rfl, ?_⟩) (by assumption) ?_; rotate_left; (intro X hSw; (try dsimp only at hSw); go_simp; (try with_reducible rfl)); (try simp only [Act.put, List.setIfInBounds_toArray, List.set_cons_zero, List.set_cons_succ, List.getElem_toArray, List.getElem_cons_zero, List.getElem_cons_succ])) | fail "take 23"
              refine wpAnyH_done (by kernel_rfl) ?_ _
              go_wp2_with fail
              go_returns
              exact ⟨by first | rfl | (simp; done), HW11.out⟩
            · have he := HSAME.out rfl rfl rfl
              simp only [Agg.V.mk.injEq] at he
              obtain ⟨rfl, rfl, rfl⟩ := he
              go_wp2_with fail
              refine wp_region_held_drew (S := (fun U => (U.cell? ⟨w2.heap.size, 0, none⟩ = some (.slice fa2 SF.length fc2) ∧ U.cell? ⟨w2.heap.size, 1, none⟩ = some (.slice ia2 SI.length ic2) ∧ U.cell? ⟨w2.heap.size, 2, none⟩ = some (.int .i64 X) ∧ U.cell? ⟨w2.heap.size, 3, none⟩ = some (.int .i64 Y) ∧ U.cell? ⟨w2.heap.size, 4, none⟩ = some (.int .i64 Z) ∧ U.cell? ⟨w2.heap.size, 5, none⟩ = some (.int .i64 SL) ∧ U.cell? ⟨w2.heap.size, 6, none⟩ = some (.int .i64 SO)) ∧ (U.cell? ⟨w1.heap.size, 0, none⟩ = some (.slice fa F.length fc) ∧ U.cell? ⟨w1.heap.size, 1, none⟩ = some (.slice ia I.length ic) ∧ U.cell? ⟨w1.heap.size, 2, none⟩ = some (.int .i64 bx) ∧ U.cell? ⟨w1.heap.size, 3, none⟩ = some (.int .i64 by') ∧ U.cell? ⟨w1.heap.size, 4, none⟩ = some (.int .i64 bz) ∧ U.cell? ⟨w1.heap.size, 5, none⟩ = some (.int .i64 fl) ∧ U.cell? ⟨w1.heap.size, 6, none⟩ = some (.int .i64 co)) ∧ (U.cell? ⟨w7.heap.size, 0, none⟩ = some (.int .i64 u1) ∧ U.cell? ⟨w7.heap.size, 1, none⟩ = some (.int .i64 u2) ∧ U.cell? ⟨w7.heap.size, 2, none⟩ = some (.int .i64 u3)) ∧ (U.cell? ⟨w8.heap.size, 0, none⟩ = some (.int .i64 u1) ∧ U.cell? ⟨w8.heap.size, 1, none⟩ = some (.int .i64 u2) ∧ U.cell? ⟨w8.heap.size, 2, none⟩ = some (.int .i64 u3)))) (by kernel_rfl) (by refine ⟨⟨?_, ?_, ?_, ?_, ?_, ?_, ?_⟩, ⟨?_, ?_, ?_, ?_, ?_, ?_, ?_⟩, ⟨?_, ?_, ?_⟩, ?_, ?_, ?_⟩ <;> assumption) (fun hHeld => ?_)
              first | (refine wpAnyH_take (i := 0) (v := ?_) rfl (by kernel_rfl) (by kernel_rfl) (by kernel_rfl) (fun _ _ _ h => h) (Or.inl ⟨by rfl, ?_⟩) (by assumption) ?_; rotate_left; (intro X hSw; (try dsimp only at hSw); go_simp; (try with_reducible rfl)); (try simp only [Act.put, List.setIfInBounds_toArray, List.set_cons_zero, List.set_cons_succ, List.getElem_toArray, List.getElem_cons_zero, List.getElem_cons_succ])) | fail "take 0"
              first | (refine wpAnyH_take (i := 2) (v := ?_) rfl (by kernel_rfl) (by kernel_rfl) (by kernel_rfl) (fun _ _ _ h => h) (Or.inl ⟨by rfl, ?_⟩) (by assumption) ?_; rotate_left; (intro X hSw; (try dsimp only at hSw); go_simp; (try with_reducible rfl)); (try simp only [Act.put, List.setIfInBounds_toArray, List.set_cons_zero, List.set_cons_succ, List.getElem_toArray, List.getElem_cons_zero, List.getElem_cons_succ])) | fail "take 2"
              refine wpAnyH_ready (rs := [1]) (by kernel_rfl) (by simp) ?_
              refine AllReadyH.cons rfl (fun K hK => ?_) AllReadyH.nil
              go_simp
              refine (G5.out _).mono ?_
              rintro e w10 ⟨rfl, hb10⟩
              have HX10 := Lib.hid (HX.out.callD hb10)
              have HQ10 := Lib.hid (HQ.out.callD hb10)
              have HU10 := Lib.hid (HU.out.callD hb10)
              have HC10 := Lib.hid (HC.out.callD hb10)
              have HW10 := Lib.hid (v_below_callD HW.out hb10)
              obtain ⟨x0, x1, x2, x3, x4, x5, x6⟩ := HX10.out.cells
              obtain ⟨q0, q1, q2, q3, q4, q5, q6⟩ := HQ10.out.cells
              obtain ⟨u0, u1', u2'⟩ := HU10.out.cells
              obtain ⟨c0, c1', c2'⟩ := HC10.out.cells
              clear hb10
              (try dsimp only)
              refine hK.out _ _ (by refine ⟨⟨?_, ?_, ?_, ?_, ?_, ?_, ?_⟩, ⟨?_, ?_, ?_, ?_, ?_, ?_, ?_⟩, ⟨?_, ?_, ?_⟩, ?_, ?_, ?_⟩ <;> assumption) (fun hHeld => ?_)
              clear hK K
              (try simp only [Act.put, List.setIfInBounds_toArray, List.set_cons_zero, List.set_cons_succ, List.getElem_toArray, List.getElem_cons_zero, List.getElem_cons_succ])
              refine wpAnyH_ready (rs := [3]) (by kernel_rfl) (by simp) ?_
              refine AllReadyH.cons rfl (fun K hK => ?_) AllReadyH.nil
              go_simp
              refine (stacksSize_any fa F.length fc ia I.length ic bx by' bz fl co _ (by omega) (by omega)).mono ?_
              rintro e w11 ⟨rfl, hb11⟩
              have HW11 := Lib.hid (HW10.out.trans (hb11.mono HW10.out.size))
              have HX11 := Lib.hid (HX10.out.call hb11)
              have HQ11 := Lib.hid (HQ10.out.call hb11)
              have HU11 := Lib.hid (HU10.out.call hb11)
              have HC11 := Lib.hid (HC10.out.call hb11)
              obtain ⟨x0, x1, x2, x3, x4, x5, x6⟩ := HX11.out.cells
              obtain ⟨q0, q1, q2, q3, q4, q5, q6⟩ := HQ11.out.cells
              obtain ⟨u0, u1', u2'⟩ := HU11.out.cells
              obtain ⟨c0, c1', c2'⟩ := HC11.out.cells
              clear hb11
              (try dsimp only)
              refine hK.out _ _ (by refine ⟨⟨?_, ?_, ?_, ?_, ?_, ?_, ?_⟩, ⟨?_, ?_, ?_, ?_, ?_, ?_, ?_⟩, ⟨?_, ?_, ?_⟩, ?_, ?_, ?_⟩ <;> assumption) (fun hHeld => ?_)
              clear hK K
              (try simp only [Act.put, List.setIfInBounds_toArray, List.set_cons_zero, List.set_cons_succ, List.getElem_toArray, List.getElem_cons_zero, List.getElem_cons_succ])
              first | (refine wpAnyH_take (i := 4) (v := ?_) rfl (by kernel_rfl) (by kernel_rfl) (by kernel_rfl) (fun _ _ _ h => h) (Or.inl ⟨by rfl, ?_⟩) (by assumption) ?_; rotate_left; (intro X hSw; (try dsimp only at hSw); go_simp; (try with_reducible rfl)); (try simp only [Act.put, List.setIfInBounds_toArray, List.set_cons_zero, List.set_cons_succ, List.getElem_toArray, List.getElem_cons_zero, List.getElem_cons_succ])) | fail "take 4"
              first | (refine wpAnyH_take (i := 5) (v := ?_) rfl (by kernel_rfl) (by kernel_rfl) (by kernel_rfl) (fun _ _ _ h => h) (Or.inl ⟨by rfl, ?_⟩) (by assumption) ?_; rotate_left; (intro X hSw; (try dsimp only at hSw); go_simp; (try with_reducible rfl)); (try simp only [Act.put, List.setIfInBounds_toArray, List.set_cons_zero, List.set_cons_succ, List.getElem_toArray, List.getElem_cons_zero, List.getElem_cons_succ])) | fail "take 5"
              first | (refine wpAnyH_take (i := 6) (v := ?_) rfl (by kernel_rfl) (by kernel_rfl) (by kernel_rfl) (fun _ _ _ h => h) (Or.inl ⟨by rfl, ?_⟩) (by assumption) ?_; rotate_left; (intro X hSw; (try dsimp only at hSw); go_simp; (try with_reducible rfl)); (try simp only [Act.put, List.setIfInBounds_toArray, List.set_cons_zero, List.set_cons_succ, List.getElem_toArray, List.getElem_cons_zero, List.getElem_cons_succ])) | fail "take 6"
              first | (refine wpAnyH_take (i := 7) (v := ?_) rfl (by kernel_rfl) (by kernel_rfl) (by kernel_rfl) (fun _ _ _ h => h) (Or.inl ⟨by rfl, ?_⟩) (by assumption) ?_; rotate_left; (intro X hSw; (try dsimp only at hSw); go_simp; (try with_reducible rfl)); (try simp only [Act.put, List.setIfInBounds_toArray, List.set_cons_zero, List.set_cons_succ, List.getElem_toArray, List.getElem_cons_zero, List.getElem_cons_succ])) | fail "take 7"
              first | (refine wpAnyH_take (i := 8) (v := ?_) rfl (by kernel_rfl) (by kernel_rfl) (by kernel_rfl) (fun _ _ _ h => h) (Or.inl ⟨by rfl, ?_⟩) (by assumption) ?_; rotate_left; (intro X hSw; (try dsimp only at hSw); go_simp; (try with_reducible rfl)); (try simp only [Act.put, List.setIfInBounds_toArray, List.set_cons_zero, List.set_cons_succ, List.getElem_toArray, List.getElem_cons_zero, List.getElem_cons_succ])) | fail "take 8"
              first | (refine wpAnyH_take (i := 9) (v := ?_) rfl (by kernel_rfl) (by kernel_rfl) (by kernel_rfl) (fun _ _ _ h => h) (Or.inl ⟨by rfl, ?_⟩) (by assumption) ?_; rotate_left; (intro X hSw; (try dsimp only at hSw); go_simp; (try with_reducible rfl)); (try simp only [Act.put, List.setIfInBounds_toArray, List.set_cons_zero, List.set_cons_succ, List.getElem_toArray, List.getElem_cons_zero, List.getElem_cons_succ])) | fail "take 9"
              first | (refine wpAnyH_take (i := 10) (v := ?_) rfl (by kernel_rfl) (by kernel_rfl) (by kernel_rfl) (fun _ _ _ h => h) (Or.inl ⟨by rfl, ?_⟩) (by assumption) ?_; rotate_left; (intro X hSw; (try dsimp only at hSw); go_simp; (try with_reducible rfl)); (try simp only [Act.put, List.setIfInBounds_toArray, List.set_cons_zero, List.set_cons_succ, List.getElem_toArray, List.getElem_cons_zero, List.getElem_cons_succ])) | fail "take 10"
              first | (refine wpAnyH_take (i := 11) (v := ?_) rfl (by kernel_rfl) (by kernel_rfl) (by kernel_rfl) (fun _ _ _ h => h) (Or.inl ⟨by rfl, ?_⟩) (by assumption) ?_; rotate_left; (intro X hSw; (try dsimp only at hSw); go_simp; (try with_reducible rfl)); (try simp only [Act.put, List.setIfInBounds_toArray, List.set_cons_zero, List.set_cons_succ, List.getElem_toArray, List.getElem_cons_zero, List.getElem_cons_succ])) | fail "take 11"
              first | (refine wpAnyH_take (i := 12) (v := ?_) rfl (by kernel_rfl) (by kernel_rfl) (by kernel_rfl) (fun _ _ _ h => h) (Or.inl ⟨by rfl, ?_⟩) (by assumption) ?_; rotate_left; (intro X hSw; (try dsimp only at hSw); go_simp; (try with_reducible rfl)); (try simp only [Act.put, List.setIfInBounds_toArray, List.set_cons_zero, List.set_cons_succ, List.getElem_toArray, List.getElem_cons_zero, List.getElem_cons_succ])) | fail "take 12"
              first | (refine wpAnyH_take (i := 13) (v := ?_) rfl (by kernel_rfl) (by kernel_rfl) (by kernel_rfl) (fun _ _ _ h => h) (Or.inl ⟨by rfl, ?_⟩) (by assumption) ?_; rotate_left; (intro X hSw; (try dsimp only at hSw); go_simp; (try with_reducible rfl)); (try simp only [Act.put, List.setIfInBounds_toArray, List.set_cons_zero, List.set_cons_succ, List.getElem_toArray, List.getElem_cons_zero, List.getElem_cons_succ])) | fail "take 13"
              first | (refine wpAnyH_take (i := 14) (v := ?_) rfl (by kernel_rfl) (by kernel_rfl) (by kernel_rfl) (fun _ _ _ h => h) (Or.inl ⟨by rfl, ?_⟩) (by assumption) ?_; rotate_left; (intro X hSw; (try dsimp only at hSw); go_simp; (try with_reducible rfl)); (try simp only [Act.put, List.setIfInBounds_toArray, List.set_cons_zero, List.set_cons_succ, List.getElem_toArray, List.getElem_cons_zero, List.getElem_cons_succ])) | fail "take 14"
              first | (refine wpAnyH_take (i := 15) (v := ?_) rfl (by kernel_rfl) (by kernel_rfl) (by kernel_rfl) (fun _ _ _ h => h) (Or.inl ⟨by rfl, ?_⟩) (by assumption) ?_; rotate_left; (intro X hSw; (try dsimp only at hSw); go_simp; (try with_reducible rfl)); (try simp only [Act.put, List.setIfInBounds_toArray, List.set_cons_zero, List.set_cons_succ, List.getElem_toArray, List.getElem_cons_zero, List.getElem_cons_succ])) | fail "take 15"
              first | (refine wpAnyH_take (i := 16) (v := ?_) rfl (by kernel_rfl) (by kernel_rfl) (by kernel_rfl) (fun _ _ _ h => h) (Or.inl ⟨by rfl, ?_⟩) (by assumption) ?_; rotate_left; (intro X hSw; (try dsimp only at hSw); go_simp; (try with_reducible rfl)); (try simp only [Act.put, List.setIfInBounds_toArray, List.set_cons_zero, List.set_cons_succ, List.getElem_toArray, List.getElem_cons_zero, List.getElem_cons_succ])) | fail "take 16"
              first | (refine wpAnyH_take (i := 17) (v := ?_) rfl (by kernel_rfl) (by kernel_rfl) (by kernel_rfl) (fun _ _ _ h => h) (Or.inl ⟨by rfl, ?_⟩) (by assumption) ?_; rotate_left; (intro X hSw; (try dsimp only at hSw); go_simp; (try with_reducible rfl)); (try simp only [Act.put, List.setIfInBounds_toArray, List.set_cons_zero, List.set_cons_succ, List.getElem_toArray, List.getElem_cons_zero, List.getElem_cons_succ])) | fail "take 17"
              first | (refine wpAnyH_take (i := 18) (v := ?_) rfl (by kernel_rfl) (by kernel_rfl) (by kernel_rfl) (fun _ _ _ h => h) (Or.inl ⟨by rfl, ?_⟩) (by assumption) ?_; rotate_left; (intro X hSw; (try dsimp only at hSw); go_simp; (try with_reducible rfl)); (try simp only [Act.put, List.setIfInBounds_toArray, List.set_cons_zero, List.set_cons_succ, List.getElem_toArray, List.getElem_cons_zero, List.getElem_cons_succ])) | fail "take 18"
              first | (refine wpAnyH_take (i := 19) (v := ?_) rfl (by kernel_rfl) (by kernel_rfl) (by kernel_rfl) (fun _ _ _ h => h) (Or.inl ⟨by rfl, ?_⟩) (by assumption) ?_; rotate_left; (intro X hSw; (try dsimp only at hSw); go_simp; (try with_reducible rfl)); (try simp only [Act.put, List.setIfInBounds_toArray, List.set_cons_zero, List.set_cons_succ, List.getElem_toArray, List.getElem_cons_zero, List.getElem_cons_succ])) | fail "take 19"
              first | (refine wpAnyH_take (i := 20) (v := ?_) rfl (by kernel_rfl) (by kernel_rfl) (by kernel_rfl) (fun _ _ _ h => h) (Or.inl ⟨by rfl, ?_⟩) (by assumption) ?_; rotate_left; (intro X hSw; (try dsimp only at hSw); go_simp; (try with_reducible rfl)); (try simp only [Act.put, List.setIfInBounds_toArray, List.set_cons_zero, List.set_cons_succ, List.getElem_toArray, List.getElem_cons_zero, List.getElem_cons_succ])) | fail "take 20"
              first | (refine wpAnyH_take (i := 21) (v := ?_) rfl (by kernel_rfl) (by kernel_rfl) (by kernel_rfl) (fun _ _ _ h => h) (Or.inl ⟨by rfl, ?_⟩) (by assumption) ?_; rotate_left; (intro X hSw; (try dsimp only at hSw); go_simp; (try with_reducible rfl)); (try simp only [Act.put, List.setIfInBounds_toArray, List.set_cons_zero, List.set_cons_succ, List.getElem_toArray, List.getElem_cons_zero, List.getElem_cons_succ])) | fail "take 21"
              first | (refine wpAnyH_take (i := 22) (v := ?_) rfl (by kernel_rfl) (by kernel_rfl) (by kernel_rfl) (fun _ _ _ h => h) (Or.inl ⟨by rfl, ?_⟩) (by assumption) ?_; rotate_left; (intro X hSw; (try dsimp only at hSw); go_simp; (try with_reducible rfl)); (try simp only [Act.put, List.setIfInBounds_toArray, List.set_cons_zero, List.set_cons_succ, List.getElem_toArray, List.getElem_cons_zero, List.getElem_cons_succ])) | fail "take 22"
              first | (refine wpAnyH_take (i := 23) (v := ?_) rfl (by kernel_rfl) (by kernel_rfl) (by kernel_rfl) (fun _ _ _ h => h) (Or.inl ⟨by rfl, ?_⟩) (by assumption) ?_; rotate_left; (intro X hSw; (try dsimp only at hSw); go_simp; (try with_reducible rfl)); (try simp only [Act.put, List.setIfInBounds_toArray, List.set_cons_zero, List.set_cons_succ, List.getElem_toArray, List.getElem_cons_zero, List.getElem_cons_succ])) | fail "take 23"
              refine wpAnyH_done (by kernel_rfl) ?_ _
              go_wp2_with fail
              go_returns
              exact ⟨by first | rfl | (simp; done), HW11.out⟩
  · go_enter Tryz.func6, Tryz.ntmps6
    go_wp2
    go_returns
    exact ⟨rfl, Below.refl _ _⟩
end Go.Proofs.YticoalgnkddapaaGreat
