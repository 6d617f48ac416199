/-
  Valid stacks in the model.
-/
import Derived.Test.YticoalgnkddapaaGreat3s
import Derived.Test.YticoalgnkddapaaGreat3a
import Derived.Test.YticoalgnkddapaaGreatRw
namespace Go.Proofs.YticoalgnkddapaaGreat
set_option linter.unusedSimpArgs false
set_option linter.unusedVariables false
open Go.RowKit
theorem s_counts_any (fa : Option Addr) (fn fc : Nat) (ia : Option Addr) (m ic : Nat) (bx by' bz fl co : Int) (w : World) :
    Calls Tryz.prog 104 #[.agg #[.slice fa fn fc, .slice ia m ic, .int .i64 bx, .int .i64 by', .int .i64 bz, .int .i64 fl, .int .i64 co]] w fun e w' => e = .returned (.bool ((decide (0 ≤ fl) && decide (fl ≤ 1000000)) && (decide (0 ≤ co) && decide (co ≤ 1000000)))) ∧ Below w.heap.size w w' := by
  obtain ⟨c1, hc1⟩ : ∃ c : Bool, c = (decide (0 ≤ fl) && decide (fl ≤ 1000000)) := ⟨_, rfl⟩
  obtain ⟨c2, hc2⟩ : ∃ c : Bool, c = (decide (0 ≤ co) && decide (co ≤ 1000000)) := ⟨_, rfl⟩
  have hW1 := fun w => s_in_any fl 0 1000000 w
  have hW2 := fun w => s_in_any co 0 1000000 w
  rw [← hc1] at hW1 ⊢
  rw [← hc2] at hW2 ⊢
  have HN1 := Lib.hid hW1
  have HN2 := Lib.hid hW2
  clear hc1 hc2 hW1 hW2
  cases c1
  · go_enter Tryz.func104, Tryz.ntmps104
    go_wp2_with fail
    refine (HN1.out _).mono ?_
    rintro e w2 ⟨rfl, rfl⟩
    go_wp2_with fail
    go_returns
    exact ⟨by simp, (by first | (go_grown; done) | (refine below_drewN ?_ _; go_grown; done) | (refine (below_drewN _ ?_); go_grown; done))⟩
  · go_enter Tryz.func104, Tryz.ntmps104
    go_wp2_with fail
    refine (HN1.out _).mono ?_
    rintro e w2 ⟨rfl, rfl⟩
    go_wp2_with fail
    refine (HN2.out _).mono ?_
    rintro e w2 ⟨rfl, rfl⟩
    go_wp2_with fail
    go_returns
    exact ⟨by simp, (by first | (go_grown; done) | (refine below_drewN ?_ _; go_grown; done) | (refine (below_drewN _ ?_); go_grown; done))⟩
theorem Agg.sOk_kind {k : Int} {s : Agg.S} (h : Agg.isKind k = false) : Agg.sOk k s = false := by simp [Agg.sOk, h]
theorem Agg.sOk_items {k : Int} {s : Agg.S} (h : Agg.itemsOk s.items = false) : Agg.sOk k s = false := by simp [Agg.sOk, h]
theorem Agg.sOk_counts {k : Int} {s : Agg.S} (h : ((decide (0 ≤ s.flips) && decide (s.flips ≤ 1000000)) && (decide (0 ≤ s.cost) && decide (s.cost ≤ 1000000))) = false) : Agg.sOk k s = false := by
  rcases Bool.and_eq_false_iff.1 h with h | h
  · exact Agg.sOk_flips h
  · exact Agg.sOk_cost h
set_option maxRecDepth 8000 in
set_option maxHeartbeats 16000000 in
theorem s_stacksValid_any (k : Int) (fa : Option Addr) (fn fc : Nat) (ia : Option Addr) (m ic : Nat) (bx by' bz fl co : Int) (F : List Agg.V) (I : List Int) (w : World) (hF : Vals w fa fn fc F) (hI : Nums .i64 w ia m ic I) (h1 : fn ≤ 4611686018427387) (h2 : m ≤ 4611686018427387) :
    Calls Tryz.prog 65 #[.int .i64 k, .agg #[.slice fa fn fc, .slice ia m ic, .int .i64 bx, .int .i64 by', .int .i64 bz, .int .i64 fl, .int .i64 co]] w fun e w' => e = .returned (.bool (Agg.sOk k ⟨F, I, ⟨bx, by', bz⟩, fl, co⟩)) ∧ Below w.heap.size w w' := by
  have hFl : F.length = fn := hF.1
  have hIl : I.length = m := hI.1
  have hfc := hF.2.1
  have hfm := hF.2.2.1
  unfold maxLen at hfm
  obtain ⟨b, hb⟩ : ∃ b, b = Agg.sOk k ⟨F, I, ⟨bx, by', bz⟩, fl, co⟩ := ⟨_, rfl⟩
  rw [← hb]
  have HBB := Lib.hid hb
  have HF := Lib.hid hF
  have HI := Lib.hid hI
  have HFL := Lib.hid hFl
  have HIL := Lib.hid hIl
  clear hb hF hI hFl hIl
  obtain ⟨kb, hkb⟩ : ∃ kb, kb = Agg.isKind k := ⟨_, rfl⟩
  have hK := fun w => s_kind_any k w
  rw [← hkb] at hK
  have HKB := Lib.hid hkb
  have HK := Lib.hid hK
  clear hkb hK
  cases kb
  · have hbf := Agg.sOk_kind (k := k) (s := ⟨F, I, ⟨bx, by', bz⟩, fl, co⟩) HKB.out.symm
    rw [← HBB.out] at hbf
    subst hbf
    go_enter Tryz.func65, Tryz.ntmps65
    go_wp2_with fail
    refine (HK.out _).mono ?_
    rintro e w2 ⟨rfl, rfl⟩
    go_wp2_with fail
    go_returns
    exact ⟨rfl, (by first | (go_grown; done) | (refine below_drewN ?_ _; go_grown; done) | (refine (below_drewN _ ?_); go_grown; done))⟩
  · have hk : Agg.isKind k = true := HKB.out.symm
    obtain ⟨cb, hcb⟩ : ∃ cb, cb = ((decide (0 ≤ fl) && decide (fl ≤ 1000000)) && (decide (0 ≤ co) && decide (co ≤ 1000000))) := ⟨_, rfl⟩
    have hC := fun w => s_counts_any fa fn fc ia m ic bx by' bz fl co w
    rw [← hcb] at hC
    have HCB := Lib.hid hcb
    have HC := Lib.hid hC
    have HKK := Lib.hid hk
    clear hcb hC hk
    cases cb
    · have hbf := Agg.sOk_counts (k := k) (s := ⟨F, I, ⟨bx, by', bz⟩, fl, co⟩) HCB.out.symm
      rw [← HBB.out] at hbf
      subst hbf
      go_enter Tryz.func65, Tryz.ntmps65
      go_wp2_with fail
      refine (HK.out _).mono ?_
      rintro e w2 ⟨rfl, rfl⟩
      go_wp2_with fail
      refine (HC.out _).mono ?_
      rintro e w1 ⟨rfl, hb1⟩
      have HW1 := Lib.hid (((Below.refl w.heap.size w).alloc (Nat.le_refl _) _).trans (hb1.mono (by simp)))
      clear hb1
      go_wp2_with fail
      go_returns
      exact ⟨rfl, HW1.out⟩
    · by_cases hf60 : 60 < fn
      · have hbf := Agg.sOk_size (k := k) (s := ⟨F, I, ⟨bx, by', bz⟩, fl, co⟩) (by have := HFL.out; have := HIL.out; simp [Agg.S.size]; omega)
        rw [← HBB.out] at hbf
        subst hbf
        have hf60' : (60 : Int) < (fn : Int) := by omega
        go_enter Tryz.func65, Tryz.ntmps65
        go_wp2_with fail
        refine (HK.out _).mono ?_
        rintro e w2 ⟨rfl, rfl⟩
        go_wp2_with fail
        refine (HC.out _).mono ?_
        rintro e w1 ⟨rfl, hb1⟩
        obtain ⟨hc1, hf1⟩ := bcell hb1
        have HW1 := Lib.hid (((Below.refl w.heap.size w).alloc (Nat.le_refl _) _).trans (hb1.mono (by simp)))
        clear hb1
        go_wp2_with fail
        go_returns
        exact ⟨rfl, HW1.out⟩
      · have hf60' : ¬ ((60 : Int) < (fn : Int)) := by omega
        obtain ⟨ib, hib⟩ : ∃ ib, ib = Agg.itemsOk I := ⟨_, rfl⟩
        have hIT := fun w h => s_items_any ia m ic I w h
        rw [← hib] at hIT
        have HIB := Lib.hid hib
        have HIT := Lib.hid hIT
        clear hib hIT
        cases ib
        · have hbf := Agg.sOk_items (k := k) (s := ⟨F, I, ⟨bx, by', bz⟩, fl, co⟩) HIB.out.symm
          rw [← HBB.out] at hbf
          subst hbf
          go_enter Tryz.func65, Tryz.ntmps65
          go_wp2_with fail
          refine (HK.out _).mono ?_
          rintro e w2 ⟨rfl, rfl⟩
          go_wp2_with fail
          refine (HC.out _).mono ?_
          rintro e w1 ⟨rfl, hb1⟩
          obtain ⟨hc1, hf1⟩ := bcell hb1
          have HW1 := Lib.hid (((Below.refl w.heap.size w).alloc (Nat.le_refl _) _).trans (hb1.mono (by simp)))
          clear hb1
          go_wp2_with fail
          refine (HIT.out _ (HI.out.below HW1.out)).mono ?_
          rintro e w2 ⟨rfl, rfl⟩
          go_wp2_with fail
          go_returns
          exact ⟨rfl, HW1.out⟩
        · by_cases hsz : 60 < fn + m
          · have hbf := Agg.sOk_size (k := k) (s := ⟨F, I, ⟨bx, by', bz⟩, fl, co⟩) (by have := HFL.out; have := HIL.out; simp [Agg.S.size]; omega)
            rw [← HBB.out] at hbf
            subst hbf
            have hsz' : (60 : Int) < (fn : Int) + (m : Int) := by omega
            go_enter Tryz.func65, Tryz.ntmps65
            go_wp2_with fail
            refine (HK.out _).mono ?_
            rintro e w2 ⟨rfl, rfl⟩
            go_wp2_with fail
            refine (HC.out _).mono ?_
            rintro e w1 ⟨rfl, hb1⟩
            obtain ⟨hc1, hf1⟩ := bcell hb1
            have HW1 := Lib.hid (((Below.refl w.heap.size w).alloc (Nat.le_refl _) _).trans (hb1.mono (by simp)))
            clear hb1
            go_wp2_with fail
            refine (HIT.out _ (HI.out.below HW1.out)).mono ?_
            rintro e w2 ⟨rfl, rfl⟩
            go_wp2_with fail
            go_returns
            exact ⟨rfl, HW1.out⟩
          · have hsz' : ¬ ((60 : Int) < (fn : Int) + (m : Int)) := by omega
            have hparts := Bool.and_eq_true_iff.1 HCB.out.symm
            have HP1 := Lib.hid hparts.1
            have HP2 := Lib.hid hparts.2
            clear hparts
            go_enter Tryz.func65, Tryz.ntmps65
            go_wp2_with fail
            refine (HK.out _).mono ?_
            rintro e w2 ⟨rfl, rfl⟩
            go_wp2_with fail
            refine (HC.out _).mono ?_
            rintro e w1 ⟨rfl, hb1⟩
            obtain ⟨hc1, hf1⟩ := bcell hb1
            have HW1 := Lib.hid (((Below.refl w.heap.size w).alloc (Nat.le_refl _) _).trans (hb1.mono (by simp)))
            have HX1 := Lib.hid (show Box7 w1 w.heap.size 31 (.slice fa fn fc) (.slice ia m ic) (.int .i64 bx) (.int .i64 by') (.int .i64 bz) (.int .i64 fl) (.int .i64 co) from (Box7.new w _ _ _ _ _ _ _ _).call hb1)
            clear hb1
            go_wp2_with fail
            refine (HIT.out _ (HI.out.below HW1.out)).mono ?_
            rintro e w2 ⟨rfl, rfl⟩
            go_wp2_with fail
            clear hc1 hf1
            go_loopw [5] (fun i wr => ∃ j : Nat, j ≤ fn ∧ i = .int .i64 j ∧ Hid (∀ i, i < j → Agg.valid k (F[i]?.getD Agg.zero) = true) ∧ Hid (Below w.heap.size w wr) ∧ Hid (Box7 wr w.heap.size 31 (.slice fa fn fc) (.slice ia m ic) (.int .i64 bx) (.int .i64 by') (.int .i64 bz) (.int .i64 fl) (.int .i64 co))) (fun i _ => fn - (intOf i).toNat)
            case atStart => exact ⟨0, Nat.zero_le _, rfl, Lib.hid (fun i hi => absurd hi (Nat.not_lt_zero _)), HW1, HX1⟩
            case round =>
              obtain ⟨j, hj, rfl, HV, HW, HX⟩ := hrel
              clear HW1 HX1
              have hwr := HW.out.size
              have hxl := HX.out.lt
              obtain ⟨q0, q1, q2, q3, q4, -, -⟩ := HX.out.cells
              by_cases hlt : j < fn
              · rcases HF.out.2.2.2 with h4 | ⟨fb, foff, rfl, hfb, hfcs⟩
                · omega
                · have hck := (HW.out.cell (p := ⟨fb, foff + j * 3, none⟩) hfb).trans (hfcs j hlt).1
                  have hcl := (HW.out.cell (p := ⟨fb, foff + j * 3 + 1, none⟩) hfb).trans (hfcs j hlt).2.1
                  have hcn := (HW.out.cell (p := ⟨fb, foff + j * 3 + 2, none⟩) hfb).trans (hfcs j hlt).2.2
                  clear hfcs
                  obtain ⟨⟨x, y, z⟩, hx⟩ : ∃ x, x = F[j]?.getD Agg.zero := ⟨_, rfl⟩
                  rw [← hx] at hck hcl hcn
                  have HXX := Lib.hid hx
                  clear hx
                  have hk0 : (0 : Int) ≤ (j : Int) := Int.natCast_nonneg _
                  have hkn : (j : Int) < (fn : Int) := by omega
                  obtain ⟨vb, hvb⟩ : ∃ vb, vb = Agg.ok k ⟨x, y, z⟩ := ⟨_, rfl⟩
                  have hVV := fun w => s_is_any k HKK.out x y z w
                  rw [← hvb] at hVV
                  have HVV := Lib.hid hVV
                  have HVB := Lib.hid hvb
                  clear hVV hvb
                  cases vb
                  · have hbf := Agg.sOk_front (k := k) (s := ⟨F, I, ⟨bx, by', bz⟩, fl, co⟩) (i := j) (by have := HFL.out; simp; omega) (by rw [← HXX.out, Agg.valid, ← HVB.out]; simp)
                    rw [← HBB.out] at hbf
                    subst hbf
                    go_wp2_with fail
                    refine (HVV.out _).mono ?_
                    rintro e w2 ⟨rfl, hb2⟩
                    have HW2 := Lib.hid (HW.out.trans (hb2.mono hwr))
                    clear hb2
                    go_wp2_with fail
                    go_returns
                    exact ⟨rfl, HW2.out⟩
                  · go_wp2_with fail
                    refine (HVV.out _).mono ?_
                    rintro e w2 ⟨rfl, hb2⟩
                    have HW2 := Lib.hid (HW.out.trans (hb2.mono hwr))
                    have HX2 := Lib.hid (HX.out.call hb2)
                    clear hb2
                    go_wp2_with fail
                    go_roundw
                    case rel => exact ⟨j + 1, by omega, by go_num, Lib.hid (fun i hi => by rcases Nat.lt_succ_iff_lt_or_eq.1 hi with h | rfl; exact HV.out i h; rw [← HXX.out, Agg.valid, HKK.out, ← HVB.out]; rfl), HW2, HX2⟩
                    case measure => simp [intOf]; omega
              · obtain rfl : j = fn := by omega
                have hrest := Agg.sOk_rest (k := k) (s := ⟨F, I, ⟨bx, by', bz⟩, fl, co⟩) (by have := HFL.out; have := HIL.out; simp [Agg.S.size]; omega) HP1.out HP2.out (by have := HFL.out; simpa [this] using HV.out)
                rw [← HBB.out] at hrest
                simp only [HKK.out, ← HIB.out, Bool.true_and] at hrest
                obtain ⟨⟨X, Y, Z⟩, hV⟩ : ∃ V, V = Agg.fold k I := ⟨_, rfl⟩
                have hFO := fun w h => s_fold_all k HKK.out ia m ic I w h HIB.out.symm
                have hokf := Agg.ok_fold_all HKK.out (l := I) HIB.out.symm
                rw [← hV] at hrest hFO hokf
                have HFO := Lib.hid hFO
                obtain ⟨vb, hvb⟩ : ∃ vb, vb = Agg.ok k ⟨bx, by', bz⟩ := ⟨_, rfl⟩
                have hVV := fun w => s_is_any k HKK.out bx by' bz w
                rw [← hvb] at hVV
                have HVV := Lib.hid hVV
                clear hVV hFO hV
                cases vb
                · have hbf : b = false := by
                    rw [hrest]
                    refine decide_eq_false (fun e => ?_)
                    rw [e, hokf] at hvb
                    cases hvb
                  subst hbf
                  clear hrest hokf hvb
                  go_wp2_with fail
                  first | go_region_with (go_at_call 106; refine (HVV.out _).mono ?_; rintro e w2 ⟨rfl, hb2⟩; have HW2 := Lib.hid (v_below_callD HW.out hb2); clear hb2) | fail
                  all_goals
                    go_wp2_with fail
                    go_returns
                    exact ⟨rfl, HW2.out⟩
                · by_cases heq : bx = X ∧ by' = Y ∧ bz = Z
                  · obtain ⟨rfl, rfl, rfl⟩ := heq
                    have hbf : b = true := by rw [hrest]; simp
                    subst hbf
                    clear hrest hokf hvb
                    go_wp2_with fail
                    go_region_with (first | (go_at_call 106; refine (HVV.out _).mono ?_; rintro e w2 ⟨rfl, hb2⟩; have HW2 := Lib.hid (v_below_callD HW.out hb2); have HX2 := Lib.hid (HX.out.callD hb2); have hx2 := HX2.out.lt; obtain ⟨p0, p1, p2, p3, p4, -, -⟩ := HX2.out.cells; clear hb2) | (go_at_call 107; refine (HFO.out _ (HI.out.below HW2.out)).mono ?_; rintro e w3 ⟨rfl, hb3⟩; have HW3 := Lib.hid (HW2.out.trans (hb3.mono HW2.out.size)); have HX3 := Lib.hid (HX2.out.call hb3); obtain ⟨o0, o1, o2, o3, o4, -, -⟩ := HX3.out.cells; clear hb3))
                    all_goals
                      go_wp2_with fail
                      go_returns
                      exact ⟨by first | rfl | simp, HW3.out⟩
                  · have hbf : b = false := by rw [hrest]; simpa using heq
                    subst hbf
                    clear hrest hokf hvb
                    obtain heq3 : ¬ (bx = X) ∨ (bx = X ∧ ¬ (by' = Y)) ∨ (bx = X ∧ by' = Y ∧ ¬ (bz = Z)) := by
                      by_cases e1 : bx = X
                      · by_cases e2 : by' = Y
                        · exact .inr (.inr ⟨e1, e2, fun e3 => heq ⟨e1, e2, e3⟩⟩)
                        · exact .inr (.inl ⟨e1, e2⟩)
                      · exact .inl e1
                    clear heq
                    rcases heq3 with hne | ⟨rfl, hne⟩ | ⟨rfl, rfl, hne⟩
                    all_goals
                      go_wp2_with fail
                      go_region_with (first | (go_at_call 106; refine (HVV.out _).mono ?_; rintro e w2 ⟨rfl, hb2⟩; have HW2 := Lib.hid (v_below_callD HW.out hb2); have HX2 := Lib.hid (HX.out.callD hb2); have hx2 := HX2.out.lt; obtain ⟨p0, p1, p2, p3, p4, -, -⟩ := HX2.out.cells; clear hb2) | (go_at_call 107; refine (HFO.out _ (HI.out.below HW2.out)).mono ?_; rintro e w3 ⟨rfl, hb3⟩; have HW3 := Lib.hid (HW2.out.trans (hb3.mono HW2.out.size)); have HX3 := Lib.hid (HX2.out.call hb3); obtain ⟨o0, o1, o2, o3, o4, -, -⟩ := HX3.out.cells; clear hb3))
                      all_goals
                        go_wp2_with fail
                        go_returns
                        exact ⟨by first | rfl | simp, HW3.out⟩
end Go.Proofs.YticoalgnkddapaaGreat
