/-
  Valid queues in the model.
-/
import Derived.Test.Ytflmkojpblpofaa4w
import Derived.Deep.DeepMust
import Derived.Test.Ytflmkojpblpofaa4m
import Derived.Test.Ytflmkojpblpofaa3a
import Derived.Test.YtflmkojpblpofaaL
import Derived.Deep.RegionHeld3
import Derived.IntWalk
namespace Go.Proofs.Ytflmkojpblpofaa
set_option linter.unusedSimpArgs false
set_option linter.unusedVariables false
open Go.RowKit
set_option maxRecDepth 8000 in
set_option maxHeartbeats 1000000 in
theorem s_queueValid_loop (k : Int) (ia : Option Addr) (fn ic : Nat) (fa : Option Addr) (fc : Nat) (pl pr pa pb co : Int) (F : List Agg.V) (I : List Int) (w : World) (hF : Vals w fa fn fc F) (hI : Nums .i64 w ia fn ic I)
    (hk : Agg.isKind k = true) (hit : Agg.itemsOk I = true) (hpo : Agg.placesOk fn pl pr pa pb = true) (hco : (decide (0 ≤ co) && decide (co ≤ 1000000)) = true) :
    Calls Try.prog 11 #[.int .i64 k, .agg #[.slice ia fn ic, .slice fa fn fc, .int .i64 pl, .int .i64 pr, .int .i64 pa, .int .i64 pb, .int .i64 co]] w fun e w' => e = .returned (.bool (Agg.qOk k ⟨I, F, pl, pr, pa, pb, co⟩)) ∧ Below w.heap.size w w' := by
  have hFl : F.length = fn := hF.1
  have hIl : I.length = fn := hI.1
  have hfc := hF.2.1
  have hfm := hF.2.2.1
  unfold maxLen at hfm
  have hic := hI.2.1
  have him := hI.2.2.1
  unfold maxLen at him
  obtain ⟨b, hb⟩ : ∃ b, b = Agg.qOk k ⟨I, F, pl, pr, pa, pb, co⟩ := ⟨_, rfl⟩
  rw [← hb]
  have HBB := Lib.hid hb
  have HF := Lib.hid hF
  have HI := Lib.hid hI
  have HFL := Lib.hid hFl
  have HIL := Lib.hid hIl
  clear hb hF hI hFl hIl
  have hm60 : fn ≤ 60 := by have := Agg.items_len hit; have := HIL.out; omega
  have hK := fun w => s_kind_any k w
  rw [hk] at hK
  have HK := Lib.hid hK
  have HKB := Lib.hid hk.symm
  have hIT := fun w h => s_items_any ia fn ic I w h
  rw [hit] at hIT
  have HIT := Lib.hid hIT
  have HIB := Lib.hid hit.symm
  have hC := fun w => s_in_any co 0 1000000 w
  rw [hco] at hC
  have HC := Lib.hid hC
  have HCB := Lib.hid hco.symm
  have hP := fun w => s_places_any ia fn ic fa fn fc pl pr pa pb co w hm60
  rw [hpo] at hP
  have HP := Lib.hid hP
  have HPP := Lib.hid hpo.symm
  clear hK hIT hC hP hk hit hco hpo
  have HAG := Lib.hid (fun w h => s_aggs_any k HKB.out.symm ia fn ic fa fn fc pl pr pa pb co I w h HIB.out.symm HPP.out.symm)
  go_enter Try.func11, Try.ntmps11
  go_wp2_with fail
  refine (HK.out _).mono ?_
  rintro e w2 ⟨rfl, rfl⟩
  go_wp2_with fail
  refine (HIT.out _ (HI.out.below (by go_grown))).mono ?_
  rintro e w2 ⟨rfl, rfl⟩
  go_wp2_with fail
  refine (HP.out _).mono ?_
  rintro e w1 ⟨rfl, hb1⟩
  have HW1 := Lib.hid (((Below.refl w.heap.size w).alloc (Nat.le_refl _) _).trans (hb1.mono (by simp)))
  have HX1 := Lib.hid (show Box7 w1 w.heap.size 25 (.slice ia fn ic) (.slice fa fn fc) (.int .i64 pl) (.int .i64 pr) (.int .i64 pa) (.int .i64 pb) (.int .i64 co) from (Box7.new w _ _ _ _ _ _ _ _).call hb1)
  obtain ⟨q0, q1, q2, q3, q4, q5, q6⟩ := HX1.out.cells
  clear hb1
  go_wp2_with fail
  refine (HC.out _).mono ?_
  rintro e w2 ⟨rfl, rfl⟩
  go_wp2_with fail
  refine (HAG.out _ (HI.out.below HW1.out)).mono ?_
  rintro e w3 ⟨v3, rfl, ho3, hb3⟩
  have HW3 := Lib.hid (HW1.out.trans (hb3.mono HW1.out.size))
  have HX3 := Lib.hid (HX1.out.call hb3)
  obtain ⟨va, vc, rfl, hv3⟩ := ho3.vals
  have HV3 := Lib.hid hv3
  have hvc := hv3.2.1
  have hvm := hv3.2.2.1
  unfold maxLen at hvm
  clear hb3 ho3 hv3 HX1 HW1 q0 q1 q2 q3 q4 q5 q6
  go_wp2_with fail
  go_loopw [6] (fun i wr => ∃ j : Nat, j ≤ fn ∧ i = .int .i64 j ∧ Hid (∀ i, i < j → F[i]?.getD Agg.zero = Agg.rowAgg k I pl pr pa pb i) ∧ Hid (Below w3.heap.size w3 wr)) (fun i _ => fn - (intOf i).toNat)
  case atStart => exact ⟨0, Nat.zero_le _, rfl, Lib.hid (fun i hi => absurd hi (Nat.not_lt_zero _)), Lib.hid (Below.refl _ _)⟩
  case round =>
    obtain ⟨j, hj, rfl, HV, HW⟩ := hrel
    have hx := (HX3.out.call HW.out).cells
    have hb := (HW3.out.trans (HW.out.mono HW3.out.size))
    by_cases hlt : j < fn
    · rcases (HF.out.below hb).2.2.2 with h4 | ⟨fb, foff, rfl, hfb, hfcs⟩
      · omega
      · rcases (HV3.out.below HW.out).2.2.2 with h4 | ⟨vb, voff, rfl, hvb, hvcs⟩
        · omega
        · obtain ⟨hck, hcl, hcn⟩ := hfcs j hlt
          obtain ⟨hdk, hdl, hdn⟩ := hvcs j hlt
          rw [Agg.want_at k I pl pr pa pb (by have := HIL.out; omega)] at hdk hdl hdn
          clear hfcs hvcs
          obtain ⟨⟨x, y, z⟩, hx0⟩ : ∃ x, x = F[j]?.getD Agg.zero := ⟨_, rfl⟩
          obtain ⟨⟨X, Y, Z⟩, hV⟩ : ∃ V, V = Agg.rowAgg k I pl pr pa pb j := ⟨_, rfl⟩
          rw [← hx0] at hck hcl hcn
          rw [← hV] at hdk hdl hdn
          have HXX := Lib.hid hx0
          have HV2 := Lib.hid hV
          have HB := Lib.hid hb
          clear hx0 hV hb
          have hk0 : (0 : Int) ≤ (j : Int) := Int.natCast_nonneg _
          have hkn : (j : Int) < (fn : Int) := by omega
          obtain ⟨q0, q1, q2, q3, q4, q5, q6⟩ := hx
          by_cases heq : x = X ∧ y = Y ∧ z = Z
          · obtain ⟨rfl, rfl, rfl⟩ := heq
            go_wp2_with fail
            go_quiet (fail)
            go_wp2_with fail
            go_roundw
            case rel => exact ⟨j + 1, by omega, by go_num, Lib.hid (fun i hi => by rcases Nat.lt_succ_iff_lt_or_eq.1 hi with h | rfl; exact HV.out i h; rw [← HXX.out, ← HV2.out]), Lib.hid (below_drewN HW.out _)⟩
            case measure => simp [intOf]; omega
          · have hbf := Agg.qOk_at (k := k) (q := ⟨I, F, pl, pr, pa, pb, co⟩) (i := j) (by have := HIL.out; simp; omega) (by rw [← HXX.out, ← HV2.out]; simpa using heq)
            rw [← HBB.out] at hbf
            subst hbf
            obtain heq3 : ¬ (x = X) ∨ (x = X ∧ ¬ (y = Y)) ∨ (x = X ∧ y = Y ∧ ¬ (z = Z)) := by
              by_cases e1 : x = X
              · by_cases e2 : y = Y
                · exact .inr (.inr ⟨e1, e2, fun e3 => heq ⟨e1, e2, e3⟩⟩)
                · exact .inr (.inl ⟨e1, e2⟩)
              · exact .inl e1
            clear heq
            rcases heq3 with hne | ⟨rfl, hne⟩ | ⟨rfl, rfl, hne⟩
            all_goals
              go_wp2_with fail
              go_quiet (fail)
              go_wp2_with fail
              go_returns
              exact ⟨rfl, below_drewN HB.out _⟩
    · obtain rfl : j = fn := by omega
      have hbt : b = true := by
        rw [HBB.out]
        exact Agg.qOk_of HKB.out.symm HIB.out.symm (by have := HFL.out; have := HIL.out; simp; omega) (by simp only [HIL.out]; exact HPP.out.symm) (by have := HCB.out.symm; rw [← Bool.decide_and, decide_eq_true_eq] at this; exact this) (Agg.aggs_want (by have := HFL.out; have := HIL.out; simp; omega) (fun i hi => HV.out i (by have := HIL.out; simp at hi; omega)))
      subst hbt
      have HB := Lib.hid hb
      clear hx hb
      go_wp2_with fail
      go_returns
      exact ⟨rfl, HB.out⟩
set_option maxRecDepth 8000 in
set_option maxHeartbeats 8000000 in
theorem s_queueValid_any (k : Int) (ia : Option Addr) (m ic : Nat) (fa : Option Addr) (fn fc : Nat) (pl pr pa pb co : Int) (F : List Agg.V) (I : List Int) (w : World) (hF : Vals w fa fn fc F) (hI : Nums .i64 w ia m ic I) (h1 : fn ≤ 4611686018427387) (h2 : m ≤ 4611686018427387) :
    Calls Try.prog 11 #[.int .i64 k, .agg #[.slice ia m ic, .slice fa fn fc, .int .i64 pl, .int .i64 pr, .int .i64 pa, .int .i64 pb, .int .i64 co]] w fun e w' => e = .returned (.bool (Agg.qOk k ⟨I, F, pl, pr, pa, pb, co⟩)) ∧ Below w.heap.size w w' := by
  have hFl : F.length = fn := hF.1
  have hIl : I.length = m := hI.1
  have hfc := hF.2.1
  have hfm := hF.2.2.1
  unfold maxLen at hfm
  have hic := hI.2.1
  have him := hI.2.2.1
  unfold maxLen at him
  obtain ⟨b, hb⟩ : ∃ b, b = Agg.qOk k ⟨I, F, pl, pr, pa, pb, co⟩ := ⟨_, rfl⟩
  rw [← hb]
  have HBB := Lib.hid hb
  have HF := Lib.hid hF
  have HI := Lib.hid hI
  have HFL := Lib.hid hFl
  have HIL := Lib.hid hIl
  clear hb hF hI hFl hIl
  obtain ⟨kb, hkb⟩ : ∃ kb, kb = Agg.isKind k := ⟨_, rfl⟩
  have hK := fun w => s_kind_any k w
  rw [← hkb] at hK
  have HKB := Lib.hid hkb
  have HK := Lib.hid hK
  clear hkb hK
  obtain ⟨ib, hib⟩ : ∃ ib, ib = Agg.itemsOk I := ⟨_, rfl⟩
  have hIT := fun w h => s_items_any ia m ic I w h
  rw [← hib] at hIT
  have HIB := Lib.hid hib
  have HIT := Lib.hid hIT
  clear hib hIT
  cases kb
  · have hbf := Agg.qOk_kind (k := k) (q := ⟨I, F, pl, pr, pa, pb, co⟩) HKB.out.symm
    rw [← HBB.out] at hbf
    subst hbf
    go_enter Try.func11, Try.ntmps11
    go_wp2_with fail
    refine (HK.out _).mono ?_
    rintro e w2 ⟨rfl, rfl⟩
    go_wp2_with fail
    go_returns
    exact ⟨rfl, (by first | (go_grown; done) | (refine below_drewN ?_ _; go_grown; done) | (refine (below_drewN _ ?_); go_grown; done))⟩
  · cases ib
    · have hbf := Agg.qOk_items (k := k) (q := ⟨I, F, pl, pr, pa, pb, co⟩) HIB.out.symm
      rw [← HBB.out] at hbf
      subst hbf
      go_enter Try.func11, Try.ntmps11
      go_wp2_with fail
      refine (HK.out _).mono ?_
      rintro e w2 ⟨rfl, rfl⟩
      go_wp2_with fail
      refine (HIT.out _ (HI.out.below (by go_grown))).mono ?_
      rintro e w2 ⟨rfl, rfl⟩
      go_wp2_with fail
      go_returns
      exact ⟨rfl, (by first | (go_grown; done) | (refine below_drewN ?_ _; go_grown; done) | (refine (below_drewN _ ?_); go_grown; done))⟩
    · by_cases hlen : fn = m
      · subst hlen
        have hm60 : fn ≤ 60 := by have := Agg.items_len HIB.out.symm; have := HIL.out; omega
        obtain ⟨pp, hpp⟩ : ∃ pp, pp = Agg.placesOk fn pl pr pa pb := ⟨_, rfl⟩
        have hP := fun w => s_places_any ia fn ic fa fn fc pl pr pa pb co w hm60
        rw [← hpp] at hP
        have HPP := Lib.hid hpp
        have HP := Lib.hid hP
        clear hpp hP
        cases pp
        · have hbf := Agg.qOk_places (k := k) (q := ⟨I, F, pl, pr, pa, pb, co⟩) (by simp only [HIL.out]; exact HPP.out.symm)
          rw [← HBB.out] at hbf
          subst hbf
          go_enter Try.func11, Try.ntmps11
          go_wp2_with fail
          refine (HK.out _).mono ?_
          rintro e w2 ⟨rfl, rfl⟩
          go_wp2_with fail
          refine (HIT.out _ (HI.out.below (by go_grown))).mono ?_
          rintro e w2 ⟨rfl, rfl⟩
          go_wp2_with fail
          refine (HP.out _).mono ?_
          rintro e w1 ⟨rfl, hb1⟩
          have HW1 := Lib.hid (((Below.refl w.heap.size w).alloc (Nat.le_refl _) _).trans (hb1.mono (by simp)))
          clear hb1
          go_wp2_with fail
          go_returns
          exact ⟨rfl, HW1.out⟩
        · obtain ⟨cb, hcb⟩ : ∃ cb, cb = (decide (0 ≤ co) && decide (co ≤ 1000000)) := ⟨_, rfl⟩
          have hC := fun w => s_in_any co 0 1000000 w
          rw [← hcb] at hC
          have HCB := Lib.hid hcb
          have HC := Lib.hid hC
          clear hcb hC
          cases cb
          · have hbf := Agg.qOk_cost (k := k) (q := ⟨I, F, pl, pr, pa, pb, co⟩) HCB.out.symm
            rw [← HBB.out] at hbf
            subst hbf
            go_enter Try.func11, Try.ntmps11
            go_wp2_with fail
            refine (HK.out _).mono ?_
            rintro e w2 ⟨rfl, rfl⟩
            go_wp2_with fail
            refine (HIT.out _ (HI.out.below (by go_grown))).mono ?_
            rintro e w2 ⟨rfl, rfl⟩
            go_wp2_with fail
            refine (HP.out _).mono ?_
            rintro e w1 ⟨rfl, hb1⟩
            have HW1 := Lib.hid (((Below.refl w.heap.size w).alloc (Nat.le_refl _) _).trans (hb1.mono (by simp)))
            have HX1 := Lib.hid (show Box7 w1 w.heap.size 25 (.slice ia fn ic) (.slice fa fn fc) (.int .i64 pl) (.int .i64 pr) (.int .i64 pa) (.int .i64 pb) (.int .i64 co) from (Box7.new w _ _ _ _ _ _ _ _).call hb1)
            obtain ⟨q0, q1, q2, q3, q4, q5, q6⟩ := HX1.out.cells
            clear hb1
            go_wp2_with fail
            refine (HC.out _).mono ?_
            rintro e w2 ⟨rfl, rfl⟩
            go_wp2_with fail
            go_returns
            exact ⟨rfl, HW1.out⟩
          · have h := s_queueValid_loop k ia fn ic fa fc pl pr pa pb co F I w HF.out HI.out HKB.out.symm HIB.out.symm HPP.out.symm HCB.out.symm
            rw [← HBB.out] at h
            exact h
      · have hbf := Agg.qOk_len (k := k) (q := ⟨I, F, pl, pr, pa, pb, co⟩) (by have := HFL.out; have := HIL.out; simp; omega)
        rw [← HBB.out] at hbf
        subst hbf
        have hlen' : ¬ ((fn : Int) = (m : Int)) := by omega
        go_enter Try.func11, Try.ntmps11
        go_wp2_with fail
        refine (HK.out _).mono ?_
        rintro e w2 ⟨rfl, rfl⟩
        go_wp2_with fail
        refine (HIT.out _ (HI.out.below (by go_grown))).mono ?_
        rintro e w2 ⟨rfl, rfl⟩
        go_wp2_with fail
        go_returns
        exact ⟨rfl, (by first | (go_grown; done) | (refine below_drewN ?_ _; go_grown; done) | (refine (below_drewN _ ?_); go_grown; done))⟩
end Go.Proofs.Ytflmkojpblpofaa
