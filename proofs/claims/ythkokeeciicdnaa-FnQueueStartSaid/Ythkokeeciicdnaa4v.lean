/-
  Whether a queue is valid, in the program.
-/
import Derived.Test.Ythkokeeciicdnaa4q
import Derived.Test.Ythkokeeciicdnaa4m
import Derived.Deep.DeepCutAuto
import Derived.Test.YthkokeeciicdnaaM
import Derived.Test.YthkokeeciicdnaaN
import Derived.Test.YthkokeeciicdnaaL
import Derived.Deep.RegionHeld3
import Derived.IntWalk
namespace Go.Proofs.Ythkokeeciicdnaa
set_option linter.unusedSimpArgs false
set_option linter.unusedVariables false
open Go.RowKit
theorem row_has {e l r a b : Int} (h : Agg.placesOk e l r a b = true) {i : Int} (h0 : 0 ≤ i) (h1 : i < e) : Agg.rowLo l r a b i ≤ i ∧ i < Agg.rowHi l r a b i := by
  obtain ⟨p1, p2, p3, p4, p5, p6, p7, p8⟩ := Agg.places_of h (by omega)
  unfold Agg.rowLo Agg.rowHi
  constructor <;> (repeat' split) <;> omega
set_option maxRecDepth 8000 in
set_option maxHeartbeats 2000000 in
theorem queueValid_loop (k : Int) (ia : Option Addr) (fn ic : Nat) (fa : Option Addr) (fc : Nat) (pl pr pa pb co : Int) (F : List Agg.V) (I : List Int) (w : World) (hF : Vals w fa fn fc F) (hI : Nums .i64 w ia fn ic I)
    (hk : Agg.isKind k = true) (hit : Agg.itemsOk I = true) (hpo : Agg.placesOk fn pl pr pa pb = true) (hco : (decide (0 ≤ co) && decide (co ≤ 1000000)) = true) :
    Calls Try.prog 12 #[.int .i64 k, .agg #[.slice ia fn ic, .slice fa fn fc, .int .i64 pl, .int .i64 pr, .int .i64 pa, .int .i64 pb, .int .i64 co]] w fun e w' => e = .returned (.bool (Agg.qOk k ⟨I, F, pl, pr, pa, pb, co⟩)) ∧ Below w.heap.size w w' := by
  have hFl : F.length = fn := hF.1
  have hIl : I.length = fn := hI.1
  have hfc := hF.2.1
  have hfm := hF.2.2.1
  unfold maxLen at hfm
  have hic := hI.2.1
  have him := hI.2.2.1
  unfold maxLen at him
  obtain ⟨b, hb⟩ : ∃ b, b = Agg.qOk k ⟨I, F, pl, pr, pa, pb, co⟩ := ⟨_, rfl⟩
  rw [← hb]
  have HBB := Lib.hid hb
  have HF := Lib.hid hF
  have HI := Lib.hid hI
  have HFL := Lib.hid hFl
  have HIL := Lib.hid hIl
  clear hb hF hI hFl hIl
  have hm60 : fn ≤ 60 := by have := Agg.items_len hit; have := HIL.out; omega
  have hK := fun w => kindValid_any k w
  rw [hk] at hK
  have HK := Lib.hid hK
  have HKB := Lib.hid hk.symm
  have hIT := fun w h => areItems_any ia fn ic I w h
  rw [hit] at hIT
  have HIT := Lib.hid hIT
  have HIB := Lib.hid hit.symm
  have hC := fun w => within_any co 0 1000000 w
  rw [hco] at hC
  have HC := Lib.hid hC
  have HCB := Lib.hid hco.symm
  have hP := fun w => placesFit_any ia fn ic fa fn fc pl pr pa pb co w hm60
  rw [hpo] at hP
  have HP := Lib.hid hP
  have HPP := Lib.hid hpo.symm
  clear hK hIT hC hP hk hit hco hpo
  go_enter Try.func12, Try.ntmps12
  go_wp2_with fail
  refine (HK.out _).mono ?_
  rintro e w2 ⟨rfl, rfl⟩
  go_wp2_with fail
  refine (HIT.out _ (HI.out.below (by go_grown))).mono ?_
  rintro e w2 ⟨rfl, rfl⟩
  go_wp2_with fail
  refine (HC.out _).mono ?_
  rintro e w2 ⟨rfl, rfl⟩
  go_wp2_with fail
  refine (HP.out _).mono ?_
  rintro e w1 ⟨rfl, hb1⟩
  have HW1 := Lib.hid (((Below.refl w.heap.size w).alloc (Nat.le_refl _) _).trans (hb1.mono (by simp)))
  have HX1 := Lib.hid (show Box7 w1 w.heap.size 27 (.slice ia fn ic) (.slice fa fn fc) (.int .i64 pl) (.int .i64 pr) (.int .i64 pa) (.int .i64 pb) (.int .i64 co) from (Box7.new w _ _ _ _ _ _ _ _).call hb1)
  obtain ⟨q0, q1, q2, q3, q4, q5, q6⟩ := HX1.out.cells
  clear hb1
  go_wp2_with fail
  clear q0 q1 q2 q3 q4 q5 q6
  go_loopw [41] (fun i wr => ∃ j : Nat, j ≤ fn ∧ i = .int .i64 j ∧ Hid (∀ i, i < j → F[i]?.getD Agg.zero = Agg.rowAgg k I pl pr pa pb i) ∧ Hid (Below w.heap.size w wr) ∧ Hid (Box7 wr w.heap.size 27 (.slice ia fn ic) (.slice fa fn fc) (.int .i64 pl) (.int .i64 pr) (.int .i64 pa) (.int .i64 pb) (.int .i64 co))) (fun i _ => fn - (intOf i).toNat)
  case atStart => exact ⟨0, Nat.zero_le _, rfl, Lib.hid (fun i hi => absurd hi (Nat.not_lt_zero _)), HW1, HX1⟩
  case round =>
    obtain ⟨j, hj, rfl, HV, HW, HX⟩ := hrel
    clear HW1 HX1
    have hwr := HW.out.size
    have hxl := HX.out.lt
    obtain ⟨q0, q1, q2, q3, q4, q5, q6⟩ := HX.out.cells
    by_cases hlt : j < fn
    · rcases HF.out.2.2.2 with h4 | ⟨fb, foff, rfl, hfb, hfcs⟩
      · omega
      · rcases HI.out.2.2.2 with h4 | ⟨ib, ioff, rfl, hib, hics⟩
        · omega
        · have hck := (HW.out.cell (p := ⟨fb, foff + j * 3, none⟩) hfb).trans (hfcs j hlt).1
          have hcl := (HW.out.cell (p := ⟨fb, foff + j * 3 + 1, none⟩) hfb).trans (hfcs j hlt).2.1
          have hcn := (HW.out.cell (p := ⟨fb, foff + j * 3 + 2, none⟩) hfb).trans (hfcs j hlt).2.2
          clear hfcs hics
          obtain ⟨⟨x, y, z⟩, hx⟩ : ∃ x, x = F[j]?.getD Agg.zero := ⟨_, rfl⟩
          rw [← hx] at hck hcl hcn
          have HXX := Lib.hid hx
          clear hx
          have hk0 : (0 : Int) ≤ (j : Int) := Int.natCast_nonneg _
          have hkn : (j : Int) < (fn : Int) := by omega
          have hrow := Agg.row_in HPP.out.symm hk0 hkn
          obtain ⟨lo, hlo⟩ := Int.eq_ofNat_of_zero_le hrow.1
          obtain ⟨hi, hhi⟩ := Int.eq_ofNat_of_zero_le (show 0 ≤ Agg.rowHi pl pr pa pb j by omega)
          rw [hlo, hhi] at hrow
          have hle : lo < hi := by have := row_has HPP.out.symm hk0 hkn; rw [hlo, hhi] at this; omega
          have hhm : hi ≤ fn := by omega
          clear hrow
          have hRA := fun w => rowAt_any (some ⟨ib, ioff, none⟩) fn ic (some ⟨fb, foff, none⟩) fn fc pl pr pa pb co (j : Int) w hk0 (by omega)
          rw [hlo, hhi] at hRA
          have hNS := Nums.sub HI.out (i := lo) (s := hi - lo) (by omega)
          obtain ⟨⟨X, Y, Z⟩, hV⟩ : ∃ V, V = Agg.rowAgg k I pl pr pa pb j := ⟨_, rfl⟩
          have hFO := fun w h => foldItems_any k (some ⟨ib, ioff + lo, none⟩) (hi - lo) (ic - lo) ((I.drop lo).take (hi - lo)) w h
          have hpe : (I.drop lo).take (hi - lo) = Agg.part I (Agg.rowLo pl pr pa pb j) (Agg.rowHi pl pr pa pb j) := by rw [hlo, hhi, Agg.part]; congr 1; omega
          rw [Agg.aFold_of HKB.out.symm (by rw [hpe]; exact Agg.part_items HIB.out.symm _ _)] at hFO
          rw [show Agg.fold k ((I.drop lo).take (hi - lo)) = ⟨X, Y, Z⟩ by rw [hpe, hV]; rfl] at hFO
          have HRA := Lib.hid hRA
          have HNS := Lib.hid hNS
          have HFO := Lib.hid hFO
          have HV2 := Lib.hid hV
          clear hRA hNS hFO hV hpe hlo hhi
          go_wp2_with fail
          refine (HRA.out _).mono ?_
          rintro e w2 ⟨rfl, hb2⟩
          have HB2 := Lib.hid ((Box.new wr 32 x y z).call hb2)
          have HX2 := Lib.hid ((HX.out.alloc _).call hb2)
          have HW2 := Lib.hid ((HW.out.alloc hwr _).trans (hb2.mono (by simp; omega)))
          clear hb2 q0 q1 q2 q3 q4 q5 q6 hck hcl hcn
          obtain ⟨q0, q1, q2, q3, q4, q5, q6⟩ := HX2.out.cells
          go_wp2_with fail
          refine (HFO.out _ (HNS.out.below HW2.out)).mono ?_
          rintro e w3 ⟨rfl, hb3⟩
          have HB3 := Lib.hid (HB2.out.call hb3)
          have HX3 := Lib.hid (HX2.out.call hb3)
          have HW3 := Lib.hid (HW2.out.trans (hb3.mono HW2.out.size))
          have hl3 := HB3.out.lt
          have hs3 := HW3.out.size
          clear hb3 HB2 HX2 HW2 q0 q1 q2 q3 q4 q5 q6
          obtain ⟨v0, v1, v2⟩ := HB3.out.cells
          by_cases heq : x = X ∧ y = Y ∧ z = Z
          · obtain ⟨rfl, rfl, rfl⟩ := heq
            go_wp2_with fail
            go_roundw
            case rel => exact ⟨j + 1, by omega, by go_num, Lib.hid (fun i hi => by rcases Nat.lt_succ_iff_lt_or_eq.1 hi with h | rfl; exact HV.out i h; rw [← HXX.out, ← HV2.out]), Lib.hid (HW3.out.alloc hs3 _), Lib.hid (HX3.out.alloc _)⟩
            case measure => simp [intOf]; omega
          · have hbf := Agg.qOk_at (k := k) (q := ⟨I, F, pl, pr, pa, pb, co⟩) (i := j) (by have := HIL.out; simp; omega) (by rw [← HXX.out, ← HV2.out]; simpa using heq)
            rw [← HBB.out] at hbf
            subst hbf
            obtain heq3 : ¬ (x = X) ∨ (x = X ∧ ¬ (y = Y)) ∨ (x = X ∧ y = Y ∧ ¬ (z = Z)) := by
              by_cases e1 : x = X
              · by_cases e2 : y = Y
                · exact .inr (.inr ⟨e1, e2, fun e3 => heq ⟨e1, e2, e3⟩⟩)
                · exact .inr (.inl ⟨e1, e2⟩)
              · exact .inl e1
            clear heq
            rcases heq3 with hne | ⟨rfl, hne⟩ | ⟨rfl, rfl, hne⟩
            all_goals
              go_wp2_with fail
              go_returns
              exact ⟨rfl, HW3.out.alloc hs3 _⟩
    · obtain rfl : j = fn := by omega
      have hbt : b = true := by
        rw [HBB.out]
        exact Agg.qOk_of HKB.out.symm HIB.out.symm (by have := HFL.out; have := HIL.out; simp; omega) (by simp only [HIL.out]; exact HPP.out.symm) (by have := HCB.out.symm; rw [← Bool.decide_and, decide_eq_true_eq] at this; exact this) (Agg.aggs_want (by have := HFL.out; have := HIL.out; simp; omega) (fun i hi => HV.out i (by have := HIL.out; simp at hi; omega)))
      subst hbt
      go_wp2_with fail
      go_returns
      exact ⟨rfl, HW.out⟩
set_option maxRecDepth 8000 in
set_option maxHeartbeats 20000000 in
theorem queueValid_any (k : Int) (ia : Option Addr) (m ic : Nat) (fa : Option Addr) (fn fc : Nat) (pl pr pa pb co : Int) (F : List Agg.V) (I : List Int) (w : World) (hF : Vals w fa fn fc F) (hI : Nums .i64 w ia m ic I) (h1 : fn ≤ 4611686018427387) (h2 : m ≤ 4611686018427387) :
    Calls Try.prog 12 #[.int .i64 k, .agg #[.slice ia m ic, .slice fa fn fc, .int .i64 pl, .int .i64 pr, .int .i64 pa, .int .i64 pb, .int .i64 co]] w fun e w' => e = .returned (.bool (Agg.qOk k ⟨I, F, pl, pr, pa, pb, co⟩)) ∧ Below w.heap.size w w' := by
  have hFl : F.length = fn := hF.1
  have hIl : I.length = m := hI.1
  have hfc := hF.2.1
  have hfm := hF.2.2.1
  unfold maxLen at hfm
  have hic := hI.2.1
  have him := hI.2.2.1
  unfold maxLen at him
  obtain ⟨b, hb⟩ : ∃ b, b = Agg.qOk k ⟨I, F, pl, pr, pa, pb, co⟩ := ⟨_, rfl⟩
  rw [← hb]
  have HBB := Lib.hid hb
  have HF := Lib.hid hF
  have HI := Lib.hid hI
  have HFL := Lib.hid hFl
  have HIL := Lib.hid hIl
  clear hb hF hI hFl hIl
  obtain ⟨kb, hkb⟩ : ∃ kb, kb = Agg.isKind k := ⟨_, rfl⟩
  have hK := fun w => kindValid_any k w
  rw [← hkb] at hK
  have HKB := Lib.hid hkb
  have HK := Lib.hid hK
  clear hkb hK
  obtain ⟨ib, hib⟩ : ∃ ib, ib = Agg.itemsOk I := ⟨_, rfl⟩
  have hIT := fun w h => areItems_any ia m ic I w h
  rw [← hib] at hIT
  have HIB := Lib.hid hib
  have HIT := Lib.hid hIT
  clear hib hIT
  cases kb
  · have hbf := Agg.qOk_kind (k := k) (q := ⟨I, F, pl, pr, pa, pb, co⟩) HKB.out.symm
    rw [← HBB.out] at hbf
    subst hbf
    go_enter Try.func12, Try.ntmps12
    go_wp2_with fail
    refine (HK.out _).mono ?_
    rintro e w2 ⟨rfl, rfl⟩
    go_wp2_with fail
    go_returns
    exact ⟨rfl, (by first | (go_grown; done) | (refine below_drewN ?_ _; go_grown; done) | (refine (below_drewN _ ?_); go_grown; done))⟩
  · cases ib
    · have hbf := Agg.qOk_items (k := k) (q := ⟨I, F, pl, pr, pa, pb, co⟩) HIB.out.symm
      rw [← HBB.out] at hbf
      subst hbf
      go_enter Try.func12, Try.ntmps12
      go_wp2_with fail
      refine (HK.out _).mono ?_
      rintro e w2 ⟨rfl, rfl⟩
      go_wp2_with fail
      refine (HIT.out _ (HI.out.below (by go_grown))).mono ?_
      rintro e w2 ⟨rfl, rfl⟩
      go_wp2_with fail
      go_returns
      exact ⟨rfl, (by first | (go_grown; done) | (refine below_drewN ?_ _; go_grown; done) | (refine (below_drewN _ ?_); go_grown; done))⟩
    · by_cases hlen : fn = m
      · subst hlen
        obtain ⟨cb, hcb⟩ : ∃ cb, cb = (decide (0 ≤ co) && decide (co ≤ 1000000)) := ⟨_, rfl⟩
        have hC := fun w => within_any co 0 1000000 w
        rw [← hcb] at hC
        have HCB := Lib.hid hcb
        have HC := Lib.hid hC
        clear hcb hC
        have hm60 : fn ≤ 60 := by have := Agg.items_len HIB.out.symm; have := HIL.out; omega
        cases cb
        · have hbf := Agg.qOk_cost (k := k) (q := ⟨I, F, pl, pr, pa, pb, co⟩) HCB.out.symm
          rw [← HBB.out] at hbf
          subst hbf
          go_enter Try.func12, Try.ntmps12
          go_wp2_with fail
          refine (HK.out _).mono ?_
          rintro e w2 ⟨rfl, rfl⟩
          go_wp2_with fail
          refine (HIT.out _ (HI.out.below (by go_grown))).mono ?_
          rintro e w2 ⟨rfl, rfl⟩
          go_wp2_with fail
          refine (HC.out _).mono ?_
          rintro e w2 ⟨rfl, rfl⟩
          go_wp2_with fail
          go_returns
          exact ⟨rfl, (by first | (go_grown; done) | (refine below_drewN ?_ _; go_grown; done) | (refine (below_drewN _ ?_); go_grown; done))⟩
        · obtain ⟨pp, hpp⟩ : ∃ pp, pp = Agg.placesOk fn pl pr pa pb := ⟨_, rfl⟩
          have hP := fun w => placesFit_any ia fn ic fa fn fc pl pr pa pb co w hm60
          rw [← hpp] at hP
          have HPP := Lib.hid hpp
          have HP := Lib.hid hP
          clear hpp hP
          cases pp
          · have hbf := Agg.qOk_places (k := k) (q := ⟨I, F, pl, pr, pa, pb, co⟩) (by simp only [HIL.out]; exact HPP.out.symm)
            rw [← HBB.out] at hbf
            subst hbf
            go_enter Try.func12, Try.ntmps12
            go_wp2_with fail
            refine (HK.out _).mono ?_
            rintro e w2 ⟨rfl, rfl⟩
            go_wp2_with fail
            refine (HIT.out _ (HI.out.below (by go_grown))).mono ?_
            rintro e w2 ⟨rfl, rfl⟩
            go_wp2_with fail
            refine (HC.out _).mono ?_
            rintro e w2 ⟨rfl, rfl⟩
            go_wp2_with fail
            refine (HP.out _).mono ?_
            rintro e w1 ⟨rfl, hb1⟩
            have HW1 := Lib.hid (((Below.refl w.heap.size w).alloc (Nat.le_refl _) _).trans (hb1.mono (by simp)))
            clear hb1
            go_wp2_with fail
            go_returns
            exact ⟨rfl, HW1.out⟩
          · have hm : fn = fn := rfl
            have h := queueValid_loop k ia fn ic fa fc pl pr pa pb co F I w HF.out HI.out HKB.out.symm HIB.out.symm HPP.out.symm HCB.out.symm
            rw [← HBB.out] at h
            exact h
      · have hbf := Agg.qOk_len (k := k) (q := ⟨I, F, pl, pr, pa, pb, co⟩) (by have := HFL.out; have := HIL.out; simp; omega)
        rw [← HBB.out] at hbf
        subst hbf
        have hlen' : ¬ ((fn : Int) = (m : Int)) := by omega
        go_enter Try.func12, Try.ntmps12
        go_wp2_with fail
        refine (HK.out _).mono ?_
        rintro e w2 ⟨rfl, rfl⟩
        go_wp2_with fail
        refine (HIT.out _ (HI.out.below (by go_grown))).mono ?_
        rintro e w2 ⟨rfl, rfl⟩
        go_wp2_with fail
        go_returns
        exact ⟨rfl, (by first | (go_grown; done) | (refine below_drewN ?_ _; go_grown; done) | (refine (below_drewN _ ?_); go_grown; done))⟩
end Go.Proofs.Ythkokeeciicdnaa
