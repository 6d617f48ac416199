/-
  Valid queries in the model; a query added, in the program and in the model.
-/
import Derived.Test.Ytofpnmjadflebaa9c
import Derived.Shelf.Abstract
import Derived.Deep.DeepMust
namespace Go.Proofs.Ytofpnmjadflebaa
set_option linter.unusedSimpArgs false
set_option linter.unusedVariables false
open Go.RowKit
/-- The first query is not among the i ones from the start of the list. -/
theorem contains_snoc {l : List (Int × Int)} {j : Nat} (hj : j < l.length) (v : Int × Int) (h : (l.take j).contains v = false) : (l.take (j + 1)).contains v = (v == qryAt l j) := by
  rw [take_has hj, h, Bool.false_or]
theorem qrysTo_big {l : List (Int × Int)} (h : ¬ l.length ≤ 8) : Agg.qrysOk l = false := by
  rw [Agg.qrysOk, decide_eq_false h]; rfl
set_option maxRecDepth 8000 in
set_option maxHeartbeats 4000000 in
theorem s_queriesValid_any (a : Option Addr) (n cap : Nat) (l : List (Int × Int)) (w : World) (h : Qrs w a n cap l) :
    Calls Try.prog 11 #[.slice a n cap] w fun e w' => e = .returned (.bool (Agg.qrysOk l)) ∧ Below w.heap.size w w' := by
  have hll : l.length = n := h.1
  have hnc : n ≤ cap := h.2.1
  have hcm : cap ≤ 9223372036854775807 := by have := h.2.2.1; unfold maxLen at this; omega
  obtain ⟨b, hb⟩ : ∃ b, b = Agg.qrysOk l := ⟨_, rfl⟩
  rw [← hb]
  have HBB := Lib.hid hb
  have H0 := Lib.hid h
  have HLL := Lib.hid hll
  have HNO := Lib.hid (fun (i : Nat) (hi : i ≤ n) (hf : Agg.qrysTo l i = false) => show b = false from by rw [hb]; exact Agg.qrysOk_false (by omega) hf)
  clear h hll hb
  go_enter Try.func11, Try.ntmps11
  go_wp2_with fail
  go_loopw [3] (fun i wr => ∃ j : Nat, j ≤ n ∧ j ≤ 8 ∧ i = .int .i64 j ∧ Hid (Agg.qrysTo l j = true) ∧ Hid (Below w.heap.size w wr)) (fun i _ => n - (intOf i).toNat)
  case atStart => exact ⟨0, Nat.zero_le _, Nat.zero_le _, rfl, Lib.hid rfl, Lib.hid (Below.refl _ _)⟩
  case round =>
    obtain ⟨j, hj, hj8, rfl, hto, hw⟩ := hrel
    by_cases hlt : j < n ∧ j < 8
    · obtain ⟨hlt, hlt8⟩ := hlt
      rcases id H0.out.2.2.2 with h4 | ⟨bk, off, rfl, hbl, hcs⟩
      · omega
      · have hck := (hw.out.cell (p := ⟨bk, off + j * 2, none⟩) hbl).trans (hcs j hlt).1
        have hcl := (hw.out.cell (p := ⟨bk, off + j * 2 + 1, none⟩) hbl).trans (hcs j hlt).2
        have HCS := Lib.hid (fun X (hX : Below w.heap.size w X) i (hi : i < n) => And.intro ((hX.cell (p := ⟨bk, off + i * 2, none⟩) hbl).trans (hcs i hi).1) ((hX.cell (p := ⟨bk, off + i * 2 + 1, none⟩) hbl).trans (hcs i hi).2))
        clear hcs
        have hstep : Agg.qrysTo l (j + 1) = (Agg.qrysTo l j && (Agg.qryOk (qryAt l j) && !(l.take j).contains (qryAt l j))) := rfl
        rw [hto.out, Bool.true_and] at hstep
        have HQA := Lib.hid (show qryAt l j = l[j]?.getD (0, 0) from rfl)
        obtain ⟨⟨p, q⟩, hpq⟩ : ∃ o, o = qryAt l j := ⟨_, rfl⟩
        rw [← HQA.out, ← hpq] at hck hcl
        rw [← hpq] at hstep
        obtain ⟨ok, hok⟩ : ∃ ok, ok = Agg.hopsOk p q := ⟨_, rfl⟩
        rw [show Agg.qryOk (p, q) = ok from hok.symm] at hstep
        have HV := Lib.hid (fun w => s_l5Sizes_9 p q w)
        rw [← hok] at HV
        have HST := Lib.hid hstep
        have hk0 : (0 : Int) ≤ (j : Int) := Int.natCast_nonneg _
        have hkn : (j : Int) < (n : Int) := by omega
        have hk8 : (j : Int) < 8 := by omega
        have hd8 : decide ((j : Int) < 8) = true := decide_eq_true hk8
        have HPQ := Lib.hid hpq
        clear hstep hok hpq HQA
        go_wp2_with fail
        refine wp_region_held_drew (S := (fun X => X.cell? ⟨bk, off + j * 2, none⟩ = some (.int .i64 p) ∧ X.cell? ⟨bk, off + j * 2 + 1, none⟩ = some (.int .i64 q))) (by kernel_rfl) (by exact ⟨by assumption, by assumption⟩) (fun hHeld => ?_)
        first | (refine wpAnyH_take (i := 0) (v := ?_) rfl (by kernel_rfl) (by kernel_rfl) (by kernel_rfl) (fun _ _ _ h => h) (Or.inl ⟨by rfl, ?_⟩) (by assumption) ?_; rotate_left; (intro X hSw; (try dsimp only at hSw); go_simp; (try with_reducible rfl)); (try simp only [Act.put, List.setIfInBounds_toArray, List.set_cons_zero, List.set_cons_succ, List.getElem_toArray, List.getElem_cons_zero, List.getElem_cons_succ])) | fail "take 0"
        first | (refine wpAnyH_take (i := 1) (v := ?_) rfl (by kernel_rfl) (by kernel_rfl) (by kernel_rfl) (fun _ _ _ h => h) (Or.inl ⟨by rfl, ?_⟩) (by assumption) ?_; rotate_left; (intro X hSw; (try dsimp only at hSw); go_simp; (try with_reducible rfl)); (try simp only [Act.put, List.setIfInBounds_toArray, List.set_cons_zero, List.set_cons_succ, List.getElem_toArray, List.getElem_cons_zero, List.getElem_cons_succ])) | fail "take 1"
        first | (refine wpAnyH_take (i := 2) (v := ?_) rfl (by kernel_rfl) (by kernel_rfl) (by kernel_rfl) (fun _ _ _ h => h) (Or.inl ⟨by rfl, ?_⟩) (by assumption) ?_; rotate_left; (intro X hSw; (try dsimp only at hSw); go_simp; (try with_reducible rfl)); (try simp only [Act.put, List.setIfInBounds_toArray, List.set_cons_zero, List.set_cons_succ, List.getElem_toArray, List.getElem_cons_zero, List.getElem_cons_succ])) | fail "take 2"
        first | (refine wpAnyH_take (i := 3) (v := ?_) rfl (by kernel_rfl) (by kernel_rfl) (by kernel_rfl) (fun _ _ _ h => h) (Or.inl ⟨by rfl, ?_⟩) (by assumption) ?_; rotate_left; (intro X hSw; (try dsimp only at hSw); go_simp; (try with_reducible rfl)); (try simp only [Act.put, List.setIfInBounds_toArray, List.set_cons_zero, List.set_cons_succ, List.getElem_toArray, List.getElem_cons_zero, List.getElem_cons_succ])) | fail "take 3"
        first | (refine wpAnyH_take (i := 4) (v := ?_) rfl (by kernel_rfl) (by kernel_rfl) (by kernel_rfl) (fun _ _ _ h => h) (Or.inl ⟨by rfl, ?_⟩) (by assumption) ?_; rotate_left; (intro X hSw; (try dsimp only at hSw); go_simp; (try with_reducible rfl)); (try simp only [Act.put, List.setIfInBounds_toArray, List.set_cons_zero, List.set_cons_succ, List.getElem_toArray, List.getElem_cons_zero, List.getElem_cons_succ])) | fail "take 4"
        first | (refine wpAnyH_take (i := 5) (v := ?_) rfl (by kernel_rfl) (by kernel_rfl) (by kernel_rfl) (fun _ _ _ h => h) (Or.inl ⟨by rfl, ?_⟩) (by assumption) ?_; rotate_left; (intro X hSw; (try dsimp only at hSw); go_simp; (try with_reducible rfl)); (try simp only [Act.put, List.setIfInBounds_toArray, List.set_cons_zero, List.set_cons_succ, List.getElem_toArray, List.getElem_cons_zero, List.getElem_cons_succ])) | fail "take 5"
        first | (refine wpAnyH_take (i := 6) (v := ?_) rfl (by kernel_rfl) (by kernel_rfl) (by kernel_rfl) (fun _ _ _ h => h) (Or.inl ⟨by rfl, ?_⟩) (by assumption) ?_; rotate_left; (intro X hSw; (try dsimp only at hSw); go_simp; (try with_reducible rfl)); (try simp only [Act.put, List.setIfInBounds_toArray, List.set_cons_zero, List.set_cons_succ, List.getElem_toArray, List.getElem_cons_zero, List.getElem_cons_succ])) | fail "take 6"
        first | (refine wpAnyH_take (i := 7) (v := ?_) rfl (by kernel_rfl) (by kernel_rfl) (by kernel_rfl) (fun _ _ _ h => h) (Or.inl ⟨by rfl, ?_⟩) (by assumption) ?_; rotate_left; (intro X hSw; (try dsimp only at hSw); go_simp; (try with_reducible rfl)); (try simp only [Act.put, List.setIfInBounds_toArray, List.set_cons_zero, List.set_cons_succ, List.getElem_toArray, List.getElem_cons_zero, List.getElem_cons_succ])) | fail "take 7"
        first | (refine wpAnyH_take (i := 8) (v := ?_) rfl (by kernel_rfl) (by kernel_rfl) (by kernel_rfl) (fun _ _ _ h => h) (Or.inl ⟨by rfl, ?_⟩) (by assumption) ?_; rotate_left; (intro X hSw; (try dsimp only at hSw); go_simp; (try with_reducible rfl)); (try simp only [Act.put, List.setIfInBounds_toArray, List.set_cons_zero, List.set_cons_succ, List.getElem_toArray, List.getElem_cons_zero, List.getElem_cons_succ])) | fail "take 8"
        first | (refine wpAnyH_take (i := 9) (v := ?_) rfl (by kernel_rfl) (by kernel_rfl) (by kernel_rfl) (fun _ _ _ h => h) (Or.inl ⟨by rfl, ?_⟩) (by assumption) ?_; rotate_left; (intro X hSw; (try dsimp only at hSw); go_simp; (try with_reducible rfl)); (try simp only [Act.put, List.setIfInBounds_toArray, List.set_cons_zero, List.set_cons_succ, List.getElem_toArray, List.getElem_cons_zero, List.getElem_cons_succ])) | fail "take 9"
        refine wpAnyH_ready (rs := [10]) (by kernel_rfl) (by simp) ?_
        refine AllReadyH.cons rfl (fun K hK => ?_) AllReadyH.nil
        go_simp
        refine (HV.out _).mono ?_
        rintro e w6 ⟨rfl, rfl⟩
        (try dsimp only)
        refine hK.out _ _ (by exact ⟨by assumption, by assumption⟩) (fun hHeld => ?_)
        clear hK K
        (try simp only [Act.put, List.setIfInBounds_toArray, List.set_cons_zero, List.set_cons_succ, List.getElem_toArray, List.getElem_cons_zero, List.getElem_cons_succ])
        first | (refine wpAnyH_take (i := 11) (v := ?_) rfl (by kernel_rfl) (by kernel_rfl) (by kernel_rfl) (fun _ _ _ h => h) (Or.inl ⟨by rfl, ?_⟩) (by assumption) ?_; rotate_left; (intro X hSw; (try dsimp only at hSw); go_simp; (try with_reducible rfl)); (try simp only [Act.put, List.setIfInBounds_toArray, List.set_cons_zero, List.set_cons_succ, List.getElem_toArray, List.getElem_cons_zero, List.getElem_cons_succ])) | fail "take 11"
        refine wpAnyH_done (by kernel_rfl) ?_ _
        cases ok
        · obtain rfl : b = false := HNO.out (j + 1) (by omega) (by rw [HST.out]; rfl)
          go_wp2_with fail
          go_returns
          exact ⟨rfl, hw.out.drew⟩
        · have HB7 := Lib.hid (show Below w.heap.size w wr.drew from hw.out.drew)
          obtain ⟨W7, hW7⟩ : ∃ W7, W7 = wr.drew := ⟨_, rfl⟩
          rw [← hW7] at HB7 ⊢
          clear hW7
          go_wp2_with fail
          go_loopw [4] (fun i wr2 => ∃ t : Nat, t ≤ j ∧ i = .int .i64 t ∧ Hid ((l.take t).contains (p, q) = false) ∧ Hid (Below w.heap.size w wr2)) (fun i _ => j - (intOf i).toNat)
          case atStart => exact ⟨0, Nat.zero_le _, rfl, Lib.hid (by simp), HB7⟩
          case round =>
            obtain ⟨t, ht, rfl, hno, hw2⟩ := hrel
            clear HB7
            by_cases htj : t < j
            · obtain ⟨htk, htl⟩ := HCS.out _ hw2.out t (by omega)
              obtain ⟨hjk, hjl⟩ := HCS.out _ hw2.out j hlt
              rw [show l[j]?.getD (0, 0) = (p, q) from HPQ.out.symm] at hjk hjl
              have hth := contains_snoc (l := l) (j := t) (by have := HLL.out; omega) (p, q) hno.out
              simp only [qryAt] at hth
              obtain ⟨⟨p2, q2⟩, hpq2⟩ : ∃ o, o = l[t]?.getD (0, 0) := ⟨_, rfl⟩
              rw [← hpq2] at htk htl hth
              have HTH := Lib.hid hth
              clear hpq2 hth
              have hk1 : (0 : Int) ≤ (t : Int) := Int.natCast_nonneg _
              have hkt : (t : Int) < (n : Int) := by omega
              have hktj : (t : Int) < (j : Int) := by omega
              by_cases hxp : p2 = p
              · subst hxp
                by_cases hyq : q2 = q
                · subst hyq
                  obtain rfl : b = false := HNO.out (j + 1) (by omega) (by
                    have h1 : (l.take (t + 1)).contains (p2, q2) = true := by rw [HTH.out]; simp
                    have h2 : (l.take j).contains (p2, q2) = true := by
                      rw [List.contains_iff_mem] at h1 ⊢
                      have e : l.take (t + 1) = (l.take j).take (t + 1) := by rw [List.take_take, Nat.min_eq_left (by omega)]
                      rw [e] at h1
                      exact List.mem_of_mem_take h1
                    rw [HST.out, h2]; rfl)
                  go_wp2_with fail
                  go_region
                  all_goals (try go_wp2_with fail)
                  all_goals
                    go_returns
                    exact ⟨rfl, by first | exact hw2.out | exact below_drewN hw2.out _⟩
                · have HNO2 := Lib.hid (show (l.take (t + 1)).contains (p2, q) = false from by
                    rw [HTH.out]
                    simp only [beq_eq_false_iff_ne, ne_eq, Prod.mk.injEq, true_and]
                    exact fun e => hyq e.symm)
                  go_wp2_with fail
                  go_region
                  all_goals (try go_wp2_with fail)
                  all_goals (
                    go_roundw
                    case rel => exact ⟨_, _, _, _, _, _, _, _, _, _, _, _, _, _, _, _, ⟨t + 1, by omega, by go_num, HNO2, by first | exact hw2 | exact Lib.hid (below_drewN hw2.out _)⟩, rfl⟩
                    case measure => simp [intOf]; omega)
              · have HNO2 := Lib.hid (show (l.take (t + 1)).contains (p, q) = false from by
                  rw [HTH.out]
                  simp only [beq_eq_false_iff_ne, ne_eq, Prod.mk.injEq, not_and]
                  exact fun e _ => hxp e.symm)
                go_wp2_with fail
                go_region
                all_goals (try go_wp2_with fail)
                all_goals (
                  go_roundw
                  case rel => exact ⟨_, _, _, _, _, _, _, _, _, _, _, _, _, _, _, _, ⟨t + 1, by omega, by go_num, HNO2, by first | exact hw2 | exact Lib.hid (below_drewN hw2.out _)⟩, rfl⟩
                  case measure => simp [intOf]; omega)
            · obtain rfl : t = j := by omega
              have hlt' : ¬ (t : Int) < (t : Int) := by omega
              go_wp2_with fail
              go_roundw
              case rel => exact ⟨t + 1, by omega, by omega, by go_num, Lib.hid (by rw [HST.out, hno.out]; rfl), hw2⟩
              case measure => simp [intOf]; omega
    · by_cases hjn : j < n
      · obtain rfl : j = 8 := by omega
        obtain rfl : b = false := by rw [HBB.out]; exact qrysTo_big (by have := HLL.out; omega)
        have hk8 : ((8 : Nat) : Int) < (n : Int) := by omega
        have hk9 : ¬ ((n : Int) ≤ 8) := by omega
        go_wp2_with fail
        go_returns
        exact ⟨rfl, hw.out⟩
      · obtain rfl : j = n := by omega
        obtain rfl : b = true := by
          rw [HBB.out, Agg.qrysOk, HLL.out, hto.out, decide_eq_true hj8]; rfl
        have hle : (j : Int) ≤ 8 := by omega
        clear hlt
        go_wp2_with fail
        go_returns
        exact ⟨rfl, hw.out⟩
end Go.Proofs.Ytofpnmjadflebaa
