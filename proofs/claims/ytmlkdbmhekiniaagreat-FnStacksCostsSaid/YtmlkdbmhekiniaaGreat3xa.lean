/-
  What each change of two stacks costs, in the program.
-/
import Derived.Test.YtmlkdbmhekiniaaGreat3rd
import Derived.Test.YtmlkdbmhekiniaaGreat3xb
import Derived.Deep.Cut
import Derived.IntWalk
import Derived.Deep.DeepMust
namespace Go.Proofs.YtmlkdbmhekiniaaGreat
set_option linter.unusedSimpArgs false
set_option linter.unusedVariables false
open Go.RowKit
set_option maxHeartbeats 1000000 in
theorem costOf_stacks (fa : Option Addr) (fn fc : Nat) (ia : Option Addr) (m ic : Nat) (bx by' bz fl co : Int) (w : World) :
    Calls Tryz.prog 69 #[.agg #[.slice fa fn fc, .slice ia m ic, .int .i64 bx, .int .i64 by', .int .i64 bz, .int .i64 fl, .int .i64 co]] w fun e w' => e = .returned (.int .i64 co) ∧ Below w.heap.size w w' := by
  go_enter Tryz.func69, Tryz.ntmps69
  go_wp2
  go_returns
  exact ⟨rfl, (by first | (go_grown; done) | (refine below_drewN ?_ _; go_grown; done) | (refine (below_drewN _ ?_); go_grown; done))⟩
def Agg.diffs (S : Nat → Agg.S) (n : Nat) : List Int := (List.range n).map fun i => (S (i + 1)).cost - (S i).cost
theorem Agg.diffs_len (S : Nat → Agg.S) (n : Nat) : (Agg.diffs S n).length = n := by simp [Agg.diffs]
theorem Agg.diffs_step (S : Nat → Agg.S) (n j : Nat) (h : j < n) : (Agg.diffs S n).take (j + 1) = (Agg.diffs S n).take j ++ [(S (j + 1)).cost - (S j).cost] := by
  rw [List.take_succ_eq_append_getElem (by rw [Agg.diffs_len]; exact h)]
  simp [Agg.diffs]
set_option maxRecDepth 8000 in
set_option maxHeartbeats 4000000 in
theorem differences_stacks (f1 : Nat) (c1 : ∀ args w, Sem.run Tryz.prog (Go.callFunc f1 args) w = .ok (.enter f1 args) w) (S : Nat → Agg.S) (a : Option Addr) (n cap : Nat) (hn : n ≤ 1000) (w : World) (h : StksAt w a (n + 1) cap S)
    (hcost : ∀ j, j ≤ n → 0 ≤ (S j).cost ∧ (S j).cost ≤ 1000000)
    (hval : ∀ w' fa fn fc ia m ic bx by' bz fl co, Calls Tryz.prog f1 #[.agg #[.slice fa fn fc, .slice ia m ic, .int .i64 bx, .int .i64 by', .int .i64 bz, .int .i64 fl, .int .i64 co]] w' fun e w2 => e = .returned (.int .i64 co) ∧ Below w'.heap.size w' w2) :
    Calls Tryz.prog 68 #[.slice a (n + 1) cap, .func (.func f1) #[] #[]] w (MadeRow (Agg.diffs S n) n w) := by
  obtain ⟨i0, hi0, hz0, hz1, hz2⟩ := info_parts infoInt
  have hnc := h.1
  have hcm := h.2.1
  have HN := Lib.hid h
  have HVAL := Lib.hid hval
  have HCO := Lib.hid hcost
  clear h hval hcost
  have hsl := Agg.diffs_len S n
  have hst := fun j => Agg.diffs_step S n j
  obtain ⟨L, hL⟩ : ∃ L, L = Agg.diffs S n := ⟨_, rfl⟩
  rw [← hL] at hsl hst ⊢
  have HSL := Lib.hid hsl
  have HST := Lib.hid hst
  clear hsl hst hL
  obtain ⟨N1, hN1⟩ : ∃ N1, N1 = n + 1 := ⟨_, rfl⟩
  rw [← hN1] at hnc HN ⊢
  have HN1 := Lib.hid hN1
  clear hN1
  go_enter Tryz.func68, Tryz.ntmps68
  go_wp2_with (at_make; refine wpList_make_own _ rfl _ _ 23 rfl w.heap.size 3 i0 (.int .i64 0) 1 Tryz.underlying23 hi0 hz0 hz1 .i64 .i64 _ N1 rfl rfl rfl ?b1 ?b2 ?b3 ?_)
  case b1 => rw [hz2]; have := HN1.out; omega
  case b2 => unfold maxLen; omega
  case b3 => exact Nat.le_refl _
  intro w1 hown hgrow
  have HO := Lib.hid (show w1.ownsRow w.heap.size 3 1 (.slice (some ⟨w.heap.size, 0, none⟩) 0 N1) 0 ((L.take 0).map (Value.int .i64)) from hown)
  have HB := Lib.hid ((Below.refl w.heap.size w).grown hgrow (Nat.le_refl _) (fun k hk => by simp at hk))
  clear hown hgrow
  go_wp2_with fail
  go_loopw [5, 6] (fun ov i wr => ∃ M0 M : Nat, M = M0 + 1 ∧ M0 ≤ n ∧ i = .int .i64 M ∧ Hid (wr.ownsRow w.heap.size 3 1 ov M0 ((L.take M0).map (Value.int .i64))) ∧ Hid (Below w.heap.size w wr)) (fun _ i _ => N1 - (intOf i).toNat)
  case atStart => exact ⟨0, 1, rfl, Nat.zero_le _, rfl, HO, HB⟩
  case round =>
    obtain ⟨M0, M, hM, hj, rfl, ho, hw⟩ := hrel
    clear HO HB
    by_cases hlt : M0 < n
    · rcases HN.out.2.2 with h0 | ⟨b, off, rfl, hbw, hcs⟩
      · have := HN1.out; omega
      · obtain ⟨fa1, fc1, ia1, ic1, q1, -, -⟩ := hcs M (by have := HN1.out; omega)
        obtain ⟨fa0, fc0, ia0, ic0, q0, -, -⟩ := hcs M0 (by have := HN1.out; omega)
        clear hcs
        have hst2 := HST.out M0 hlt
        rw [← hM] at hst2
        obtain ⟨hca0, hca1⟩ := HCO.out M (by omega)
        obtain ⟨hcb0, hcb1⟩ := HCO.out M0 (by omega)
        obtain ⟨S1, hS1⟩ : ∃ S1, S1 = S M := ⟨_, rfl⟩
        obtain ⟨S0, hS0⟩ : ∃ S0, S0 = S M0 := ⟨_, rfl⟩
        rw [← hS1] at q1 hca0 hca1 hst2
        rw [← hS0] at q0 hcb0 hcb1 hst2
        have HST2 := Lib.hid hst2
        have hk1 : (0 : Int) ≤ (M : Int) := Int.natCast_nonneg _
        have hk0 : (0 : Int) ≤ (M0 : Int) := Int.natCast_nonneg _
        have hkn : (M : Int) < (N1 : Int) := by have := HN1.out; omega
        have hkn0 : (M0 : Int) < (N1 : Int) := by have := HN1.out; omega
        have hsub : (M : Int) - 1 = (M0 : Int) := by omega
        have hw1 : IntKind.i64.wrap ((M : Int) - 1) = (M0 : Int) := by rw [hsub]; exact IntWalk.i64_in _ ⟨by omega, by omega⟩
        have hw2 : IntKind.i64.wrap (M0 : Int) = (M0 : Int) := IntWalk.i64_in _ ⟨by omega, by omega⟩
        have hw3 : IntKind.i64.wrap (S1.cost - S0.cost) = S1.cost - S0.cost := IntWalk.i64_in _ ⟨by omega, by omega⟩
        have hlt5 : ∀ q, u5.ownBlock = some q → w.heap.size ≤ q := fun q hq => (ho.out.lt q hq).1
        have SQ := Lib.hid (show ∀ X, Below w.heap.size w X → ((X.cell? ⟨b, off + M * 7, none⟩ = some (.slice fa1 S1.front.length fc1) ∧ X.cell? ⟨b, off + M * 7 + 1, none⟩ = some (.slice ia1 S1.items.length ic1) ∧ X.cell? ⟨b, off + M * 7 + 2, none⟩ = some (.int .i64 S1.back.x) ∧ X.cell? ⟨b, off + M * 7 + 3, none⟩ = some (.int .i64 S1.back.y) ∧ X.cell? ⟨b, off + M * 7 + 4, none⟩ = some (.int .i64 S1.back.z) ∧ X.cell? ⟨b, off + M * 7 + 5, none⟩ = some (.int .i64 S1.flips) ∧ X.cell? ⟨b, off + M * 7 + 6, none⟩ = some (.int .i64 S1.cost)) ∧ X.cell? ⟨b, off + M0 * 7, none⟩ = some (.slice fa0 S0.front.length fc0) ∧ X.cell? ⟨b, off + M0 * 7 + 1, none⟩ = some (.slice ia0 S0.items.length ic0) ∧ X.cell? ⟨b, off + M0 * 7 + 2, none⟩ = some (.int .i64 S0.back.x) ∧ X.cell? ⟨b, off + M0 * 7 + 3, none⟩ = some (.int .i64 S0.back.y) ∧ X.cell? ⟨b, off + M0 * 7 + 4, none⟩ = some (.int .i64 S0.back.z) ∧ X.cell? ⟨b, off + M0 * 7 + 5, none⟩ = some (.int .i64 S0.flips) ∧ X.cell? ⟨b, off + M0 * 7 + 6, none⟩ = some (.int .i64 S0.cost)) from fun X h => by
          have k := fun o => h.cell (p := ⟨b, o, none⟩) hbw
          obtain ⟨a0, a1, a2, a3, a4, a5, a6⟩ := q1
          obtain ⟨b0, b1, b2, b3, b4, b5, b6⟩ := q0
          exact ⟨⟨(k _).trans a0, (k _).trans a1, (k _).trans a2, (k _).trans a3, (k _).trans a4, (k _).trans a5, (k _).trans a6⟩, (k _).trans b0, (k _).trans b1, (k _).trans b2, (k _).trans b3, (k _).trans b4, (k _).trans b5, (k _).trans b6⟩)
        have HM := Lib.hid hM
        clear hst2 hS1 hS0 q0 q1 HST HCO hM
        go_wp2_with fail
        refine wp_region_held_drew (S := (fun X => ((X.cell? ⟨b, off + M * 7, none⟩ = some (.slice fa1 S1.front.length fc1) ∧ X.cell? ⟨b, off + M * 7 + 1, none⟩ = some (.slice ia1 S1.items.length ic1) ∧ X.cell? ⟨b, off + M * 7 + 2, none⟩ = some (.int .i64 S1.back.x) ∧ X.cell? ⟨b, off + M * 7 + 3, none⟩ = some (.int .i64 S1.back.y) ∧ X.cell? ⟨b, off + M * 7 + 4, none⟩ = some (.int .i64 S1.back.z) ∧ X.cell? ⟨b, off + M * 7 + 5, none⟩ = some (.int .i64 S1.flips) ∧ X.cell? ⟨b, off + M * 7 + 6, none⟩ = some (.int .i64 S1.cost)) ∧ X.cell? ⟨b, off + M0 * 7, none⟩ = some (.slice fa0 S0.front.length fc0) ∧ X.cell? ⟨b, off + M0 * 7 + 1, none⟩ = some (.slice ia0 S0.items.length ic0) ∧ X.cell? ⟨b, off + M0 * 7 + 2, none⟩ = some (.int .i64 S0.back.x) ∧ X.cell? ⟨b, off + M0 * 7 + 3, none⟩ = some (.int .i64 S0.back.y) ∧ X.cell? ⟨b, off + M0 * 7 + 4, none⟩ = some (.int .i64 S0.back.z) ∧ X.cell? ⟨b, off + M0 * 7 + 5, none⟩ = some (.int .i64 S0.flips) ∧ X.cell? ⟨b, off + M0 * 7 + 6, none⟩ = some (.int .i64 S0.cost)))) (by kernel_rfl) (by exact SQ.out _ hw.out.drew) (fun hHeld => ?_)
        have HBX := Lib.hid hw.out.drew
        have HO := Lib.hid (ho.out.kept (Below.grownNone (Below.refl wr.heap.size wr).drew none) (Classical.em _))
        first | (refine wpAnyH_take (i := 0) (v := ?_) rfl (by kernel_rfl) (by kernel_rfl) (by kernel_rfl) (fun _ _ _ h => h) (Or.inl ⟨by rfl, ?_⟩) (by assumption) ?_; rotate_left; (intro X hSw; (try dsimp only at hSw); go_simp; (try with_reducible rfl)); (try simp only [Act.put, List.setIfInBounds_toArray, List.set_cons_zero, List.set_cons_succ, List.getElem_toArray, List.getElem_cons_zero, List.getElem_cons_succ])) | fail "take 0"
        first | (refine wpAnyH_take (i := 1) (v := ?_) rfl (by kernel_rfl) (by kernel_rfl) (by kernel_rfl) (fun _ _ _ h => h) (Or.inl ⟨by rfl, ?_⟩) (by assumption) ?_; rotate_left; (intro X hSw; (try dsimp only at hSw); go_simp; (try with_reducible rfl)); (try simp only [Act.put, List.setIfInBounds_toArray, List.set_cons_zero, List.set_cons_succ, List.getElem_toArray, List.getElem_cons_zero, List.getElem_cons_succ])) | fail "take 1"
        first | (refine wpAnyH_take (i := 2) (v := ?_) rfl (by kernel_rfl) (by kernel_rfl) (by kernel_rfl) (fun _ _ _ h => h) (Or.inl ⟨by rfl, ?_⟩) (by assumption) ?_; rotate_left; (intro X hSw; (try dsimp only at hSw); go_simp; (try with_reducible rfl)); (try simp only [Act.put, List.setIfInBounds_toArray, List.set_cons_zero, List.set_cons_succ, List.getElem_toArray, List.getElem_cons_zero, List.getElem_cons_succ])) | fail "take 2"
        first | (refine wpAnyH_take (i := 3) (v := ?_) rfl (by kernel_rfl) (by kernel_rfl) (by kernel_rfl) (fun _ _ _ h => h) (Or.inl ⟨by rfl, ?_⟩) (by assumption) ?_; rotate_left; (intro X hSw; (try dsimp only at hSw); go_simp; (try with_reducible rfl)); (try simp only [Act.put, List.setIfInBounds_toArray, List.set_cons_zero, List.set_cons_succ, List.getElem_toArray, List.getElem_cons_zero, List.getElem_cons_succ])) | fail "take 3"
        first | (refine wpAnyH_take (i := 4) (v := ?_) rfl (by kernel_rfl) (by kernel_rfl) (by kernel_rfl) (fun _ _ _ h => h) (Or.inl ⟨by rfl, ?_⟩) (by assumption) ?_; rotate_left; (intro X hSw; (try dsimp only at hSw); go_simp; (try with_reducible rfl)); (try simp only [Act.put, List.setIfInBounds_toArray, List.set_cons_zero, List.set_cons_succ, List.getElem_toArray, List.getElem_cons_zero, List.getElem_cons_succ])) | fail "take 4"
        first | (refine wpAnyH_take (i := 5) (v := ?_) rfl (by kernel_rfl) (by kernel_rfl) (by kernel_rfl) (fun _ _ _ h => h) (Or.inl ⟨by rfl, ?_⟩) (by assumption) ?_; rotate_left; (intro X hSw; (try dsimp only at hSw); go_simp; (try with_reducible rfl)); (try simp only [Act.put, List.setIfInBounds_toArray, List.set_cons_zero, List.set_cons_succ, List.getElem_toArray, List.getElem_cons_zero, List.getElem_cons_succ])) | fail "take 5"
        first | (refine wpAnyH_take (i := 7) (v := ?_) rfl (by kernel_rfl) (by kernel_rfl) (by kernel_rfl) (fun _ _ _ h => h) (Or.inl ⟨by rfl, ?_⟩) (by assumption) ?_; rotate_left; (intro X hSw; (try dsimp only at hSw); go_simp; (try with_reducible rfl)); (try simp only [Act.put, List.setIfInBounds_toArray, List.set_cons_zero, List.set_cons_succ, List.getElem_toArray, List.getElem_cons_zero, List.getElem_cons_succ])) | fail "take 7"
        first | (refine wpAnyH_take (i := 8) (v := ?_) rfl (by kernel_rfl) (by kernel_rfl) (by kernel_rfl) (fun _ _ _ h => h) (Or.inl ⟨by rfl, ?_⟩) (by assumption) ?_; rotate_left; (intro X hSw; (try dsimp only at hSw); go_simp; (try with_reducible rfl)); (try simp only [Act.put, List.setIfInBounds_toArray, List.set_cons_zero, List.set_cons_succ, List.getElem_toArray, List.getElem_cons_zero, List.getElem_cons_succ])) | fail "take 8"
        first | (refine wpAnyH_take (i := 9) (v := ?_) rfl (by kernel_rfl) (by kernel_rfl) (by kernel_rfl) (fun _ _ _ h => h) (Or.inl ⟨by rfl, ?_⟩) (by assumption) ?_; rotate_left; (intro X hSw; (try dsimp only at hSw); go_simp; (try with_reducible rfl)); (try simp only [Act.put, List.setIfInBounds_toArray, List.set_cons_zero, List.set_cons_succ, List.getElem_toArray, List.getElem_cons_zero, List.getElem_cons_succ])) | fail "take 9"
        first | (refine wpAnyH_take (i := 10) (v := ?_) rfl (by kernel_rfl) (by kernel_rfl) (by kernel_rfl) (fun _ _ _ h => h) (Or.inl ⟨by rfl, ?_⟩) (by assumption) ?_; rotate_left; (intro X hSw; (try dsimp only at hSw); go_simp; (try with_reducible rfl)); (try simp only [Act.put, List.setIfInBounds_toArray, List.set_cons_zero, List.set_cons_succ, List.getElem_toArray, List.getElem_cons_zero, List.getElem_cons_succ])) | fail "take 10"
        first | (refine wpAnyH_take (i := 11) (v := ?_) rfl (by kernel_rfl) (by kernel_rfl) (by kernel_rfl) (fun _ _ _ h => h) (Or.inl ⟨by rfl, ?_⟩) (by assumption) ?_; rotate_left; (intro X hSw; (try dsimp only at hSw); go_simp; (try with_reducible rfl)); (try simp only [Act.put, List.setIfInBounds_toArray, List.set_cons_zero, List.set_cons_succ, List.getElem_toArray, List.getElem_cons_zero, List.getElem_cons_succ])) | fail "take 11"
        first | (refine wpAnyH_take (i := 12) (v := ?_) rfl (by kernel_rfl) (by kernel_rfl) (by kernel_rfl) (fun _ _ _ h => h) (Or.inl ⟨by rfl, ?_⟩) (by assumption) ?_; rotate_left; (intro X hSw; (try dsimp only at hSw); go_simp; (try with_reducible rfl)); (try simp only [Act.put, List.setIfInBounds_toArray, List.set_cons_zero, List.set_cons_succ, List.getElem_toArray, List.getElem_cons_zero, List.getElem_cons_succ])) | fail "take 12"
        refine wpAnyH_ready (rs := [6]) (by kernel_rfl) (by simp) ?_
        refine AllReadyH.cons rfl (fun K hK => ?_) AllReadyH.nil
        go_simp
        refine (HVAL.out _ _ _ _ _ _ _ _ _ _ _ _).mono ?_
        rintro e v1 ⟨rfl, hbb⟩
        have HBX := Lib.hid (HBX.out.trans (hbb.mono HBX.out.size))
        have HO := Lib.hid (HO.out.kept (Below.grownNone hbb none) (Classical.em _))
        clear hbb
        (try dsimp only)
        refine hK.out _ _ (by exact SQ.out _ HBX.out) (fun hHeld => ?_)
        clear hK K
        (try simp only [Act.put, List.setIfInBounds_toArray, List.set_cons_zero, List.set_cons_succ, List.getElem_toArray, List.getElem_cons_zero, List.getElem_cons_succ])
        refine wpAnyH_ready (rs := [13]) (by kernel_rfl) (by simp) ?_
        refine AllReadyH.cons rfl (fun K hK => ?_) AllReadyH.nil
        go_simp
        refine (HVAL.out _ _ _ _ _ _ _ _ _ _ _ _).mono ?_
        rintro e v2 ⟨rfl, hbb⟩
        have HBX := Lib.hid (HBX.out.trans (hbb.mono HBX.out.size))
        have HO := Lib.hid (HO.out.kept (Below.grownNone hbb none) (Classical.em _))
        clear hbb
        (try dsimp only)
        refine hK.out _ _ (by exact SQ.out _ HBX.out) (fun hHeld => ?_)
        clear hK K
        (try simp only [Act.put, List.setIfInBounds_toArray, List.set_cons_zero, List.set_cons_succ, List.getElem_toArray, List.getElem_cons_zero, List.getElem_cons_succ])
        first | (refine wpAnyH_take (i := 14) (v := ?_) rfl (by kernel_rfl) (by kernel_rfl) (by kernel_rfl) (fun _ _ _ h => h) (Or.inl ⟨by rfl, ?_⟩) (by assumption) ?_; rotate_left; (intro X hSw; (try dsimp only at hSw); go_simp; (try with_reducible rfl)); (try simp only [Act.put, List.setIfInBounds_toArray, List.set_cons_zero, List.set_cons_succ, List.getElem_toArray, List.getElem_cons_zero, List.getElem_cons_succ])) | fail "take 14"
        refine wpAnyH_ready (rs := [15]) (by kernel_rfl) (by simp) ?_
        refine AllReadyH.cons rfl (fun K hK => ?_) AllReadyH.nil
        go_simp
        have HBX := Lib.hid (HBX.out.alloc HBX.out.size (.cells #[.int .i64 (S1.cost - S0.cost)] 3))
        have HLIT := Lib.hid (cell_one_new v2 (.int .i64 (S1.cost - S0.cost)) 3)
        have HO := Lib.hid (HO.out.alloc (.cells #[.int .i64 (S1.cost - S0.cost)] 3))
        have hsv := HBX.out.size
        (try dsimp only)
        refine hK.out _ _ (by exact SQ.out _ HBX.out) (fun hHeld => ?_)
        clear hK K
        (try simp only [Act.put, List.setIfInBounds_toArray, List.set_cons_zero, List.set_cons_succ, List.getElem_toArray, List.getElem_cons_zero, List.getElem_cons_succ])
        refine wpAnyH_ready (rs := [16]) (by kernel_rfl) (by simp) ?_
        refine AllReadyH.cons rfl (fun K hK => ?_) AllReadyH.nil
        go_must (refine step_append_own (by rfl) (.tmp 16) (.tmp 31) 23 (by rfl) w.heap.size 3 i0 (.int .i64 0) 1 8 Tryz.underlying23 hi0 hz0 hz1 hz2 rfl (by decide) u5 M0 _ (by rfl) HO.out ⟨v2.heap.size, 0, none⟩ 1 1 [.int .i64 (S1.cost - S0.cost)] (by rfl) (by rfl) HLIT.out (ints_oneCell .i64 [S1.cost - S0.cost]) (by unfold maxLen; omega) (by omega) hsv ?_)
        intro v7 w7 hown7 hgrow7 hnil7
        have HBX := Lib.hid (HBX.out.grown hgrow7 HBX.out.size hlt5)
        have HO := Lib.hid hown7
        clear hown7 hgrow7 hnil7
        (try dsimp only)
        refine hK.out _ _ (by exact SQ.out _ HBX.out) (fun hHeld => ?_)
        clear hK K
        (try simp only [Act.put, List.setIfInBounds_toArray, List.set_cons_zero, List.set_cons_succ, List.getElem_toArray, List.getElem_cons_zero, List.getElem_cons_succ])
        first | (refine wpAnyH_take (i := 17) (v := ?_) rfl (by kernel_rfl) (by kernel_rfl) (by kernel_rfl) (fun _ _ _ h => h) (Or.inl ⟨by rfl, ?_⟩) (by assumption) ?_; rotate_left; (intro X hSw; (try dsimp only at hSw); go_simp; (try with_reducible rfl)); (try simp only [Act.put, List.setIfInBounds_toArray, List.set_cons_zero, List.set_cons_succ, List.getElem_toArray, List.getElem_cons_zero, List.getElem_cons_succ])) | fail "take 17"
        refine wpAnyH_done (by kernel_rfl) ?_ _
        go_wp2_with fail
        go_roundw
        case rel =>
          refine ⟨M, M + 1, rfl, by have := HM.out; omega, by go_num, Lib.hid ?_, HBX⟩
          rw [HST2.out, List.map_append]
          have e := HO.out
          rw [← HM.out] at e
          exact e
        case measure => have := HN1.out; have := HM.out; simp [intOf]; omega
    · obtain rfl : M0 = n := by omega
      have ho2 := ho.out
      rw [List.take_of_length_le (by have := HSL.out; omega)] at ho2
      have HO2 := Lib.hid ho2
      clear ho2
      have hlt' : ¬ (M : Int) < (N1 : Int) := by have := HN1.out; omega
      clear hM
      go_wp2_with fail
      go_returns
      exact ⟨_, rfl, OwnR.made HO2.out hw.out.size, hw.out⟩
theorem Agg.diffs_run (k : Int) (l : List (Bool × Int)) (n : Nat) : Agg.diffs (Agg.stAt k l) n = Agg.stDiff k l n := rfl
set_option maxRecDepth 8000 in
set_option maxHeartbeats 4000000 in
theorem stacksCosts_any (k : Int) (a : Option Addr) (n cap : Nat) (l : List (Bool × Int)) (w : World) (h : Ops w a n cap l) :
    Calls Tryz.prog 21 #[.int .i64 k, .slice a n cap] w (CostsOut (Agg.runOk k l) (Agg.costsN k l) w) := by
  have hll : l.length = n := h.1
  have HLL := Lib.hid hll
  have HST := Lib.hid (statesOf_run k a n cap l w h)
  obtain ⟨RB, hRB⟩ : ∃ RB, RB = Agg.runOk k l := ⟨_, rfl⟩
  rw [← hRB] at HST ⊢
  have HRB := Lib.hid hRB
  obtain ⟨RN, hRN⟩ : ∃ RN, RN = Agg.costsN k l := ⟨_, rfl⟩
  rw [← hRN]
  have HRN := Lib.hid hRN
  clear hRN hRB hll h
  go_enter Tryz.func21, Tryz.ntmps21
  go_wp2_with fail
  refine HST.out.mono ?_
  rintro e w1 ⟨v1, rfl, hr1, hb1⟩
  have HB1 := Lib.hid hb1
  clear hb1 HST
  cases RB
  · obtain rfl : RN = [] := by rw [HRN.out]; unfold Agg.costsN; rw [← HRB.out]; rfl
    clear hr1
    go_wp2_with fail
    go_returns
    exact ⟨_, 0, rfl, OwnR.of (lo := _) (World.ownsRow_nil _ _ _ _) HB1.out.size HB1.out.size, HB1.out⟩
  · have hro := HRB.out.symm
    simp only [Agg.runOk, Bool.and_eq_true] at hro
    obtain ⟨hk, hops⟩ := hro
    have hl2 : l.length ≤ 200 := by
      simp only [Agg.opsOk, Bool.and_eq_true, decide_eq_true_eq] at hops
      exact hops.1.1
    have hn2 : n ≤ 200 := by have := HLL.out; omega
    have e2 : RN = Agg.diffs (Agg.stAt k l) n := by rw [HRN.out]; unfold Agg.costsN; rw [← HRB.out, HLL.out]; rfl
    have e3 : Agg.runAt k l = Agg.stAt k l := by funext j; simp [Agg.runAt, hk]
    rw [e3] at hr1
    obtain ⟨c, hrow⟩ := hr1 (by first | rfl | trivial)
    obtain ⟨g, cap1, rfl, -, -, -, -, hread⟩ := hrow.read (by omega)
    have hat := hread 0 (by omega)
    simp only [Nat.zero_mul, Nat.sub_zero, Nat.zero_add] at hat
    have HD := Lib.hid (differences_stacks 69 (fun args w => by kernel_rfl) (Agg.stAt k l) (some ⟨g, 0, none⟩) n cap1 (by omega) w1 hat (fun j hj => Agg.st_cost hl2 (by have := HLL.out; omega)) (fun w' fa fn fc ia m ic bx by' bz fl co => costOf_stacks fa fn fc ia m ic bx by' bz fl co w'))
    rw [← e2] at HD
    obtain ⟨N1, hN1⟩ : ∃ N1, N1 = n + 1 := ⟨_, rfl⟩
    rw [← hN1] at HD ⊢
    clear hN1 hat hread hrow hr1 e2 e3 hk hops hl2
    go_wp2_with fail
    refine HD.out.mono ?_
    rintro e w2 ⟨v2, rfl, ho2, hb2⟩
    have HO2 := Lib.hid ho2
    have HB2 := Lib.hid (HB1.out.trans (hb2.mono HB1.out.size))
    have hs1 := HB1.out.size
    clear ho2 hb2 HD
    go_wp2_with fail
    go_returns
    exact ⟨_, n, rfl, HO2.out.wide hs1 (Nat.le_refl _) (Nat.le_refl _), HB2.out⟩
end Go.Proofs.YtmlkdbmhekiniaaGreat
