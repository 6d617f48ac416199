/-
  DequeStep in the program: a place goes; the change.
-/
import Derived.Test.Ytolgclajlklmaaa6yc
namespace Go.Proofs.Ytolgclajlklmaaa
set_option linter.unusedSimpArgs false
set_option linter.unusedVariables false
open Go.RowKit
theorem OwnS.tail1 {w : World} {lo hi : Nat} {a : Addr} {l : List Int} (h : OwnS w lo hi (.slice (some a) 1 1) 1 l) : OwnS w lo hi (.slice (some a) 0 0) 0 l.tail := by
  obtain ⟨h1, h2, h3, h4⟩ := h
  refine ⟨by simp [h1], h2, h3, ?_⟩
  rcases h4 with ⟨h4, -⟩ | ⟨g, off, cap', e, k1, k2, k3, k4, cur, hg, hn, hc⟩
  · cases h4
  · simp only [Value.slice.injEq, Option.some.injEq, true_and] at e
    obtain ⟨rfl, rfl⟩ := e
    exact .inr ⟨g, off, 0, rfl, k1, k2, Nat.le_refl _, by simp [maxLen], cur, hg, by omega, fun i hi => by omega⟩
theorem own_some {w : World} {base n c : Nat} {a : Option Addr} {xs : List Value} {e size : Nat} (h : w.ownsRow base e size (.slice a n c) n xs) (hn : 0 < n) : ∃ g, a = some ⟨g, 0, none⟩ ∧ base ≤ g ∧ g < w.heap.size ∧ n ≤ c ∧ c ≤ 9223372036854775807 := by
  rcases h.2 with ⟨e, h0⟩ | ⟨g, cap, cur, e, hb, hg, h1, h2, -⟩
  · omega
  · simp only [Value.slice.injEq, true_and] at e
    obtain ⟨rfl, rfl⟩ := e
    exact ⟨g, rfl, hb, (Array.getElem?_eq_some_iff.1 hg).1, h1, by unfold maxLen at h2; omega⟩
theorem tp_fin {w Z : World} {b1 n1 n2 : Nat} {v1 v2 : Value} {I P : List Int} {f x d : Int} (l1 : I.length = n1) (l2 : P.length = n2) (hb : Below w.heap.size w Z) (h1 : OwnS w b1 w.heap.size v1 n1 I) (h2 : OwnS w b1 w.heap.size v2 n2 P) (hd : v1.ownBlock = none ∨ v1.ownBlock ≠ v2.ownBlock) :
    DqOwn Z b1 Z.heap.size (.agg #[v1, v2, .int .i64 f, .int .i64 x, .int .i64 d]) ⟨I, P, f, x, d⟩ := by
  subst l1
  subst l2
  exact ⟨_, _, rfl, (h1.below hb).wide (Nat.le_refl _) hb.size (Nat.le_refl _), (h2.below hb).wide (Nat.le_refl _) hb.size (Nat.le_refl _), hd⟩
set_option maxRecDepth 8000 in
set_option maxHeartbeats 4000000 in
theorem takePlace_any (b1 b2 n : Nat) (ia : Option Addr) (ic : Nat) (pa : Option Addr) (pc : Nat) (fi nx dr : Int) (I P : List Int) (w : World)
    (hI : w.ownsRow b1 3 1 (.slice ia n ic) n (I.map (Value.int .i64))) (hP : w.ownsRow b2 3 1 (.slice pa n pc) n (P.map (Value.int .i64))) (hlt : ∀ g, (Value.slice ia n ic).ownBlock = some g → g < b2) (hb : b1 ≤ b2) (hb2 : b2 ≤ w.heap.size)
    (hn0 : 0 < n) (hn : n ≤ 60) (hf0 : 0 ≤ fi) (hf1 : fi ≤ 1000000) :
    Calls Try.prog 69 #[.agg #[.slice ia n ic, .slice pa n pc, .int .i64 fi, .int .i64 nx, .int .i64 dr]] w fun e w' => ∃ v, e = .returned v ∧ DqOwn w' b1 w'.heap.size v (Agg.popD ⟨I, P, fi, nx, dr⟩) ∧ Below w.heap.size w w' := by
  have HIL := Lib.hid (show I.length = n by have := hI.1; simpa using this)
  have HPL := Lib.hid (show P.length = n by have := hP.1; simpa using this)
  have hNP := nums_own hP hb2
  obtain ⟨g1, rfl, hg1, hg1', hic, hicm⟩ := own_some hI hn0
  obtain ⟨g2, rfl, hg2, hg2', hpc, hpcm⟩ := own_some hP hn0
  have hlt1 : g1 < b2 := hlt g1 rfl
  rcases hNP.2.2.2 with h0 | ⟨pb, poff, epb, hpb, hpcs⟩
  · omega
  · simp only [Option.some.injEq, Addr.mk.injEq, and_true] at epb
    obtain ⟨rfl, rfl⟩ := epb
    have hy := hpcs 0 hn0
    clear hpcs hNP
    obtain ⟨y, hyy⟩ : ∃ y, y = P[0]?.getD 0 := ⟨_, rfl⟩
    rw [← hyy, Nat.add_zero] at hy
    have HI := Lib.hid (own_s hI (by omega))
    have HP := Lib.hid (own_s (owns_lower hP hb) (by omega))
    obtain ⟨W, hW⟩ : ∃ W, W = (w.alloc (.cells #[.slice (some ⟨g1, 0, none⟩) n ic, .slice (some ⟨g2, 0, none⟩) n pc, .int .i64 fi, .int .i64 nx, .int .i64 dr] 26)).alloc (.cells #[.slice none 0 0, .slice none 0 0, .int .i64 0, .int .i64 0, .int .i64 0] 26) := ⟨_, rfl⟩
    have HS := Lib.hid (show Box5 W w.heap.size 26 (.slice (some ⟨g1, 0, none⟩) n ic) (.slice (some ⟨g2, 0, none⟩) n pc) (.int .i64 fi) (.int .i64 nx) (.int .i64 dr) from by rw [hW]; exact (Box5.new w _ _ _ _ _ _).alloc _)
    have HR := Lib.hid (show Box5 W (w.heap.size + 1) 26 (.slice none 0 0) (.slice none 0 0) (.int .i64 0) (.int .i64 0) (.int .i64 0) from by rw [hW]; exact Box5.new1 _ _ _ _ _ _ (by simp))
    have HB := Lib.hid (show Below w.heap.size w W from by rw [hW]; exact ((Below.refl _ _).alloc (Nat.le_refl _) _).alloc (by simp) _)
    have hyW := (HB.out.cell (p := ⟨g2, 0, none⟩) hg2').trans hy
    have hpop : (if y = fi then (⟨I.tail, P.tail, fi + 1, nx, dr⟩ : Agg.Dq) else ⟨I, P, fi + 1, nx, dr⟩) = Agg.popD ⟨I, P, fi, nx, dr⟩ := by rw [hyy]; rfl
    have HPOP := Lib.hid hpop
    clear hI hP hlt hyy hy hpop
    have h0n : (0 : Int) < (n : Int) := by omega
    have h1n : (1 : Int) ≤ (n : Int) := by omega
    have hnc1 : (n : Int) ≤ (ic : Int) := by omega
    have hnc2 : (n : Int) ≤ (pc : Int) := by omega
    have hww : IntKind.i64.wrap (fi + 1) = fi + 1 := IntWalk.i64_in _ ⟨by omega, by omega⟩
    go_enter Try.func69, Try.ntmps69
    go_upto_region 1 with (fail)
    rw [← hW]
    clear hW
    obtain ⟨q0, q1, q2, q3, q4⟩ := HS.out.cells
    refine wp_region_held_drew (S := (fun X => X.cell? ⟨w.heap.size, 1, none⟩ = some (.slice (some ⟨g2, 0, none⟩) n pc) ∧ X.cell? ⟨g2, 0, none⟩ = some (.int .i64 y) ∧ X.cell? ⟨w.heap.size, 2, none⟩ = some (.int .i64 fi))) (by kernel_rfl) (by refine ⟨?_, ?_, ?_⟩ <;> assumption) (fun hHeld => ?_)
    first | (refine wpAnyH_take (i := 0) (v := ?_) rfl (by kernel_rfl) (by kernel_rfl) (by kernel_rfl) (fun _ _ _ h => h) (Or.inl ⟨by rfl, ?_⟩) (by assumption) ?_; rotate_left; (intro X hSw; (try dsimp only at hSw); go_simp; (try with_reducible rfl)); (try simp only [Act.put, List.setIfInBounds_toArray, List.set_cons_zero, List.set_cons_succ, List.getElem_toArray, List.getElem_cons_zero, List.getElem_cons_succ])) | fail "take 0"
    first | (refine wpAnyH_take (i := 1) (v := ?_) rfl (by kernel_rfl) (by kernel_rfl) (by kernel_rfl) (fun _ _ _ h => h) (Or.inl ⟨by rfl, ?_⟩) (by assumption) ?_; rotate_left; (intro X hSw; (try dsimp only at hSw); go_simp; (try with_reducible rfl)); (try simp only [Act.put, List.setIfInBounds_toArray, List.set_cons_zero, List.set_cons_succ, List.getElem_toArray, List.getElem_cons_zero, List.getElem_cons_succ])) | fail "take 1"
    first | (refine wpAnyH_take (i := 2) (v := ?_) rfl (by kernel_rfl) (by kernel_rfl) (by kernel_rfl) (fun _ _ _ h => h) (Or.inl ⟨by rfl, ?_⟩) (by assumption) ?_; rotate_left; (intro X hSw; (try dsimp only at hSw); go_simp; (try with_reducible rfl)); (try simp only [Act.put, List.setIfInBounds_toArray, List.set_cons_zero, List.set_cons_succ, List.getElem_toArray, List.getElem_cons_zero, List.getElem_cons_succ])) | fail "take 2"
    first | (refine wpAnyH_take (i := 3) (v := ?_) rfl (by kernel_rfl) (by kernel_rfl) (by kernel_rfl) (fun _ _ _ h => h) (Or.inl ⟨by rfl, ?_⟩) (by assumption) ?_; rotate_left; (intro X hSw; (try dsimp only at hSw); go_simp; (try with_reducible rfl)); (try simp only [Act.put, List.setIfInBounds_toArray, List.set_cons_zero, List.set_cons_succ, List.getElem_toArray, List.getElem_cons_zero, List.getElem_cons_succ])) | fail "take 3"
    first | (refine wpAnyH_take (i := 4) (v := ?_) rfl (by kernel_rfl) (by kernel_rfl) (by kernel_rfl) (fun _ _ _ h => h) (Or.inl ⟨by rfl, ?_⟩) (by assumption) ?_; rotate_left; (intro X hSw; (try dsimp only at hSw); go_simp; (try with_reducible rfl)); (try simp only [Act.put, List.setIfInBounds_toArray, List.set_cons_zero, List.set_cons_succ, List.getElem_toArray, List.getElem_cons_zero, List.getElem_cons_succ])) | fail "take 4"
    first | (refine wpAnyH_take (i := 5) (v := ?_) rfl (by kernel_rfl) (by kernel_rfl) (by kernel_rfl) (fun _ _ _ h => h) (Or.inl ⟨by rfl, ?_⟩) (by assumption) ?_; rotate_left; (intro X hSw; (try dsimp only at hSw); go_simp; (try with_reducible rfl)); (try simp only [Act.put, List.setIfInBounds_toArray, List.set_cons_zero, List.set_cons_succ, List.getElem_toArray, List.getElem_cons_zero, List.getElem_cons_succ])) | fail "take 5"
    first | (refine wpAnyH_take (i := 6) (v := ?_) rfl (by kernel_rfl) (by kernel_rfl) (by kernel_rfl) (fun _ _ _ h => h) (Or.inl ⟨by rfl, ?_⟩) (by assumption) ?_; rotate_left; (intro X hSw; (try dsimp only at hSw); go_simp; (try with_reducible rfl)); (try simp only [Act.put, List.setIfInBounds_toArray, List.set_cons_zero, List.set_cons_succ, List.getElem_toArray, List.getElem_cons_zero, List.getElem_cons_succ])) | fail "take 6"
    refine wpAnyH_done (by kernel_rfl) ?_ _
    obtain ⟨W1, hW1⟩ : ∃ W1, W1 = W.drew := ⟨_, rfl⟩
    have HS := Lib.hid (show Box5 W1 w.heap.size 26 (.slice (some ⟨g1, 0, none⟩) n ic) (.slice (some ⟨g2, 0, none⟩) n pc) (.int .i64 fi) (.int .i64 nx) (.int .i64 dr) from by rw [hW1]; exact HS.out)
    have HR := Lib.hid (show Box5 W1 (w.heap.size + 1) 26 (.slice none 0 0) (.slice none 0 0) (.int .i64 0) (.int .i64 0) (.int .i64 0) from by rw [hW1]; exact HR.out)
    have HB := Lib.hid (show Below w.heap.size w W1 from by rw [hW1]; exact HB.out.drew)
    rw [← hW1]
    clear hW1 q0 q1 q2 q3 q4 hyW hHeld
    by_cases hyf : y = fi
    · have hpp := HPOP.out
      rw [if_pos hyf] at hpp
      have HPOP := Lib.hid hpp
      clear hpp
      by_cases hc1 : ic = 1
      · subst hc1
        by_cases hc2 : pc = 1
        · subst hc2
          obtain ⟨q0, q1, q2, q3, q4⟩ := HS.out.cells
          go_wp2_with fail
          refine wp_region_held_drew (S := (fun _ => True)) (by kernel_rfl) True.intro (fun hHeld => ?_)
          clear q0 q1 q2 q3 q4
          obtain ⟨Wd, hWd⟩ : ∃ Wd, Wd = W1.drew := ⟨_, rfl⟩
          have HS := Lib.hid (show Box5 Wd w.heap.size 26 (.slice (some ⟨g1, 0, none⟩) n 1) (.slice (some ⟨g2, 0, none⟩) n 1) (.int .i64 fi) (.int .i64 nx) (.int .i64 dr) from by rw [hWd]; exact HS.out)
          have HR := Lib.hid (show Box5 Wd (w.heap.size + 1) 26 (.slice none 0 0) (.slice none 0 0) (.int .i64 0) (.int .i64 0) (.int .i64 0) from by rw [hWd]; exact HR.out)
          have HB := Lib.hid (show Below w.heap.size w Wd from by rw [hWd]; exact HB.out.drew)
          rw [← hWd]
          clear hWd
          obtain ⟨q0, q1, q2, q3, q4⟩ := HS.out.cells
          first | (refine wpAnyH_take (i := 0) (v := ?_) rfl (by kernel_rfl) (by kernel_rfl) (by kernel_rfl) (fun _ _ _ h => h) (Or.inl ⟨by rfl, ?_⟩) (by assumption) ?_; rotate_left; (intro X hSw; (try dsimp only at hSw); go_simp; (try with_reducible rfl)); (try simp only [Act.put, List.setIfInBounds_toArray, List.set_cons_zero, List.set_cons_succ, List.getElem_toArray, List.getElem_cons_zero, List.getElem_cons_succ])) | fail "take 0"
          first | (refine wpAnyH_take (i := 3) (v := ?_) rfl (by kernel_rfl) (by kernel_rfl) (by kernel_rfl) (fun _ _ _ h => h) (Or.inl ⟨by rfl, ?_⟩) (by assumption) ?_; rotate_left; (intro X hSw; (try dsimp only at hSw); go_simp; (try with_reducible rfl)); (try simp only [Act.put, List.setIfInBounds_toArray, List.set_cons_zero, List.set_cons_succ, List.getElem_toArray, List.getElem_cons_zero, List.getElem_cons_succ])) | fail "take 3"
          refine wpAnyH_ready (rs := [1, 4]) (by kernel_rfl) (by simp) ?_
          refine AllReadyH.cons rfl (fun K hK => ?_) (AllReadyH.cons rfl (fun K hK => ?_) AllReadyH.nil)
          · go_simp
            (try dsimp only)
            refine hK.out _ _ (by exact True.intro) (fun hHeld => ?_)
            clear hK K
            (try simp only [Act.put, List.setIfInBounds_toArray, List.set_cons_zero, List.set_cons_succ, List.getElem_toArray, List.getElem_cons_zero, List.getElem_cons_succ])
            first | (refine wpAnyH_take (i := 2) (v := ?_) rfl (by kernel_rfl) (by kernel_rfl) (by kernel_rfl) (fun _ _ _ h => h) (Or.inl ⟨by rfl, ?_⟩) (by assumption) ?_; rotate_left; (intro X hSw; (try dsimp only at hSw); go_simp; (try with_reducible rfl)); (try simp only [Act.put, List.setIfInBounds_toArray, List.set_cons_zero, List.set_cons_succ, List.getElem_toArray, List.getElem_cons_zero, List.getElem_cons_succ])) | fail "take 2"
            refine wpAnyH_ready (rs := [4]) (by kernel_rfl) (by simp) ?_
            refine AllReadyH.cons rfl (fun K hK => ?_) AllReadyH.nil
            go_simp
            (try dsimp only)
            refine hK.out _ _ (by exact True.intro) (fun hHeld => ?_)
            clear hK K
            (try simp only [Act.put, List.setIfInBounds_toArray, List.set_cons_zero, List.set_cons_succ, List.getElem_toArray, List.getElem_cons_zero, List.getElem_cons_succ])
            first | (refine wpAnyH_take (i := 5) (v := ?_) rfl (by kernel_rfl) (by kernel_rfl) (by kernel_rfl) (fun _ _ _ h => h) (Or.inl ⟨by rfl, ?_⟩) (by assumption) ?_; rotate_left; (intro X hSw; (try dsimp only at hSw); go_simp; (try with_reducible rfl)); (try simp only [Act.put, List.setIfInBounds_toArray, List.set_cons_zero, List.set_cons_succ, List.getElem_toArray, List.getElem_cons_zero, List.getElem_cons_succ])) | fail "take 5"
            first | (refine wpAnyH_take (i := 6) (v := ?_) rfl (by kernel_rfl) (by kernel_rfl) (by kernel_rfl) (fun _ _ _ h => h) (Or.inl ⟨by rfl, ?_⟩) (by assumption) ?_; rotate_left; (intro X hSw; (try dsimp only at hSw); go_simp; (try with_reducible rfl)); (try simp only [Act.put, List.setIfInBounds_toArray, List.set_cons_zero, List.set_cons_succ, List.getElem_toArray, List.getElem_cons_zero, List.getElem_cons_succ])) | fail "take 6"
            refine wpAnyH_ready (rs := [7]) (by kernel_rfl) (by simp) ?_
            refine AllReadyH.cons rfl (fun K hK => ?_) AllReadyH.nil
            have f0 := HS.out.free
            have HS2 := Lib.hid (HS.out.set0 (.slice (some ⟨g1, 0, none⟩) 0 0))
            have HR2 := Lib.hid (HR.out.other (show w.heap.size + 1 ≠ w.heap.size by omega) 0 (.slice (some ⟨g1, 0, none⟩) 0 0))
            have HB2 := Lib.hid (HB.out.setCell (p := ⟨w.heap.size, 0, none⟩) (Nat.le_refl _) (.slice (some ⟨g1, 0, none⟩) 0 0))
            go_simp
            (try dsimp only)
            refine hK.out _ _ (by exact True.intro) (fun hHeld => ?_)
            clear hK K
            (try simp only [Act.put, List.setIfInBounds_toArray, List.set_cons_zero, List.set_cons_succ, List.getElem_toArray, List.getElem_cons_zero, List.getElem_cons_succ])
            first | (refine wpAnyH_take (i := 8) (v := ?_) rfl (by kernel_rfl) (by kernel_rfl) (by kernel_rfl) (fun _ _ _ h => h) (Or.inl ⟨by rfl, ?_⟩) (by assumption) ?_; rotate_left; (intro X hSw; (try dsimp only at hSw); go_simp; (try with_reducible rfl)); (try simp only [Act.put, List.setIfInBounds_toArray, List.set_cons_zero, List.set_cons_succ, List.getElem_toArray, List.getElem_cons_zero, List.getElem_cons_succ])) | fail "take 8"
            refine wpAnyH_ready (rs := [9]) (by kernel_rfl) (by simp) ?_
            refine AllReadyH.cons rfl (fun K hK => ?_) AllReadyH.nil
            have f3 := HS2.out.free
            have HR2 := Lib.hid (HR2.out.other (show w.heap.size + 1 ≠ w.heap.size by omega) 1 (.slice (some ⟨g2, 0, none⟩) 0 0))
            have HB2 := Lib.hid (HB2.out.setCell (p := ⟨w.heap.size, 1, none⟩) (Nat.le_refl _) (.slice (some ⟨g2, 0, none⟩) 0 0))
            have HS2 := Lib.hid (HS2.out.set1 (.slice (some ⟨g2, 0, none⟩) 0 0))
            go_simp
            (try dsimp only)
            refine hK.out _ _ (by exact True.intro) (fun hHeld => ?_)
            clear hK K
            (try simp only [Act.put, List.setIfInBounds_toArray, List.set_cons_zero, List.set_cons_succ, List.getElem_toArray, List.getElem_cons_zero, List.getElem_cons_succ])
            refine wpAnyH_done (by kernel_rfl) ?_ _
            obtain ⟨X2, hX2⟩ : ∃ X2, X2 = (Wd.setCell ⟨w.heap.size, 0, none⟩ (.slice (some ⟨g1, 0, none⟩) 0 0)).setCell ⟨w.heap.size, 1, none⟩ (.slice (some ⟨g2, 0, none⟩) 0 0) := ⟨_, rfl⟩
            have HS2 := Lib.hid (show Box5 X2 w.heap.size 26 (.slice (some ⟨g1, 0, none⟩) 0 0) (.slice (some ⟨g2, 0, none⟩) 0 0) (.int .i64 fi) (.int .i64 nx) (.int .i64 dr) from by rw [hX2]; exact HS2.out)
            have HR2 := Lib.hid (show Box5 X2 (w.heap.size + 1) 26 (.slice none 0 0) (.slice none 0 0) (.int .i64 0) (.int .i64 0) (.int .i64 0) from by rw [hX2]; exact HR2.out)
            have HB2 := Lib.hid (show Below w.heap.size w X2 from by rw [hX2]; exact HB2.out)
            rw [← hX2]
            clear hX2 q0 q1 q2 q3 q4 f0 f3 hHeld
            obtain ⟨q0, q1, q2, q3, q4⟩ := HS2.out.cells
            have f2 := HS2.out.free
            obtain ⟨e0, e1, e2, e3, e4⟩ := HR2.out.cells
            have gf := HR2.out.free
            have hsl := HR2.out.lt
            have hne1 : w.heap.size + 1 ≠ w.heap.size := by omega
            have hne2 : w.heap.size ≠ w.heap.size + 1 := by omega
            go_wp2_with fail
            refine bodyPost_ret (by simp [results, Try.results69, go_sem, *]; try rfl) rfl ?_
            have hb9 := f6_below5 (c := w.heap.size + 1) (HB2.out.setCell (p := ⟨w.heap.size, 2, none⟩) (Nat.le_refl _) (.int .i64 (fi + 1))) (by omega) (.slice (some ⟨g1, 0, none⟩) 0 0) (.slice (some ⟨g2, 0, none⟩) 0 0) (.int .i64 (fi + 1)) (.int .i64 nx) (.int .i64 dr)
            rw [← HPOP.out]
            have l1 : I.tail.length = 0 := by have := HIL.out; simp; omega
            have l2 : P.tail.length = 0 := by have := HPL.out; simp; omega
            have t1 : OwnS w b1 w.heap.size (.slice (some ⟨g1, 0, none⟩) 0 0) 0 I.tail := by
              have h := HI.out
              obtain rfl : n = 1 := by omega
              exact h.tail1
            have t2 : OwnS w b1 w.heap.size (.slice (some ⟨g2, 0, none⟩) 0 0) 0 P.tail := by
              have h := HP.out
              obtain rfl : n = 1 := by omega
              exact h.tail1
            exact ⟨_, rfl, tp_fin l1 l2 hb9 t1 t2 (.inr (fun e => by simp [Value.ownBlock] at e; omega)), hb9⟩
          · go_simp
            (try dsimp only)
            refine hK.out _ _ (by exact True.intro) (fun hHeld => ?_)
            clear hK K
            (try simp only [Act.put, List.setIfInBounds_toArray, List.set_cons_zero, List.set_cons_succ, List.getElem_toArray, List.getElem_cons_zero, List.getElem_cons_succ])
            first | (refine wpAnyH_take (i := 5) (v := ?_) rfl (by kernel_rfl) (by kernel_rfl) (by kernel_rfl) (fun _ _ _ h => h) (Or.inl ⟨by rfl, ?_⟩) (by assumption) ?_; rotate_left; (intro X hSw; (try dsimp only at hSw); go_simp; (try with_reducible rfl)); (try simp only [Act.put, List.setIfInBounds_toArray, List.set_cons_zero, List.set_cons_succ, List.getElem_toArray, List.getElem_cons_zero, List.getElem_cons_succ])) | fail "take 5"
            refine wpAnyH_ready (rs := [1]) (by kernel_rfl) (by simp) ?_
            refine AllReadyH.cons rfl (fun K hK => ?_) AllReadyH.nil
            go_simp
            (try dsimp only)
            refine hK.out _ _ (by exact True.intro) (fun hHeld => ?_)
            clear hK K
            (try simp only [Act.put, List.setIfInBounds_toArray, List.set_cons_zero, List.set_cons_succ, List.getElem_toArray, List.getElem_cons_zero, List.getElem_cons_succ])
            first | (refine wpAnyH_take (i := 2) (v := ?_) rfl (by kernel_rfl) (by kernel_rfl) (by kernel_rfl) (fun _ _ _ h => h) (Or.inl ⟨by rfl, ?_⟩) (by assumption) ?_; rotate_left; (intro X hSw; (try dsimp only at hSw); go_simp; (try with_reducible rfl)); (try simp only [Act.put, List.setIfInBounds_toArray, List.set_cons_zero, List.set_cons_succ, List.getElem_toArray, List.getElem_cons_zero, List.getElem_cons_succ])) | fail "take 2"
            first | (refine wpAnyH_take (i := 6) (v := ?_) rfl (by kernel_rfl) (by kernel_rfl) (by kernel_rfl) (fun _ _ _ h => h) (Or.inl ⟨by rfl, ?_⟩) (by assumption) ?_; rotate_left; (intro X hSw; (try dsimp only at hSw); go_simp; (try with_reducible rfl)); (try simp only [Act.put, List.setIfInBounds_toArray, List.set_cons_zero, List.set_cons_succ, List.getElem_toArray, List.getElem_cons_zero, List.getElem_cons_succ])) | fail "take 6"
            refine wpAnyH_ready (rs := [7]) (by kernel_rfl) (by simp) ?_
            refine AllReadyH.cons rfl (fun K hK => ?_) AllReadyH.nil
            have f0 := HS.out.free
            have HS2 := Lib.hid (HS.out.set0 (.slice (some ⟨g1, 0, none⟩) 0 0))
            have HR2 := Lib.hid (HR.out.other (show w.heap.size + 1 ≠ w.heap.size by omega) 0 (.slice (some ⟨g1, 0, none⟩) 0 0))
            have HB2 := Lib.hid (HB.out.setCell (p := ⟨w.heap.size, 0, none⟩) (Nat.le_refl _) (.slice (some ⟨g1, 0, none⟩) 0 0))
            go_simp
            (try dsimp only)
            refine hK.out _ _ (by exact True.intro) (fun hHeld => ?_)
            clear hK K
            (try simp only [Act.put, List.setIfInBounds_toArray, List.set_cons_zero, List.set_cons_succ, List.getElem_toArray, List.getElem_cons_zero, List.getElem_cons_succ])
            first | (refine wpAnyH_take (i := 8) (v := ?_) rfl (by kernel_rfl) (by kernel_rfl) (by kernel_rfl) (fun _ _ _ h => h) (Or.inl ⟨by rfl, ?_⟩) (by assumption) ?_; rotate_left; (intro X hSw; (try dsimp only at hSw); go_simp; (try with_reducible rfl)); (try simp only [Act.put, List.setIfInBounds_toArray, List.set_cons_zero, List.set_cons_succ, List.getElem_toArray, List.getElem_cons_zero, List.getElem_cons_succ])) | fail "take 8"
            refine wpAnyH_ready (rs := [9]) (by kernel_rfl) (by simp) ?_
            refine AllReadyH.cons rfl (fun K hK => ?_) AllReadyH.nil
            have f3 := HS2.out.free
            have HR2 := Lib.hid (HR2.out.other (show w.heap.size + 1 ≠ w.heap.size by omega) 1 (.slice (some ⟨g2, 0, none⟩) 0 0))
            have HB2 := Lib.hid (HB2.out.setCell (p := ⟨w.heap.size, 1, none⟩) (Nat.le_refl _) (.slice (some ⟨g2, 0, none⟩) 0 0))
            have HS2 := Lib.hid (HS2.out.set1 (.slice (some ⟨g2, 0, none⟩) 0 0))
            go_simp
            (try dsimp only)
            refine hK.out _ _ (by exact True.intro) (fun hHeld => ?_)
            clear hK K
            (try simp only [Act.put, List.setIfInBounds_toArray, List.set_cons_zero, List.set_cons_succ, List.getElem_toArray, List.getElem_cons_zero, List.getElem_cons_succ])
            refine wpAnyH_done (by kernel_rfl) ?_ _
            obtain ⟨X2, hX2⟩ : ∃ X2, X2 = (Wd.setCell ⟨w.heap.size, 0, none⟩ (.slice (some ⟨g1, 0, none⟩) 0 0)).setCell ⟨w.heap.size, 1, none⟩ (.slice (some ⟨g2, 0, none⟩) 0 0) := ⟨_, rfl⟩
            have HS2 := Lib.hid (show Box5 X2 w.heap.size 26 (.slice (some ⟨g1, 0, none⟩) 0 0) (.slice (some ⟨g2, 0, none⟩) 0 0) (.int .i64 fi) (.int .i64 nx) (.int .i64 dr) from by rw [hX2]; exact HS2.out)
            have HR2 := Lib.hid (show Box5 X2 (w.heap.size + 1) 26 (.slice none 0 0) (.slice none 0 0) (.int .i64 0) (.int .i64 0) (.int .i64 0) from by rw [hX2]; exact HR2.out)
            have HB2 := Lib.hid (show Below w.heap.size w X2 from by rw [hX2]; exact HB2.out)
            rw [← hX2]
            clear hX2 q0 q1 q2 q3 q4 f0 f3 hHeld
            obtain ⟨q0, q1, q2, q3, q4⟩ := HS2.out.cells
            have f2 := HS2.out.free
            obtain ⟨e0, e1, e2, e3, e4⟩ := HR2.out.cells
            have gf := HR2.out.free
            have hsl := HR2.out.lt
            have hne1 : w.heap.size + 1 ≠ w.heap.size := by omega
            have hne2 : w.heap.size ≠ w.heap.size + 1 := by omega
            go_wp2_with fail
            refine bodyPost_ret (by simp [results, Try.results69, go_sem, *]; try rfl) rfl ?_
            have hb9 := f6_below5 (c := w.heap.size + 1) (HB2.out.setCell (p := ⟨w.heap.size, 2, none⟩) (Nat.le_refl _) (.int .i64 (fi + 1))) (by omega) (.slice (some ⟨g1, 0, none⟩) 0 0) (.slice (some ⟨g2, 0, none⟩) 0 0) (.int .i64 (fi + 1)) (.int .i64 nx) (.int .i64 dr)
            rw [← HPOP.out]
            have l1 : I.tail.length = 0 := by have := HIL.out; simp; omega
            have l2 : P.tail.length = 0 := by have := HPL.out; simp; omega
            have t1 : OwnS w b1 w.heap.size (.slice (some ⟨g1, 0, none⟩) 0 0) 0 I.tail := by
              have h := HI.out
              obtain rfl : n = 1 := by omega
              exact h.tail1
            have t2 : OwnS w b1 w.heap.size (.slice (some ⟨g2, 0, none⟩) 0 0) 0 P.tail := by
              have h := HP.out
              obtain rfl : n = 1 := by omega
              exact h.tail1
            exact ⟨_, rfl, tp_fin l1 l2 hb9 t1 t2 (.inr (fun e => by simp [Value.ownBlock] at e; omega)), hb9⟩
        · have hd2 : (1 : Int) < (pc : Int) := by omega
          have he2 : ¬ (1 : Int) = (pc : Int) := by omega
          obtain ⟨q0, q1, q2, q3, q4⟩ := HS.out.cells
          go_wp2_with fail
          refine wp_region_held_drew (S := (fun _ => True)) (by kernel_rfl) True.intro (fun hHeld => ?_)
          clear q0 q1 q2 q3 q4
          obtain ⟨Wd, hWd⟩ : ∃ Wd, Wd = W1.drew := ⟨_, rfl⟩
          have HS := Lib.hid (show Box5 Wd w.heap.size 26 (.slice (some ⟨g1, 0, none⟩) n 1) (.slice (some ⟨g2, 0, none⟩) n pc) (.int .i64 fi) (.int .i64 nx) (.int .i64 dr) from by rw [hWd]; exact HS.out)
          have HR := Lib.hid (show Box5 Wd (w.heap.size + 1) 26 (.slice none 0 0) (.slice none 0 0) (.int .i64 0) (.int .i64 0) (.int .i64 0) from by rw [hWd]; exact HR.out)
          have HB := Lib.hid (show Below w.heap.size w Wd from by rw [hWd]; exact HB.out.drew)
          rw [← hWd]
          clear hWd
          obtain ⟨q0, q1, q2, q3, q4⟩ := HS.out.cells
          first | (refine wpAnyH_take (i := 0) (v := ?_) rfl (by kernel_rfl) (by kernel_rfl) (by kernel_rfl) (fun _ _ _ h => h) (Or.inl ⟨by rfl, ?_⟩) (by assumption) ?_; rotate_left; (intro X hSw; (try dsimp only at hSw); go_simp; (try with_reducible rfl)); (try simp only [Act.put, List.setIfInBounds_toArray, List.set_cons_zero, List.set_cons_succ, List.getElem_toArray, List.getElem_cons_zero, List.getElem_cons_succ])) | fail "take 0"
          first | (refine wpAnyH_take (i := 3) (v := ?_) rfl (by kernel_rfl) (by kernel_rfl) (by kernel_rfl) (fun _ _ _ h => h) (Or.inl ⟨by rfl, ?_⟩) (by assumption) ?_; rotate_left; (intro X hSw; (try dsimp only at hSw); go_simp; (try with_reducible rfl)); (try simp only [Act.put, List.setIfInBounds_toArray, List.set_cons_zero, List.set_cons_succ, List.getElem_toArray, List.getElem_cons_zero, List.getElem_cons_succ])) | fail "take 3"
          refine wpAnyH_ready (rs := [1, 4]) (by kernel_rfl) (by simp) ?_
          refine AllReadyH.cons rfl (fun K hK => ?_) (AllReadyH.cons rfl (fun K hK => ?_) AllReadyH.nil)
          · go_simp
            (try dsimp only)
            refine hK.out _ _ (by exact True.intro) (fun hHeld => ?_)
            clear hK K
            (try simp only [Act.put, List.setIfInBounds_toArray, List.set_cons_zero, List.set_cons_succ, List.getElem_toArray, List.getElem_cons_zero, List.getElem_cons_succ])
            first | (refine wpAnyH_take (i := 2) (v := ?_) rfl (by kernel_rfl) (by kernel_rfl) (by kernel_rfl) (fun _ _ _ h => h) (Or.inl ⟨by rfl, ?_⟩) (by assumption) ?_; rotate_left; (intro X hSw; (try dsimp only at hSw); go_simp; (try with_reducible rfl)); (try simp only [Act.put, List.setIfInBounds_toArray, List.set_cons_zero, List.set_cons_succ, List.getElem_toArray, List.getElem_cons_zero, List.getElem_cons_succ])) | fail "take 2"
            refine wpAnyH_ready (rs := [4]) (by kernel_rfl) (by simp) ?_
            refine AllReadyH.cons rfl (fun K hK => ?_) AllReadyH.nil
            go_simp
            (try dsimp only)
            refine hK.out _ _ (by exact True.intro) (fun hHeld => ?_)
            clear hK K
            (try simp only [Act.put, List.setIfInBounds_toArray, List.set_cons_zero, List.set_cons_succ, List.getElem_toArray, List.getElem_cons_zero, List.getElem_cons_succ])
            first | (refine wpAnyH_take (i := 5) (v := ?_) rfl (by kernel_rfl) (by kernel_rfl) (by kernel_rfl) (fun _ _ _ h => h) (Or.inl ⟨by rfl, ?_⟩) (by assumption) ?_; rotate_left; (intro X hSw; (try dsimp only at hSw); go_simp; (try with_reducible rfl)); (try simp only [Act.put, List.setIfInBounds_toArray, List.set_cons_zero, List.set_cons_succ, List.getElem_toArray, List.getElem_cons_zero, List.getElem_cons_succ])) | fail "take 5"
            first | (refine wpAnyH_take (i := 6) (v := ?_) rfl (by kernel_rfl) (by kernel_rfl) (by kernel_rfl) (fun _ _ _ h => h) (Or.inl ⟨by rfl, ?_⟩) (by assumption) ?_; rotate_left; (intro X hSw; (try dsimp only at hSw); go_simp; (try with_reducible rfl)); (try simp only [Act.put, List.setIfInBounds_toArray, List.set_cons_zero, List.set_cons_succ, List.getElem_toArray, List.getElem_cons_zero, List.getElem_cons_succ])) | fail "take 6"
            refine wpAnyH_ready (rs := [7]) (by kernel_rfl) (by simp) ?_
            refine AllReadyH.cons rfl (fun K hK => ?_) AllReadyH.nil
            have f0 := HS.out.free
            have HS2 := Lib.hid (HS.out.set0 (.slice (some ⟨g1, 0, none⟩) 0 0))
            have HR2 := Lib.hid (HR.out.other (show w.heap.size + 1 ≠ w.heap.size by omega) 0 (.slice (some ⟨g1, 0, none⟩) 0 0))
            have HB2 := Lib.hid (HB.out.setCell (p := ⟨w.heap.size, 0, none⟩) (Nat.le_refl _) (.slice (some ⟨g1, 0, none⟩) 0 0))
            go_simp
            (try dsimp only)
            refine hK.out _ _ (by exact True.intro) (fun hHeld => ?_)
            clear hK K
            (try simp only [Act.put, List.setIfInBounds_toArray, List.set_cons_zero, List.set_cons_succ, List.getElem_toArray, List.getElem_cons_zero, List.getElem_cons_succ])
            first | (refine wpAnyH_take (i := 8) (v := ?_) rfl (by kernel_rfl) (by kernel_rfl) (by kernel_rfl) (fun _ _ _ h => h) (Or.inl ⟨by rfl, ?_⟩) (by assumption) ?_; rotate_left; (intro X hSw; (try dsimp only at hSw); go_simp; (try with_reducible rfl)); (try simp only [Act.put, List.setIfInBounds_toArray, List.set_cons_zero, List.set_cons_succ, List.getElem_toArray, List.getElem_cons_zero, List.getElem_cons_succ])) | fail "take 8"
            refine wpAnyH_ready (rs := [9]) (by kernel_rfl) (by simp) ?_
            refine AllReadyH.cons rfl (fun K hK => ?_) AllReadyH.nil
            have f3 := HS2.out.free
            have HR2 := Lib.hid (HR2.out.other (show w.heap.size + 1 ≠ w.heap.size by omega) 1 (.slice (some ⟨g2, 1, none⟩) 0 (pc - 1)))
            have HB2 := Lib.hid (HB2.out.setCell (p := ⟨w.heap.size, 1, none⟩) (Nat.le_refl _) (.slice (some ⟨g2, 1, none⟩) 0 (pc - 1)))
            have HS2 := Lib.hid (HS2.out.set1 (.slice (some ⟨g2, 1, none⟩) 0 (pc - 1)))
            go_simp
            (try dsimp only)
            refine hK.out _ _ (by exact True.intro) (fun hHeld => ?_)
            clear hK K
            (try simp only [Act.put, List.setIfInBounds_toArray, List.set_cons_zero, List.set_cons_succ, List.getElem_toArray, List.getElem_cons_zero, List.getElem_cons_succ])
            refine wpAnyH_done (by kernel_rfl) ?_ _
            obtain ⟨X2, hX2⟩ : ∃ X2, X2 = (Wd.setCell ⟨w.heap.size, 0, none⟩ (.slice (some ⟨g1, 0, none⟩) 0 0)).setCell ⟨w.heap.size, 1, none⟩ (.slice (some ⟨g2, 1, none⟩) 0 (pc - 1)) := ⟨_, rfl⟩
            have HS2 := Lib.hid (show Box5 X2 w.heap.size 26 (.slice (some ⟨g1, 0, none⟩) 0 0) (.slice (some ⟨g2, 1, none⟩) 0 (pc - 1)) (.int .i64 fi) (.int .i64 nx) (.int .i64 dr) from by rw [hX2]; exact HS2.out)
            have HR2 := Lib.hid (show Box5 X2 (w.heap.size + 1) 26 (.slice none 0 0) (.slice none 0 0) (.int .i64 0) (.int .i64 0) (.int .i64 0) from by rw [hX2]; exact HR2.out)
            have HB2 := Lib.hid (show Below w.heap.size w X2 from by rw [hX2]; exact HB2.out)
            rw [← hX2]
            clear hX2 q0 q1 q2 q3 q4 f0 f3 hHeld
            obtain ⟨q0, q1, q2, q3, q4⟩ := HS2.out.cells
            have f2 := HS2.out.free
            obtain ⟨e0, e1, e2, e3, e4⟩ := HR2.out.cells
            have gf := HR2.out.free
            have hsl := HR2.out.lt
            have hne1 : w.heap.size + 1 ≠ w.heap.size := by omega
            have hne2 : w.heap.size ≠ w.heap.size + 1 := by omega
            go_wp2_with fail
            refine bodyPost_ret (by simp [results, Try.results69, go_sem, *]; try rfl) rfl ?_
            have hb9 := f6_below5 (c := w.heap.size + 1) (HB2.out.setCell (p := ⟨w.heap.size, 2, none⟩) (Nat.le_refl _) (.int .i64 (fi + 1))) (by omega) (.slice (some ⟨g1, 0, none⟩) 0 0) (.slice (some ⟨g2, 1, none⟩) 0 (pc - 1)) (.int .i64 (fi + 1)) (.int .i64 nx) (.int .i64 dr)
            rw [← HPOP.out]
            have l1 : I.tail.length = 0 := by have := HIL.out; simp; omega
            have l2 : P.tail.length = 0 := by have := HPL.out; simp; omega
            have t1 : OwnS w b1 w.heap.size (.slice (some ⟨g1, 0, none⟩) 0 0) 0 I.tail := by
              have h := HI.out
              obtain rfl : n = 1 := by omega
              exact h.tail1
            have t2 : OwnS w b1 w.heap.size (.slice (some ⟨g2, 1, none⟩) 0 (pc - 1)) 0 P.tail := by
              have h := HP.out
              obtain rfl : n = 1 := by omega
              have h2 := OwnS.tail (n := 0) h
              rw [Addr.add_lit] at h2
              exact h2
            exact ⟨_, rfl, tp_fin l1 l2 hb9 t1 t2 (.inr (fun e => by simp [Value.ownBlock] at e; omega)), hb9⟩
          · go_simp
            (try dsimp only)
            refine hK.out _ _ (by exact True.intro) (fun hHeld => ?_)
            clear hK K
            (try simp only [Act.put, List.setIfInBounds_toArray, List.set_cons_zero, List.set_cons_succ, List.getElem_toArray, List.getElem_cons_zero, List.getElem_cons_succ])
            first | (refine wpAnyH_take (i := 5) (v := ?_) rfl (by kernel_rfl) (by kernel_rfl) (by kernel_rfl) (fun _ _ _ h => h) (Or.inl ⟨by rfl, ?_⟩) (by assumption) ?_; rotate_left; (intro X hSw; (try dsimp only at hSw); go_simp; (try with_reducible rfl)); (try simp only [Act.put, List.setIfInBounds_toArray, List.set_cons_zero, List.set_cons_succ, List.getElem_toArray, List.getElem_cons_zero, List.getElem_cons_succ])) | fail "take 5"
            refine wpAnyH_ready (rs := [1]) (by kernel_rfl) (by simp) ?_
            refine AllReadyH.cons rfl (fun K hK => ?_) AllReadyH.nil
            go_simp
            (try dsimp only)
            refine hK.out _ _ (by exact True.intro) (fun hHeld => ?_)
            clear hK K
            (try simp only [Act.put, List.setIfInBounds_toArray, List.set_cons_zero, List.set_cons_succ, List.getElem_toArray, List.getElem_cons_zero, List.getElem_cons_succ])
            first | (refine wpAnyH_take (i := 2) (v := ?_) rfl (by kernel_rfl) (by kernel_rfl) (by kernel_rfl) (fun _ _ _ h => h) (Or.inl ⟨by rfl, ?_⟩) (by assumption) ?_; rotate_left; (intro X hSw; (try dsimp only at hSw); go_simp; (try with_reducible rfl)); (try simp only [Act.put, List.setIfInBounds_toArray, List.set_cons_zero, List.set_cons_succ, List.getElem_toArray, List.getElem_cons_zero, List.getElem_cons_succ])) | fail "take 2"
            first | (refine wpAnyH_take (i := 6) (v := ?_) rfl (by kernel_rfl) (by kernel_rfl) (by kernel_rfl) (fun _ _ _ h => h) (Or.inl ⟨by rfl, ?_⟩) (by assumption) ?_; rotate_left; (intro X hSw; (try dsimp only at hSw); go_simp; (try with_reducible rfl)); (try simp only [Act.put, List.setIfInBounds_toArray, List.set_cons_zero, List.set_cons_succ, List.getElem_toArray, List.getElem_cons_zero, List.getElem_cons_succ])) | fail "take 6"
            refine wpAnyH_ready (rs := [7]) (by kernel_rfl) (by simp) ?_
            refine AllReadyH.cons rfl (fun K hK => ?_) AllReadyH.nil
            have f0 := HS.out.free
            have HS2 := Lib.hid (HS.out.set0 (.slice (some ⟨g1, 0, none⟩) 0 0))
            have HR2 := Lib.hid (HR.out.other (show w.heap.size + 1 ≠ w.heap.size by omega) 0 (.slice (some ⟨g1, 0, none⟩) 0 0))
            have HB2 := Lib.hid (HB.out.setCell (p := ⟨w.heap.size, 0, none⟩) (Nat.le_refl _) (.slice (some ⟨g1, 0, none⟩) 0 0))
            go_simp
            (try dsimp only)
            refine hK.out _ _ (by exact True.intro) (fun hHeld => ?_)
            clear hK K
            (try simp only [Act.put, List.setIfInBounds_toArray, List.set_cons_zero, List.set_cons_succ, List.getElem_toArray, List.getElem_cons_zero, List.getElem_cons_succ])
            first | (refine wpAnyH_take (i := 8) (v := ?_) rfl (by kernel_rfl) (by kernel_rfl) (by kernel_rfl) (fun _ _ _ h => h) (Or.inl ⟨by rfl, ?_⟩) (by assumption) ?_; rotate_left; (intro X hSw; (try dsimp only at hSw); go_simp; (try with_reducible rfl)); (try simp only [Act.put, List.setIfInBounds_toArray, List.set_cons_zero, List.set_cons_succ, List.getElem_toArray, List.getElem_cons_zero, List.getElem_cons_succ])) | fail "take 8"
            refine wpAnyH_ready (rs := [9]) (by kernel_rfl) (by simp) ?_
            refine AllReadyH.cons rfl (fun K hK => ?_) AllReadyH.nil
            have f3 := HS2.out.free
            have HR2 := Lib.hid (HR2.out.other (show w.heap.size + 1 ≠ w.heap.size by omega) 1 (.slice (some ⟨g2, 1, none⟩) 0 (pc - 1)))
            have HB2 := Lib.hid (HB2.out.setCell (p := ⟨w.heap.size, 1, none⟩) (Nat.le_refl _) (.slice (some ⟨g2, 1, none⟩) 0 (pc - 1)))
            have HS2 := Lib.hid (HS2.out.set1 (.slice (some ⟨g2, 1, none⟩) 0 (pc - 1)))
            go_simp
            (try dsimp only)
            refine hK.out _ _ (by exact True.intro) (fun hHeld => ?_)
            clear hK K
            (try simp only [Act.put, List.setIfInBounds_toArray, List.set_cons_zero, List.set_cons_succ, List.getElem_toArray, List.getElem_cons_zero, List.getElem_cons_succ])
            refine wpAnyH_done (by kernel_rfl) ?_ _
            obtain ⟨X2, hX2⟩ : ∃ X2, X2 = (Wd.setCell ⟨w.heap.size, 0, none⟩ (.slice (some ⟨g1, 0, none⟩) 0 0)).setCell ⟨w.heap.size, 1, none⟩ (.slice (some ⟨g2, 1, none⟩) 0 (pc - 1)) := ⟨_, rfl⟩
            have HS2 := Lib.hid (show Box5 X2 w.heap.size 26 (.slice (some ⟨g1, 0, none⟩) 0 0) (.slice (some ⟨g2, 1, none⟩) 0 (pc - 1)) (.int .i64 fi) (.int .i64 nx) (.int .i64 dr) from by rw [hX2]; exact HS2.out)
            have HR2 := Lib.hid (show Box5 X2 (w.heap.size + 1) 26 (.slice none 0 0) (.slice none 0 0) (.int .i64 0) (.int .i64 0) (.int .i64 0) from by rw [hX2]; exact HR2.out)
            have HB2 := Lib.hid (show Below w.heap.size w X2 from by rw [hX2]; exact HB2.out)
            rw [← hX2]
            clear hX2 q0 q1 q2 q3 q4 f0 f3 hHeld
            obtain ⟨q0, q1, q2, q3, q4⟩ := HS2.out.cells
            have f2 := HS2.out.free
            obtain ⟨e0, e1, e2, e3, e4⟩ := HR2.out.cells
            have gf := HR2.out.free
            have hsl := HR2.out.lt
            have hne1 : w.heap.size + 1 ≠ w.heap.size := by omega
            have hne2 : w.heap.size ≠ w.heap.size + 1 := by omega
            go_wp2_with fail
            refine bodyPost_ret (by simp [results, Try.results69, go_sem, *]; try rfl) rfl ?_
            have hb9 := f6_below5 (c := w.heap.size + 1) (HB2.out.setCell (p := ⟨w.heap.size, 2, none⟩) (Nat.le_refl _) (.int .i64 (fi + 1))) (by omega) (.slice (some ⟨g1, 0, none⟩) 0 0) (.slice (some ⟨g2, 1, none⟩) 0 (pc - 1)) (.int .i64 (fi + 1)) (.int .i64 nx) (.int .i64 dr)
            rw [← HPOP.out]
            have l1 : I.tail.length = 0 := by have := HIL.out; simp; omega
            have l2 : P.tail.length = 0 := by have := HPL.out; simp; omega
            have t1 : OwnS w b1 w.heap.size (.slice (some ⟨g1, 0, none⟩) 0 0) 0 I.tail := by
              have h := HI.out
              obtain rfl : n = 1 := by omega
              exact h.tail1
            have t2 : OwnS w b1 w.heap.size (.slice (some ⟨g2, 1, none⟩) 0 (pc - 1)) 0 P.tail := by
              have h := HP.out
              obtain rfl : n = 1 := by omega
              have h2 := OwnS.tail (n := 0) h
              rw [Addr.add_lit] at h2
              exact h2
            exact ⟨_, rfl, tp_fin l1 l2 hb9 t1 t2 (.inr (fun e => by simp [Value.ownBlock] at e; omega)), hb9⟩
      · have hd1 : (1 : Int) < (ic : Int) := by omega
        have he1 : ¬ (1 : Int) = (ic : Int) := by omega
        by_cases hc2 : pc = 1
        · subst hc2
          obtain ⟨q0, q1, q2, q3, q4⟩ := HS.out.cells
          go_wp2_with fail
          refine wp_region_held_drew (S := (fun _ => True)) (by kernel_rfl) True.intro (fun hHeld => ?_)
          clear q0 q1 q2 q3 q4
          obtain ⟨Wd, hWd⟩ : ∃ Wd, Wd = W1.drew := ⟨_, rfl⟩
          have HS := Lib.hid (show Box5 Wd w.heap.size 26 (.slice (some ⟨g1, 0, none⟩) n ic) (.slice (some ⟨g2, 0, none⟩) n 1) (.int .i64 fi) (.int .i64 nx) (.int .i64 dr) from by rw [hWd]; exact HS.out)
          have HR := Lib.hid (show Box5 Wd (w.heap.size + 1) 26 (.slice none 0 0) (.slice none 0 0) (.int .i64 0) (.int .i64 0) (.int .i64 0) from by rw [hWd]; exact HR.out)
          have HB := Lib.hid (show Below w.heap.size w Wd from by rw [hWd]; exact HB.out.drew)
          rw [← hWd]
          clear hWd
          obtain ⟨q0, q1, q2, q3, q4⟩ := HS.out.cells
          first | (refine wpAnyH_take (i := 0) (v := ?_) rfl (by kernel_rfl) (by kernel_rfl) (by kernel_rfl) (fun _ _ _ h => h) (Or.inl ⟨by rfl, ?_⟩) (by assumption) ?_; rotate_left; (intro X hSw; (try dsimp only at hSw); go_simp; (try with_reducible rfl)); (try simp only [Act.put, List.setIfInBounds_toArray, List.set_cons_zero, List.set_cons_succ, List.getElem_toArray, List.getElem_cons_zero, List.getElem_cons_succ])) | fail "take 0"
          first | (refine wpAnyH_take (i := 3) (v := ?_) rfl (by kernel_rfl) (by kernel_rfl) (by kernel_rfl) (fun _ _ _ h => h) (Or.inl ⟨by rfl, ?_⟩) (by assumption) ?_; rotate_left; (intro X hSw; (try dsimp only at hSw); go_simp; (try with_reducible rfl)); (try simp only [Act.put, List.setIfInBounds_toArray, List.set_cons_zero, List.set_cons_succ, List.getElem_toArray, List.getElem_cons_zero, List.getElem_cons_succ])) | fail "take 3"
          refine wpAnyH_ready (rs := [1, 4]) (by kernel_rfl) (by simp) ?_
          refine AllReadyH.cons rfl (fun K hK => ?_) (AllReadyH.cons rfl (fun K hK => ?_) AllReadyH.nil)
          · go_simp
            (try dsimp only)
            refine hK.out _ _ (by exact True.intro) (fun hHeld => ?_)
            clear hK K
            (try simp only [Act.put, List.setIfInBounds_toArray, List.set_cons_zero, List.set_cons_succ, List.getElem_toArray, List.getElem_cons_zero, List.getElem_cons_succ])
            first | (refine wpAnyH_take (i := 2) (v := ?_) rfl (by kernel_rfl) (by kernel_rfl) (by kernel_rfl) (fun _ _ _ h => h) (Or.inl ⟨by rfl, ?_⟩) (by assumption) ?_; rotate_left; (intro X hSw; (try dsimp only at hSw); go_simp; (try with_reducible rfl)); (try simp only [Act.put, List.setIfInBounds_toArray, List.set_cons_zero, List.set_cons_succ, List.getElem_toArray, List.getElem_cons_zero, List.getElem_cons_succ])) | fail "take 2"
            refine wpAnyH_ready (rs := [4]) (by kernel_rfl) (by simp) ?_
            refine AllReadyH.cons rfl (fun K hK => ?_) AllReadyH.nil
            go_simp
            (try dsimp only)
            refine hK.out _ _ (by exact True.intro) (fun hHeld => ?_)
            clear hK K
            (try simp only [Act.put, List.setIfInBounds_toArray, List.set_cons_zero, List.set_cons_succ, List.getElem_toArray, List.getElem_cons_zero, List.getElem_cons_succ])
            first | (refine wpAnyH_take (i := 5) (v := ?_) rfl (by kernel_rfl) (by kernel_rfl) (by kernel_rfl) (fun _ _ _ h => h) (Or.inl ⟨by rfl, ?_⟩) (by assumption) ?_; rotate_left; (intro X hSw; (try dsimp only at hSw); go_simp; (try with_reducible rfl)); (try simp only [Act.put, List.setIfInBounds_toArray, List.set_cons_zero, List.set_cons_succ, List.getElem_toArray, List.getElem_cons_zero, List.getElem_cons_succ])) | fail "take 5"
            first | (refine wpAnyH_take (i := 6) (v := ?_) rfl (by kernel_rfl) (by kernel_rfl) (by kernel_rfl) (fun _ _ _ h => h) (Or.inl ⟨by rfl, ?_⟩) (by assumption) ?_; rotate_left; (intro X hSw; (try dsimp only at hSw); go_simp; (try with_reducible rfl)); (try simp only [Act.put, List.setIfInBounds_toArray, List.set_cons_zero, List.set_cons_succ, List.getElem_toArray, List.getElem_cons_zero, List.getElem_cons_succ])) | fail "take 6"
            refine wpAnyH_ready (rs := [7]) (by kernel_rfl) (by simp) ?_
            refine AllReadyH.cons rfl (fun K hK => ?_) AllReadyH.nil
            have f0 := HS.out.free
            have HS2 := Lib.hid (HS.out.set0 (.slice (some ⟨g1, 1, none⟩) 0 (ic - 1)))
            have HR2 := Lib.hid (HR.out.other (show w.heap.size + 1 ≠ w.heap.size by omega) 0 (.slice (some ⟨g1, 1, none⟩) 0 (ic - 1)))
            have HB2 := Lib.hid (HB.out.setCell (p := ⟨w.heap.size, 0, none⟩) (Nat.le_refl _) (.slice (some ⟨g1, 1, none⟩) 0 (ic - 1)))
            go_simp
            (try dsimp only)
            refine hK.out _ _ (by exact True.intro) (fun hHeld => ?_)
            clear hK K
            (try simp only [Act.put, List.setIfInBounds_toArray, List.set_cons_zero, List.set_cons_succ, List.getElem_toArray, List.getElem_cons_zero, List.getElem_cons_succ])
            first | (refine wpAnyH_take (i := 8) (v := ?_) rfl (by kernel_rfl) (by kernel_rfl) (by kernel_rfl) (fun _ _ _ h => h) (Or.inl ⟨by rfl, ?_⟩) (by assumption) ?_; rotate_left; (intro X hSw; (try dsimp only at hSw); go_simp; (try with_reducible rfl)); (try simp only [Act.put, List.setIfInBounds_toArray, List.set_cons_zero, List.set_cons_succ, List.getElem_toArray, List.getElem_cons_zero, List.getElem_cons_succ])) | fail "take 8"
            refine wpAnyH_ready (rs := [9]) (by kernel_rfl) (by simp) ?_
            refine AllReadyH.cons rfl (fun K hK => ?_) AllReadyH.nil
            have f3 := HS2.out.free
            have HR2 := Lib.hid (HR2.out.other (show w.heap.size + 1 ≠ w.heap.size by omega) 1 (.slice (some ⟨g2, 0, none⟩) 0 0))
            have HB2 := Lib.hid (HB2.out.setCell (p := ⟨w.heap.size, 1, none⟩) (Nat.le_refl _) (.slice (some ⟨g2, 0, none⟩) 0 0))
            have HS2 := Lib.hid (HS2.out.set1 (.slice (some ⟨g2, 0, none⟩) 0 0))
            go_simp
            (try dsimp only)
            refine hK.out _ _ (by exact True.intro) (fun hHeld => ?_)
            clear hK K
            (try simp only [Act.put, List.setIfInBounds_toArray, List.set_cons_zero, List.set_cons_succ, List.getElem_toArray, List.getElem_cons_zero, List.getElem_cons_succ])
            refine wpAnyH_done (by kernel_rfl) ?_ _
            obtain ⟨X2, hX2⟩ : ∃ X2, X2 = (Wd.setCell ⟨w.heap.size, 0, none⟩ (.slice (some ⟨g1, 1, none⟩) 0 (ic - 1))).setCell ⟨w.heap.size, 1, none⟩ (.slice (some ⟨g2, 0, none⟩) 0 0) := ⟨_, rfl⟩
            have HS2 := Lib.hid (show Box5 X2 w.heap.size 26 (.slice (some ⟨g1, 1, none⟩) 0 (ic - 1)) (.slice (some ⟨g2, 0, none⟩) 0 0) (.int .i64 fi) (.int .i64 nx) (.int .i64 dr) from by rw [hX2]; exact HS2.out)
            have HR2 := Lib.hid (show Box5 X2 (w.heap.size + 1) 26 (.slice none 0 0) (.slice none 0 0) (.int .i64 0) (.int .i64 0) (.int .i64 0) from by rw [hX2]; exact HR2.out)
            have HB2 := Lib.hid (show Below w.heap.size w X2 from by rw [hX2]; exact HB2.out)
            rw [← hX2]
            clear hX2 q0 q1 q2 q3 q4 f0 f3 hHeld
            obtain ⟨q0, q1, q2, q3, q4⟩ := HS2.out.cells
            have f2 := HS2.out.free
            obtain ⟨e0, e1, e2, e3, e4⟩ := HR2.out.cells
            have gf := HR2.out.free
            have hsl := HR2.out.lt
            have hne1 : w.heap.size + 1 ≠ w.heap.size := by omega
            have hne2 : w.heap.size ≠ w.heap.size + 1 := by omega
            go_wp2_with fail
            refine bodyPost_ret (by simp [results, Try.results69, go_sem, *]; try rfl) rfl ?_
            have hb9 := f6_below5 (c := w.heap.size + 1) (HB2.out.setCell (p := ⟨w.heap.size, 2, none⟩) (Nat.le_refl _) (.int .i64 (fi + 1))) (by omega) (.slice (some ⟨g1, 1, none⟩) 0 (ic - 1)) (.slice (some ⟨g2, 0, none⟩) 0 0) (.int .i64 (fi + 1)) (.int .i64 nx) (.int .i64 dr)
            rw [← HPOP.out]
            have l1 : I.tail.length = 0 := by have := HIL.out; simp; omega
            have l2 : P.tail.length = 0 := by have := HPL.out; simp; omega
            have t1 : OwnS w b1 w.heap.size (.slice (some ⟨g1, 1, none⟩) 0 (ic - 1)) 0 I.tail := by
              have h := HI.out
              obtain rfl : n = 1 := by omega
              have h2 := OwnS.tail (n := 0) h
              rw [Addr.add_lit] at h2
              exact h2
            have t2 : OwnS w b1 w.heap.size (.slice (some ⟨g2, 0, none⟩) 0 0) 0 P.tail := by
              have h := HP.out
              obtain rfl : n = 1 := by omega
              exact h.tail1
            exact ⟨_, rfl, tp_fin l1 l2 hb9 t1 t2 (.inr (fun e => by simp [Value.ownBlock] at e; omega)), hb9⟩
          · go_simp
            (try dsimp only)
            refine hK.out _ _ (by exact True.intro) (fun hHeld => ?_)
            clear hK K
            (try simp only [Act.put, List.setIfInBounds_toArray, List.set_cons_zero, List.set_cons_succ, List.getElem_toArray, List.getElem_cons_zero, List.getElem_cons_succ])
            first | (refine wpAnyH_take (i := 5) (v := ?_) rfl (by kernel_rfl) (by kernel_rfl) (by kernel_rfl) (fun _ _ _ h => h) (Or.inl ⟨by rfl, ?_⟩) (by assumption) ?_; rotate_left; (intro X hSw; (try dsimp only at hSw); go_simp; (try with_reducible rfl)); (try simp only [Act.put, List.setIfInBounds_toArray, List.set_cons_zero, List.set_cons_succ, List.getElem_toArray, List.getElem_cons_zero, List.getElem_cons_succ])) | fail "take 5"
            refine wpAnyH_ready (rs := [1]) (by kernel_rfl) (by simp) ?_
            refine AllReadyH.cons rfl (fun K hK => ?_) AllReadyH.nil
            go_simp
            (try dsimp only)
            refine hK.out _ _ (by exact True.intro) (fun hHeld => ?_)
            clear hK K
            (try simp only [Act.put, List.setIfInBounds_toArray, List.set_cons_zero, List.set_cons_succ, List.getElem_toArray, List.getElem_cons_zero, List.getElem_cons_succ])
            first | (refine wpAnyH_take (i := 2) (v := ?_) rfl (by kernel_rfl) (by kernel_rfl) (by kernel_rfl) (fun _ _ _ h => h) (Or.inl ⟨by rfl, ?_⟩) (by assumption) ?_; rotate_left; (intro X hSw; (try dsimp only at hSw); go_simp; (try with_reducible rfl)); (try simp only [Act.put, List.setIfInBounds_toArray, List.set_cons_zero, List.set_cons_succ, List.getElem_toArray, List.getElem_cons_zero, List.getElem_cons_succ])) | fail "take 2"
            first | (refine wpAnyH_take (i := 6) (v := ?_) rfl (by kernel_rfl) (by kernel_rfl) (by kernel_rfl) (fun _ _ _ h => h) (Or.inl ⟨by rfl, ?_⟩) (by assumption) ?_; rotate_left; (intro X hSw; (try dsimp only at hSw); go_simp; (try with_reducible rfl)); (try simp only [Act.put, List.setIfInBounds_toArray, List.set_cons_zero, List.set_cons_succ, List.getElem_toArray, List.getElem_cons_zero, List.getElem_cons_succ])) | fail "take 6"
            refine wpAnyH_ready (rs := [7]) (by kernel_rfl) (by simp) ?_
            refine AllReadyH.cons rfl (fun K hK => ?_) AllReadyH.nil
            have f0 := HS.out.free
            have HS2 := Lib.hid (HS.out.set0 (.slice (some ⟨g1, 1, none⟩) 0 (ic - 1)))
            have HR2 := Lib.hid (HR.out.other (show w.heap.size + 1 ≠ w.heap.size by omega) 0 (.slice (some ⟨g1, 1, none⟩) 0 (ic - 1)))
            have HB2 := Lib.hid (HB.out.setCell (p := ⟨w.heap.size, 0, none⟩) (Nat.le_refl _) (.slice (some ⟨g1, 1, none⟩) 0 (ic - 1)))
            go_simp
            (try dsimp only)
            refine hK.out _ _ (by exact True.intro) (fun hHeld => ?_)
            clear hK K
            (try simp only [Act.put, List.setIfInBounds_toArray, List.set_cons_zero, List.set_cons_succ, List.getElem_toArray, List.getElem_cons_zero, List.getElem_cons_succ])
            first | (refine wpAnyH_take (i := 8) (v := ?_) rfl (by kernel_rfl) (by kernel_rfl) (by kernel_rfl) (fun _ _ _ h => h) (Or.inl ⟨by rfl, ?_⟩) (by assumption) ?_; rotate_left; (intro X hSw; (try dsimp only at hSw); go_simp; (try with_reducible rfl)); (try simp only [Act.put, List.setIfInBounds_toArray, List.set_cons_zero, List.set_cons_succ, List.getElem_toArray, List.getElem_cons_zero, List.getElem_cons_succ])) | fail "take 8"
            refine wpAnyH_ready (rs := [9]) (by kernel_rfl) (by simp) ?_
            refine AllReadyH.cons rfl (fun K hK => ?_) AllReadyH.nil
            have f3 := HS2.out.free
            have HR2 := Lib.hid (HR2.out.other (show w.heap.size + 1 ≠ w.heap.size by omega) 1 (.slice (some ⟨g2, 0, none⟩) 0 0))
            have HB2 := Lib.hid (HB2.out.setCell (p := ⟨w.heap.size, 1, none⟩) (Nat.le_refl _) (.slice (some ⟨g2, 0, none⟩) 0 0))
            have HS2 := Lib.hid (HS2.out.set1 (.slice (some ⟨g2, 0, none⟩) 0 0))
            go_simp
            (try dsimp only)
            refine hK.out _ _ (by exact True.intro) (fun hHeld => ?_)
            clear hK K
            (try simp only [Act.put, List.setIfInBounds_toArray, List.set_cons_zero, List.set_cons_succ, List.getElem_toArray, List.getElem_cons_zero, List.getElem_cons_succ])
            refine wpAnyH_done (by kernel_rfl) ?_ _
            obtain ⟨X2, hX2⟩ : ∃ X2, X2 = (Wd.setCell ⟨w.heap.size, 0, none⟩ (.slice (some ⟨g1, 1, none⟩) 0 (ic - 1))).setCell ⟨w.heap.size, 1, none⟩ (.slice (some ⟨g2, 0, none⟩) 0 0) := ⟨_, rfl⟩
            have HS2 := Lib.hid (show Box5 X2 w.heap.size 26 (.slice (some ⟨g1, 1, none⟩) 0 (ic - 1)) (.slice (some ⟨g2, 0, none⟩) 0 0) (.int .i64 fi) (.int .i64 nx) (.int .i64 dr) from by rw [hX2]; exact HS2.out)
            have HR2 := Lib.hid (show Box5 X2 (w.heap.size + 1) 26 (.slice none 0 0) (.slice none 0 0) (.int .i64 0) (.int .i64 0) (.int .i64 0) from by rw [hX2]; exact HR2.out)
            have HB2 := Lib.hid (show Below w.heap.size w X2 from by rw [hX2]; exact HB2.out)
            rw [← hX2]
            clear hX2 q0 q1 q2 q3 q4 f0 f3 hHeld
            obtain ⟨q0, q1, q2, q3, q4⟩ := HS2.out.cells
            have f2 := HS2.out.free
            obtain ⟨e0, e1, e2, e3, e4⟩ := HR2.out.cells
            have gf := HR2.out.free
            have hsl := HR2.out.lt
            have hne1 : w.heap.size + 1 ≠ w.heap.size := by omega
            have hne2 : w.heap.size ≠ w.heap.size + 1 := by omega
            go_wp2_with fail
            refine bodyPost_ret (by simp [results, Try.results69, go_sem, *]; try rfl) rfl ?_
            have hb9 := f6_below5 (c := w.heap.size + 1) (HB2.out.setCell (p := ⟨w.heap.size, 2, none⟩) (Nat.le_refl _) (.int .i64 (fi + 1))) (by omega) (.slice (some ⟨g1, 1, none⟩) 0 (ic - 1)) (.slice (some ⟨g2, 0, none⟩) 0 0) (.int .i64 (fi + 1)) (.int .i64 nx) (.int .i64 dr)
            rw [← HPOP.out]
            have l1 : I.tail.length = 0 := by have := HIL.out; simp; omega
            have l2 : P.tail.length = 0 := by have := HPL.out; simp; omega
            have t1 : OwnS w b1 w.heap.size (.slice (some ⟨g1, 1, none⟩) 0 (ic - 1)) 0 I.tail := by
              have h := HI.out
              obtain rfl : n = 1 := by omega
              have h2 := OwnS.tail (n := 0) h
              rw [Addr.add_lit] at h2
              exact h2
            have t2 : OwnS w b1 w.heap.size (.slice (some ⟨g2, 0, none⟩) 0 0) 0 P.tail := by
              have h := HP.out
              obtain rfl : n = 1 := by omega
              exact h.tail1
            exact ⟨_, rfl, tp_fin l1 l2 hb9 t1 t2 (.inr (fun e => by simp [Value.ownBlock] at e; omega)), hb9⟩
        · have hd2 : (1 : Int) < (pc : Int) := by omega
          have he2 : ¬ (1 : Int) = (pc : Int) := by omega
          obtain ⟨q0, q1, q2, q3, q4⟩ := HS.out.cells
          go_wp2_with fail
          refine wp_region_held_drew (S := (fun _ => True)) (by kernel_rfl) True.intro (fun hHeld => ?_)
          clear q0 q1 q2 q3 q4
          obtain ⟨Wd, hWd⟩ : ∃ Wd, Wd = W1.drew := ⟨_, rfl⟩
          have HS := Lib.hid (show Box5 Wd w.heap.size 26 (.slice (some ⟨g1, 0, none⟩) n ic) (.slice (some ⟨g2, 0, none⟩) n pc) (.int .i64 fi) (.int .i64 nx) (.int .i64 dr) from by rw [hWd]; exact HS.out)
          have HR := Lib.hid (show Box5 Wd (w.heap.size + 1) 26 (.slice none 0 0) (.slice none 0 0) (.int .i64 0) (.int .i64 0) (.int .i64 0) from by rw [hWd]; exact HR.out)
          have HB := Lib.hid (show Below w.heap.size w Wd from by rw [hWd]; exact HB.out.drew)
          rw [← hWd]
          clear hWd
          obtain ⟨q0, q1, q2, q3, q4⟩ := HS.out.cells
          first | (refine wpAnyH_take (i := 0) (v := ?_) rfl (by kernel_rfl) (by kernel_rfl) (by kernel_rfl) (fun _ _ _ h => h) (Or.inl ⟨by rfl, ?_⟩) (by assumption) ?_; rotate_left; (intro X hSw; (try dsimp only at hSw); go_simp; (try with_reducible rfl)); (try simp only [Act.put, List.setIfInBounds_toArray, List.set_cons_zero, List.set_cons_succ, List.getElem_toArray, List.getElem_cons_zero, List.getElem_cons_succ])) | fail "take 0"
          first | (refine wpAnyH_take (i := 3) (v := ?_) rfl (by kernel_rfl) (by kernel_rfl) (by kernel_rfl) (fun _ _ _ h => h) (Or.inl ⟨by rfl, ?_⟩) (by assumption) ?_; rotate_left; (intro X hSw; (try dsimp only at hSw); go_simp; (try with_reducible rfl)); (try simp only [Act.put, List.setIfInBounds_toArray, List.set_cons_zero, List.set_cons_succ, List.getElem_toArray, List.getElem_cons_zero, List.getElem_cons_succ])) | fail "take 3"
          refine wpAnyH_ready (rs := [1, 4]) (by kernel_rfl) (by simp) ?_
          refine AllReadyH.cons rfl (fun K hK => ?_) (AllReadyH.cons rfl (fun K hK => ?_) AllReadyH.nil)
          · go_simp
            (try dsimp only)
            refine hK.out _ _ (by exact True.intro) (fun hHeld => ?_)
            clear hK K
            (try simp only [Act.put, List.setIfInBounds_toArray, List.set_cons_zero, List.set_cons_succ, List.getElem_toArray, List.getElem_cons_zero, List.getElem_cons_succ])
            first | (refine wpAnyH_take (i := 2) (v := ?_) rfl (by kernel_rfl) (by kernel_rfl) (by kernel_rfl) (fun _ _ _ h => h) (Or.inl ⟨by rfl, ?_⟩) (by assumption) ?_; rotate_left; (intro X hSw; (try dsimp only at hSw); go_simp; (try with_reducible rfl)); (try simp only [Act.put, List.setIfInBounds_toArray, List.set_cons_zero, List.set_cons_succ, List.getElem_toArray, List.getElem_cons_zero, List.getElem_cons_succ])) | fail "take 2"
            refine wpAnyH_ready (rs := [4]) (by kernel_rfl) (by simp) ?_
            refine AllReadyH.cons rfl (fun K hK => ?_) AllReadyH.nil
            go_simp
            (try dsimp only)
            refine hK.out _ _ (by exact True.intro) (fun hHeld => ?_)
            clear hK K
            (try simp only [Act.put, List.setIfInBounds_toArray, List.set_cons_zero, List.set_cons_succ, List.getElem_toArray, List.getElem_cons_zero, List.getElem_cons_succ])
            first | (refine wpAnyH_take (i := 5) (v := ?_) rfl (by kernel_rfl) (by kernel_rfl) (by kernel_rfl) (fun _ _ _ h => h) (Or.inl ⟨by rfl, ?_⟩) (by assumption) ?_; rotate_left; (intro X hSw; (try dsimp only at hSw); go_simp; (try with_reducible rfl)); (try simp only [Act.put, List.setIfInBounds_toArray, List.set_cons_zero, List.set_cons_succ, List.getElem_toArray, List.getElem_cons_zero, List.getElem_cons_succ])) | fail "take 5"
            first | (refine wpAnyH_take (i := 6) (v := ?_) rfl (by kernel_rfl) (by kernel_rfl) (by kernel_rfl) (fun _ _ _ h => h) (Or.inl ⟨by rfl, ?_⟩) (by assumption) ?_; rotate_left; (intro X hSw; (try dsimp only at hSw); go_simp; (try with_reducible rfl)); (try simp only [Act.put, List.setIfInBounds_toArray, List.set_cons_zero, List.set_cons_succ, List.getElem_toArray, List.getElem_cons_zero, List.getElem_cons_succ])) | fail "take 6"
            refine wpAnyH_ready (rs := [7]) (by kernel_rfl) (by simp) ?_
            refine AllReadyH.cons rfl (fun K hK => ?_) AllReadyH.nil
            have f0 := HS.out.free
            have HS2 := Lib.hid (HS.out.set0 (.slice (some ⟨g1, 1, none⟩) (n - 1) (ic - 1)))
            have HR2 := Lib.hid (HR.out.other (show w.heap.size + 1 ≠ w.heap.size by omega) 0 (.slice (some ⟨g1, 1, none⟩) (n - 1) (ic - 1)))
            have HB2 := Lib.hid (HB.out.setCell (p := ⟨w.heap.size, 0, none⟩) (Nat.le_refl _) (.slice (some ⟨g1, 1, none⟩) (n - 1) (ic - 1)))
            go_simp
            (try dsimp only)
            refine hK.out _ _ (by exact True.intro) (fun hHeld => ?_)
            clear hK K
            (try simp only [Act.put, List.setIfInBounds_toArray, List.set_cons_zero, List.set_cons_succ, List.getElem_toArray, List.getElem_cons_zero, List.getElem_cons_succ])
            first | (refine wpAnyH_take (i := 8) (v := ?_) rfl (by kernel_rfl) (by kernel_rfl) (by kernel_rfl) (fun _ _ _ h => h) (Or.inl ⟨by rfl, ?_⟩) (by assumption) ?_; rotate_left; (intro X hSw; (try dsimp only at hSw); go_simp; (try with_reducible rfl)); (try simp only [Act.put, List.setIfInBounds_toArray, List.set_cons_zero, List.set_cons_succ, List.getElem_toArray, List.getElem_cons_zero, List.getElem_cons_succ])) | fail "take 8"
            refine wpAnyH_ready (rs := [9]) (by kernel_rfl) (by simp) ?_
            refine AllReadyH.cons rfl (fun K hK => ?_) AllReadyH.nil
            have f3 := HS2.out.free
            have HR2 := Lib.hid (HR2.out.other (show w.heap.size + 1 ≠ w.heap.size by omega) 1 (.slice (some ⟨g2, 1, none⟩) (n - 1) (pc - 1)))
            have HB2 := Lib.hid (HB2.out.setCell (p := ⟨w.heap.size, 1, none⟩) (Nat.le_refl _) (.slice (some ⟨g2, 1, none⟩) (n - 1) (pc - 1)))
            have HS2 := Lib.hid (HS2.out.set1 (.slice (some ⟨g2, 1, none⟩) (n - 1) (pc - 1)))
            go_simp
            (try dsimp only)
            refine hK.out _ _ (by exact True.intro) (fun hHeld => ?_)
            clear hK K
            (try simp only [Act.put, List.setIfInBounds_toArray, List.set_cons_zero, List.set_cons_succ, List.getElem_toArray, List.getElem_cons_zero, List.getElem_cons_succ])
            refine wpAnyH_done (by kernel_rfl) ?_ _
            obtain ⟨X2, hX2⟩ : ∃ X2, X2 = (Wd.setCell ⟨w.heap.size, 0, none⟩ (.slice (some ⟨g1, 1, none⟩) (n - 1) (ic - 1))).setCell ⟨w.heap.size, 1, none⟩ (.slice (some ⟨g2, 1, none⟩) (n - 1) (pc - 1)) := ⟨_, rfl⟩
            have HS2 := Lib.hid (show Box5 X2 w.heap.size 26 (.slice (some ⟨g1, 1, none⟩) (n - 1) (ic - 1)) (.slice (some ⟨g2, 1, none⟩) (n - 1) (pc - 1)) (.int .i64 fi) (.int .i64 nx) (.int .i64 dr) from by rw [hX2]; exact HS2.out)
            have HR2 := Lib.hid (show Box5 X2 (w.heap.size + 1) 26 (.slice none 0 0) (.slice none 0 0) (.int .i64 0) (.int .i64 0) (.int .i64 0) from by rw [hX2]; exact HR2.out)
            have HB2 := Lib.hid (show Below w.heap.size w X2 from by rw [hX2]; exact HB2.out)
            rw [← hX2]
            clear hX2 q0 q1 q2 q3 q4 f0 f3 hHeld
            obtain ⟨q0, q1, q2, q3, q4⟩ := HS2.out.cells
            have f2 := HS2.out.free
            obtain ⟨e0, e1, e2, e3, e4⟩ := HR2.out.cells
            have gf := HR2.out.free
            have hsl := HR2.out.lt
            have hne1 : w.heap.size + 1 ≠ w.heap.size := by omega
            have hne2 : w.heap.size ≠ w.heap.size + 1 := by omega
            go_wp2_with fail
            refine bodyPost_ret (by simp [results, Try.results69, go_sem, *]; try rfl) rfl ?_
            have hb9 := f6_below5 (c := w.heap.size + 1) (HB2.out.setCell (p := ⟨w.heap.size, 2, none⟩) (Nat.le_refl _) (.int .i64 (fi + 1))) (by omega) (.slice (some ⟨g1, 1, none⟩) (n - 1) (ic - 1)) (.slice (some ⟨g2, 1, none⟩) (n - 1) (pc - 1)) (.int .i64 (fi + 1)) (.int .i64 nx) (.int .i64 dr)
            rw [← HPOP.out]
            have l1 : I.tail.length = n - 1 := by have := HIL.out; simp; omega
            have l2 : P.tail.length = n - 1 := by have := HPL.out; simp; omega
            have t1 : OwnS w b1 w.heap.size (.slice (some ⟨g1, 1, none⟩) (n - 1) (ic - 1)) (n - 1) I.tail := by
              have h := HI.out
              obtain ⟨m, rfl⟩ : ∃ m, n = m + 1 := ⟨n - 1, by omega⟩
              have h2 := h.tail
              rw [Addr.add_lit] at h2
              exact h2
            have t2 : OwnS w b1 w.heap.size (.slice (some ⟨g2, 1, none⟩) (n - 1) (pc - 1)) (n - 1) P.tail := by
              have h := HP.out
              obtain ⟨m, rfl⟩ : ∃ m, n = m + 1 := ⟨n - 1, by omega⟩
              have h2 := h.tail
              rw [Addr.add_lit] at h2
              exact h2
            exact ⟨_, rfl, tp_fin l1 l2 hb9 t1 t2 (.inr (fun e => by simp [Value.ownBlock] at e; omega)), hb9⟩
          · go_simp
            (try dsimp only)
            refine hK.out _ _ (by exact True.intro) (fun hHeld => ?_)
            clear hK K
            (try simp only [Act.put, List.setIfInBounds_toArray, List.set_cons_zero, List.set_cons_succ, List.getElem_toArray, List.getElem_cons_zero, List.getElem_cons_succ])
            first | (refine wpAnyH_take (i := 5) (v := ?_) rfl (by kernel_rfl) (by kernel_rfl) (by kernel_rfl) (fun _ _ _ h => h) (Or.inl ⟨by rfl, ?_⟩) (by assumption) ?_; rotate_left; (intro X hSw; (try dsimp only at hSw); go_simp; (try with_reducible rfl)); (try simp only [Act.put, List.setIfInBounds_toArray, List.set_cons_zero, List.set_cons_succ, List.getElem_toArray, List.getElem_cons_zero, List.getElem_cons_succ])) | fail "take 5"
            refine wpAnyH_ready (rs := [1]) (by kernel_rfl) (by simp) ?_
            refine AllReadyH.cons rfl (fun K hK => ?_) AllReadyH.nil
            go_simp
            (try dsimp only)
            refine hK.out _ _ (by exact True.intro) (fun hHeld => ?_)
            clear hK K
            (try simp only [Act.put, List.setIfInBounds_toArray, List.set_cons_zero, List.set_cons_succ, List.getElem_toArray, List.getElem_cons_zero, List.getElem_cons_succ])
            first | (refine wpAnyH_take (i := 2) (v := ?_) rfl (by kernel_rfl) (by kernel_rfl) (by kernel_rfl) (fun _ _ _ h => h) (Or.inl ⟨by rfl, ?_⟩) (by assumption) ?_; rotate_left; (intro X hSw; (try dsimp only at hSw); go_simp; (try with_reducible rfl)); (try simp only [Act.put, List.setIfInBounds_toArray, List.set_cons_zero, List.set_cons_succ, List.getElem_toArray, List.getElem_cons_zero, List.getElem_cons_succ])) | fail "take 2"
            first | (refine wpAnyH_take (i := 6) (v := ?_) rfl (by kernel_rfl) (by kernel_rfl) (by kernel_rfl) (fun _ _ _ h => h) (Or.inl ⟨by rfl, ?_⟩) (by assumption) ?_; rotate_left; (intro X hSw; (try dsimp only at hSw); go_simp; (try with_reducible rfl)); (try simp only [Act.put, List.setIfInBounds_toArray, List.set_cons_zero, List.set_cons_succ, List.getElem_toArray, List.getElem_cons_zero, List.getElem_cons_succ])) | fail "take 6"
            refine wpAnyH_ready (rs := [7]) (by kernel_rfl) (by simp) ?_
            refine AllReadyH.cons rfl (fun K hK => ?_) AllReadyH.nil
            have f0 := HS.out.free
            have HS2 := Lib.hid (HS.out.set0 (.slice (some ⟨g1, 1, none⟩) (n - 1) (ic - 1)))
            have HR2 := Lib.hid (HR.out.other (show w.heap.size + 1 ≠ w.heap.size by omega) 0 (.slice (some ⟨g1, 1, none⟩) (n - 1) (ic - 1)))
            have HB2 := Lib.hid (HB.out.setCell (p := ⟨w.heap.size, 0, none⟩) (Nat.le_refl _) (.slice (some ⟨g1, 1, none⟩) (n - 1) (ic - 1)))
            go_simp
            (try dsimp only)
            refine hK.out _ _ (by exact True.intro) (fun hHeld => ?_)
            clear hK K
            (try simp only [Act.put, List.setIfInBounds_toArray, List.set_cons_zero, List.set_cons_succ, List.getElem_toArray, List.getElem_cons_zero, List.getElem_cons_succ])
            first | (refine wpAnyH_take (i := 8) (v := ?_) rfl (by kernel_rfl) (by kernel_rfl) (by kernel_rfl) (fun _ _ _ h => h) (Or.inl ⟨by rfl, ?_⟩) (by assumption) ?_; rotate_left; (intro X hSw; (try dsimp only at hSw); go_simp; (try with_reducible rfl)); (try simp only [Act.put, List.setIfInBounds_toArray, List.set_cons_zero, List.set_cons_succ, List.getElem_toArray, List.getElem_cons_zero, List.getElem_cons_succ])) | fail "take 8"
            refine wpAnyH_ready (rs := [9]) (by kernel_rfl) (by simp) ?_
            refine AllReadyH.cons rfl (fun K hK => ?_) AllReadyH.nil
            have f3 := HS2.out.free
            have HR2 := Lib.hid (HR2.out.other (show w.heap.size + 1 ≠ w.heap.size by omega) 1 (.slice (some ⟨g2, 1, none⟩) (n - 1) (pc - 1)))
            have HB2 := Lib.hid (HB2.out.setCell (p := ⟨w.heap.size, 1, none⟩) (Nat.le_refl _) (.slice (some ⟨g2, 1, none⟩) (n - 1) (pc - 1)))
            have HS2 := Lib.hid (HS2.out.set1 (.slice (some ⟨g2, 1, none⟩) (n - 1) (pc - 1)))
            go_simp
            (try dsimp only)
            refine hK.out _ _ (by exact True.intro) (fun hHeld => ?_)
            clear hK K
            (try simp only [Act.put, List.setIfInBounds_toArray, List.set_cons_zero, List.set_cons_succ, List.getElem_toArray, List.getElem_cons_zero, List.getElem_cons_succ])
            refine wpAnyH_done (by kernel_rfl) ?_ _
            obtain ⟨X2, hX2⟩ : ∃ X2, X2 = (Wd.setCell ⟨w.heap.size, 0, none⟩ (.slice (some ⟨g1, 1, none⟩) (n - 1) (ic - 1))).setCell ⟨w.heap.size, 1, none⟩ (.slice (some ⟨g2, 1, none⟩) (n - 1) (pc - 1)) := ⟨_, rfl⟩
            have HS2 := Lib.hid (show Box5 X2 w.heap.size 26 (.slice (some ⟨g1, 1, none⟩) (n - 1) (ic - 1)) (.slice (some ⟨g2, 1, none⟩) (n - 1) (pc - 1)) (.int .i64 fi) (.int .i64 nx) (.int .i64 dr) from by rw [hX2]; exact HS2.out)
            have HR2 := Lib.hid (show Box5 X2 (w.heap.size + 1) 26 (.slice none 0 0) (.slice none 0 0) (.int .i64 0) (.int .i64 0) (.int .i64 0) from by rw [hX2]; exact HR2.out)
            have HB2 := Lib.hid (show Below w.heap.size w X2 from by rw [hX2]; exact HB2.out)
            rw [← hX2]
            clear hX2 q0 q1 q2 q3 q4 f0 f3 hHeld
            obtain ⟨q0, q1, q2, q3, q4⟩ := HS2.out.cells
            have f2 := HS2.out.free
            obtain ⟨e0, e1, e2, e3, e4⟩ := HR2.out.cells
            have gf := HR2.out.free
            have hsl := HR2.out.lt
            have hne1 : w.heap.size + 1 ≠ w.heap.size := by omega
            have hne2 : w.heap.size ≠ w.heap.size + 1 := by omega
            go_wp2_with fail
            refine bodyPost_ret (by simp [results, Try.results69, go_sem, *]; try rfl) rfl ?_
            have hb9 := f6_below5 (c := w.heap.size + 1) (HB2.out.setCell (p := ⟨w.heap.size, 2, none⟩) (Nat.le_refl _) (.int .i64 (fi + 1))) (by omega) (.slice (some ⟨g1, 1, none⟩) (n - 1) (ic - 1)) (.slice (some ⟨g2, 1, none⟩) (n - 1) (pc - 1)) (.int .i64 (fi + 1)) (.int .i64 nx) (.int .i64 dr)
            rw [← HPOP.out]
            have l1 : I.tail.length = n - 1 := by have := HIL.out; simp; omega
            have l2 : P.tail.length = n - 1 := by have := HPL.out; simp; omega
            have t1 : OwnS w b1 w.heap.size (.slice (some ⟨g1, 1, none⟩) (n - 1) (ic - 1)) (n - 1) I.tail := by
              have h := HI.out
              obtain ⟨m, rfl⟩ : ∃ m, n = m + 1 := ⟨n - 1, by omega⟩
              have h2 := h.tail
              rw [Addr.add_lit] at h2
              exact h2
            have t2 : OwnS w b1 w.heap.size (.slice (some ⟨g2, 1, none⟩) (n - 1) (pc - 1)) (n - 1) P.tail := by
              have h := HP.out
              obtain ⟨m, rfl⟩ : ∃ m, n = m + 1 := ⟨n - 1, by omega⟩
              have h2 := h.tail
              rw [Addr.add_lit] at h2
              exact h2
            exact ⟨_, rfl, tp_fin l1 l2 hb9 t1 t2 (.inr (fun e => by simp [Value.ownBlock] at e; omega)), hb9⟩
    · have hpp := HPOP.out
      rw [if_neg hyf] at hpp
      have HPOP := Lib.hid hpp
      clear hpp
      have HS2 := HS
      have HR2 := HR
      have HB2 := HB
      obtain ⟨q0, q1, q2, q3, q4⟩ := HS2.out.cells
      have f2 := HS2.out.free
      obtain ⟨e0, e1, e2, e3, e4⟩ := HR2.out.cells
      have gf := HR2.out.free
      have hsl := HR2.out.lt
      have hne1 : w.heap.size + 1 ≠ w.heap.size := by omega
      have hne2 : w.heap.size ≠ w.heap.size + 1 := by omega
      go_wp2_with fail
      refine bodyPost_ret (by simp [results, Try.results69, go_sem, *]; try rfl) rfl ?_
      have hb9 := f6_below5 (c := w.heap.size + 1) (HB2.out.setCell (p := ⟨w.heap.size, 2, none⟩) (Nat.le_refl _) (.int .i64 (fi + 1))) (by omega) (.slice (some ⟨g1, 0, none⟩) n ic) (.slice (some ⟨g2, 0, none⟩) n pc) (.int .i64 (fi + 1)) (.int .i64 nx) (.int .i64 dr)
      rw [← HPOP.out]
      exact ⟨_, rfl, tp_fin HIL.out HPL.out hb9 HI.out HP.out (.inr (fun e => by simp [Value.ownBlock] at e; omega)), hb9⟩
end Go.Proofs.Ytolgclajlklmaaa
