import Derived.Test.YtolgclajlklmaaaGreatDt
namespace Go.Proofs.YtolgclajlklmaaaGreat
set_option linter.unusedSimpArgs false
set_option linter.unusedVariables false
open Go.RowKit
theorem OwnS.tail1 {w : World} {lo hi : Nat} {a : Addr} {l : List Int} (h : OwnS w lo hi (.slice (some a) 1 1) 1 l) : OwnS w lo hi (.slice (some a) 0 0) 0 l.tail := by
  obtain ⟨h1, h2, h3, h4⟩ := h
  refine ⟨by simp [h1], h2, h3, ?_⟩
  rcases h4 with ⟨h4, -⟩ | ⟨g, off, cap', e, k1, k2, k3, k4, cur, hg, hn, hc⟩
  · cases h4
  · simp only [Value.slice.injEq, Option.some.injEq, true_and] at e
    obtain ⟨rfl, rfl⟩ := e
    exact .inr ⟨g, off, 0, rfl, k1, k2, Nat.le_refl _, by simp [maxLen], cur, hg, by omega, fun i hi => by omega⟩
theorem own_some {w : World} {base n c : Nat} {a : Option Addr} {xs : List Value} {e size : Nat} (h : w.ownsRow base e size (.slice a n c) n xs) (hn : 0 < n) : ∃ g, a = some ⟨g, 0, none⟩ ∧ base ≤ g ∧ g < w.heap.size ∧ n ≤ c ∧ c ≤ 9223372036854775807 := by
  rcases h.2 with ⟨e, h0⟩ | ⟨g, cap, cur, e, hb, hg, h1, h2, -⟩
  · omega
  · simp only [Value.slice.injEq, true_and] at e
    obtain ⟨rfl, rfl⟩ := e
    exact ⟨g, rfl, hb, (Array.getElem?_eq_some_iff.1 hg).1, h1, by unfold maxLen at h2; omega⟩
theorem tp_fin {w Z : World} {b1 n1 n2 : Nat} {v1 v2 : Value} {I P : List Int} {f x d : Int} (l1 : I.length = n1) (l2 : P.length = n2) (hb : Below w.heap.size w Z) (h1 : OwnS w b1 w.heap.size v1 n1 I) (h2 : OwnS w b1 w.heap.size v2 n2 P) (hd : v1.ownBlock = none ∨ v1.ownBlock ≠ v2.ownBlock) :
    DqOwn Z b1 Z.heap.size (.agg #[v1, v2, .int .i64 f, .int .i64 x, .int .i64 d]) ⟨I, P, f, x, d⟩ := by
  subst l1
  subst l2
  exact ⟨_, _, rfl, (h1.below hb).wide (Nat.le_refl _) hb.size (Nat.le_refl _), (h2.below hb).wide (Nat.le_refl _) hb.size (Nat.le_refl _), hd⟩
set_option maxRecDepth 8000 in
set_option maxHeartbeats 4000000 in
theorem takePlace_any (b1 b2 n : Nat) (ia : Option Addr) (ic : Nat) (pa : Option Addr) (pc : Nat) (fi nx dr : Int) (I P : List Int) (w : World)
    (hI : w.ownsRow b1 3 1 (.slice ia n ic) n (I.map (Value.int .i64))) (hP : w.ownsRow b2 3 1 (.slice pa n pc) n (P.map (Value.int .i64))) (hlt : ∀ g, (Value.slice ia n ic).ownBlock = some g → g < b2) (hb : b1 ≤ b2) (hb2 : b2 ≤ w.heap.size)
    (hn0 : 0 < n) (hn : n ≤ 60) (hf0 : 0 ≤ fi) (hf1 : fi ≤ 1000000) :
    Calls Tryz.prog 70 #[.agg #[.slice ia n ic, .slice pa n pc, .int .i64 fi, .int .i64 nx, .int .i64 dr]] w fun e w' => ∃ v, e = .returned v ∧ DqOwn w' b1 w'.heap.size v (Agg.popD ⟨I, P, fi, nx, dr⟩) ∧ Below w.heap.size w w' := by
  have HIL := Lib.hid (show I.length = n by have := hI.1; simpa using this)
  have HPL := Lib.hid (show P.length = n by have := hP.1; simpa using this)
  have hNP := nums_own hP hb2
  obtain ⟨g1, rfl, hg1, hg1', hic, hicm⟩ := own_some hI hn0
  obtain ⟨g2, rfl, hg2, hg2', hpc, hpcm⟩ := own_some hP hn0
  have hlt1 : g1 < b2 := hlt g1 rfl
  rcases hNP.2.2.2 with h0 | ⟨pb, poff, epb, hpb, hpcs⟩
  · omega
  · simp only [Option.some.injEq, Addr.mk.injEq, and_true] at epb
    obtain ⟨rfl, rfl⟩ := epb
    have hy := hpcs 0 hn0
    clear hpcs hNP
    obtain ⟨y, hyy⟩ : ∃ y, y = P[0]?.getD 0 := ⟨_, rfl⟩
    rw [← hyy, Nat.add_zero] at hy
    have HI := Lib.hid (own_s hI (by omega))
    have HP := Lib.hid (own_s (owns_lower hP hb) (by omega))
    obtain ⟨W, hW⟩ : ∃ W, W = (w.alloc (.cells #[.slice (some ⟨g1, 0, none⟩) n ic, .slice (some ⟨g2, 0, none⟩) n pc, .int .i64 fi, .int .i64 nx, .int .i64 dr] 28)).alloc (.cells #[.slice none 0 0, .slice none 0 0, .int .i64 0, .int .i64 0, .int .i64 0] 28) := ⟨_, rfl⟩
    have HS := Lib.hid (show Box5 W w.heap.size 28 (.slice (some ⟨g1, 0, none⟩) n ic) (.slice (some ⟨g2, 0, none⟩) n pc) (.int .i64 fi) (.int .i64 nx) (.int .i64 dr) from by rw [hW]; exact (Box5.new w _ _ _ _ _ _).alloc _)
    have HR := Lib.hid (show Box5 W (w.heap.size + 1) 28 (.slice none 0 0) (.slice none 0 0) (.int .i64 0) (.int .i64 0) (.int .i64 0) from by rw [hW]; exact Box5.new1 _ _ _ _ _ _ (by simp))
    have HB := Lib.hid (show Below w.heap.size w W from by rw [hW]; exact ((Below.refl _ _).alloc (Nat.le_refl _) _).alloc (by simp) _)
    have hyW := (HB.out.cell (p := ⟨g2, 0, none⟩) hg2').trans hy
    have hpop : (if y = fi then (⟨I.tail, P.tail, fi + 1, nx, dr⟩ : Agg.Dq) else ⟨I, P, fi + 1, nx, dr⟩) = Agg.popD ⟨I, P, fi, nx, dr⟩ := by rw [hyy]; rfl
    have HPOP := Lib.hid hpop
    clear hI hP hlt hyy hy hpop
    have h0n : (0 : Int) < (n : Int) := by omega
    have h1n : (1 : Int) ≤ (n : Int) := by omega
    have hnc1 : (n : Int) ≤ (ic : Int) := by omega
    have hnc2 : (n : Int) ≤ (pc : Int) := by omega
    have hww : IntKind.i64.wrap (fi + 1) = fi + 1 := IntWalk.i64_in _ ⟨by omega, by omega⟩
    go_enter Tryz.func70, Tryz.ntmps70
    go_upto_region 1 with (fail)
    rw [← hW]
    clear hW
    obtain ⟨q0, q1, q2, q3, q4⟩ := HS.out.cells
    refine wp_region_held_drew (S := (fun X => X.cell? ⟨w.heap.size, 1, none⟩ = some (.slice (some ⟨g2, 0, none⟩) n pc) ∧ X.cell? ⟨g2, 0, none⟩ = some (.int .i64 y) ∧ X.cell? ⟨w.heap.size, 2, none⟩ = some (.int .i64 fi))) (by kernel_rfl) (by refine ⟨?_, ?_, ?_⟩ <;> assumption) (fun hHeld => ?_)
    refine zqt 0 ?_ ?_ (by assumption) ?_; rotate_left; (intro X hSw; (try dsimp only at hSw); go_simp; (try with_reducible rfl)); (try simp only [Act.put, zq1, zq2, zq3, zq4, zq5, zq6])
    refine zqt 1 ?_ ?_ (by assumption) ?_; rotate_left; (intro X hSw; (try dsimp only at hSw); go_simp; (try with_reducible rfl)); (try simp only [Act.put, zq1, zq2, zq3, zq4, zq5, zq6])
    refine zqt 2 ?_ ?_ (by assumption) ?_; rotate_left; (intro X hSw; (try dsimp only at hSw); go_simp; (try with_reducible rfl)); (try simp only [Act.put, zq1, zq2, zq3, zq4, zq5, zq6])
    refine zqt 3 ?_ ?_ (by assumption) ?_; rotate_left; (intro X hSw; (try dsimp only at hSw); go_simp; (try with_reducible rfl)); (try simp only [Act.put, zq1, zq2, zq3, zq4, zq5, zq6])
    refine zqt 4 ?_ ?_ (by assumption) ?_; rotate_left; (intro X hSw; (try dsimp only at hSw); go_simp; (try with_reducible rfl)); (try simp only [Act.put, zq1, zq2, zq3, zq4, zq5, zq6])
    refine zqt 5 ?_ ?_ (by assumption) ?_; rotate_left; (intro X hSw; (try dsimp only at hSw); go_simp; (try with_reducible rfl)); (try simp only [Act.put, zq1, zq2, zq3, zq4, zq5, zq6])
    refine zqt 6 ?_ ?_ (by assumption) ?_; rotate_left; (intro X hSw; (try dsimp only at hSw); go_simp; (try with_reducible rfl)); (try simp only [Act.put, zq1, zq2, zq3, zq4, zq5, zq6])
    refine wpAnyH_done (by kernel_rfl) ?_ _
    obtain ⟨W1, hW1⟩ : ∃ W1, W1 = W.drew := ⟨_, rfl⟩
    have HS := Lib.hid (show Box5 W1 w.heap.size 28 (.slice (some ⟨g1, 0, none⟩) n ic) (.slice (some ⟨g2, 0, none⟩) n pc) (.int .i64 fi) (.int .i64 nx) (.int .i64 dr) from by rw [hW1]; exact HS.out)
    have HR := Lib.hid (show Box5 W1 (w.heap.size + 1) 28 (.slice none 0 0) (.slice none 0 0) (.int .i64 0) (.int .i64 0) (.int .i64 0) from by rw [hW1]; exact HR.out)
    have HB := Lib.hid (show Below w.heap.size w W1 from by rw [hW1]; exact HB.out.drew)
    rw [← hW1]
    clear hW1 q0 q1 q2 q3 q4 hyW hHeld
    by_cases hyf : y = fi
    · have hpp := HPOP.out
      rw [if_pos hyf] at hpp
      have HPOP := Lib.hid hpp
      clear hpp
      by_cases hc1 : ic = 1
      · subst hc1
        by_cases hc2 : pc = 1
        · subst hc2
          obtain ⟨q0, q1, q2, q3, q4⟩ := HS.out.cells
          go_wp2_with fail
          refine wp_region_held_drew (S := (fun _ => True)) (by kernel_rfl) True.intro (fun hHeld => ?_)
          clear q0 q1 q2 q3 q4
          obtain ⟨Wd, hWd⟩ : ∃ Wd, Wd = W1.drew := ⟨_, rfl⟩
          have HS := Lib.hid (show Box5 Wd w.heap.size 28 (.slice (some ⟨g1, 0, none⟩) n 1) (.slice (some ⟨g2, 0, none⟩) n 1) (.int .i64 fi) (.int .i64 nx) (.int .i64 dr) from by rw [hWd]; exact HS.out)
          have HR := Lib.hid (show Box5 Wd (w.heap.size + 1) 28 (.slice none 0 0) (.slice none 0 0) (.int .i64 0) (.int .i64 0) (.int .i64 0) from by rw [hWd]; exact HR.out)
          have HB := Lib.hid (show Below w.heap.size w Wd from by rw [hWd]; exact HB.out.drew)
          rw [← hWd]
          clear hWd
          obtain ⟨q0, q1, q2, q3, q4⟩ := HS.out.cells
          refine zqt 0 ?_ ?_ (by assumption) ?_; rotate_left; (intro X hSw; (try dsimp only at hSw); go_simp; (try with_reducible rfl)); (try simp only [Act.put, zq1, zq2, zq3, zq4, zq5, zq6])
          refine zqt 3 ?_ ?_ (by assumption) ?_; rotate_left; (intro X hSw; (try dsimp only at hSw); go_simp; (try with_reducible rfl)); (try simp only [Act.put, zq1, zq2, zq3, zq4, zq5, zq6])
          refine wpAnyH_ready (rs := [1, 4]) (by kernel_rfl) (by simp) ?_
          refine AllReadyH.cons rfl (fun K hK => ?_) (AllReadyH.cons rfl (fun K hK => ?_) AllReadyH.nil)
          · go_simp
            (try dsimp only)
            refine hK.out _ _ (by exact True.intro) (fun hHeld => ?_)
            clear hK K
            (try simp only [Act.put, zq1, zq2, zq3, zq4, zq5, zq6])
            refine zqt 2 ?_ ?_ (by assumption) ?_; rotate_left; (intro X hSw; (try dsimp only at hSw); go_simp; (try with_reducible rfl)); (try simp only [Act.put, zq1, zq2, zq3, zq4, zq5, zq6])
            refine wpAnyH_ready (rs := [4]) (by kernel_rfl) (by simp) ?_
            refine AllReadyH.cons rfl (fun K hK => ?_) AllReadyH.nil
            go_simp
            (try dsimp only)
            refine hK.out _ _ (by exact True.intro) (fun hHeld => ?_)
            clear hK K
            (try simp only [Act.put, zq1, zq2, zq3, zq4, zq5, zq6])
            refine zqt 5 ?_ ?_ (by assumption) ?_; rotate_left; (intro X hSw; (try dsimp only at hSw); go_simp; (try with_reducible rfl)); (try simp only [Act.put, zq1, zq2, zq3, zq4, zq5, zq6])
            refine zqt 6 ?_ ?_ (by assumption) ?_; rotate_left; (intro X hSw; (try dsimp only at hSw); go_simp; (try with_reducible rfl)); (try simp only [Act.put, zq1, zq2, zq3, zq4, zq5, zq6])
            refine wpAnyH_ready (rs := [7]) (by kernel_rfl) (by simp) ?_
            refine AllReadyH.cons rfl (fun K hK => ?_) AllReadyH.nil
            have f0 := HS.out.free
            have HS2 := Lib.hid (HS.out.set0 (.slice (some ⟨g1, 0, none⟩) 0 0))
            have HR2 := Lib.hid (HR.out.other (show w.heap.size + 1 ≠ w.heap.size by omega) 0 (.slice (some ⟨g1, 0, none⟩) 0 0))
            have HB2 := Lib.hid (HB.out.setCell (p := ⟨w.heap.size, 0, none⟩) (Nat.le_refl _) (.slice (some ⟨g1, 0, none⟩) 0 0))
            go_simp
            (try dsimp only)
            refine hK.out _ _ (by exact True.intro) (fun hHeld => ?_)
            clear hK K
            (try simp only [Act.put, zq1, zq2, zq3, zq4, zq5, zq6])
            refine zqt 8 ?_ ?_ (by assumption) ?_; rotate_left; (intro X hSw; (try dsimp only at hSw); go_simp; (try with_reducible rfl)); (try simp only [Act.put, zq1, zq2, zq3, zq4, zq5, zq6])
            refine wpAnyH_ready (rs := [9]) (by kernel_rfl) (by simp) ?_
            refine AllReadyH.cons rfl (fun K hK => ?_) AllReadyH.nil
            have f3 := HS2.out.free
            have HR2 := Lib.hid (HR2.out.other (show w.heap.size + 1 ≠ w.heap.size by omega) 1 (.slice (some ⟨g2, 0, none⟩) 0 0))
            have HB2 := Lib.hid (HB2.out.setCell (p := ⟨w.heap.size, 1, none⟩) (Nat.le_refl _) (.slice (some ⟨g2, 0, none⟩) 0 0))
            have HS2 := Lib.hid (HS2.out.set1 (.slice (some ⟨g2, 0, none⟩) 0 0))
            go_simp
            (try dsimp only)
            refine hK.out _ _ (by exact True.intro) (fun hHeld => ?_)
            clear hK K
            (try simp only [Act.put, zq1, zq2, zq3, zq4, zq5, zq6])
            refine wpAnyH_done (by kernel_rfl) ?_ _
            obtain ⟨X2, hX2⟩ : ∃ X2, X2 = (Wd.setCell ⟨w.heap.size, 0, none⟩ (.slice (some ⟨g1, 0, none⟩) 0 0)).setCell ⟨w.heap.size, 1, none⟩ (.slice (some ⟨g2, 0, none⟩) 0 0) := ⟨_, rfl⟩
            have HS2 := Lib.hid (show Box5 X2 w.heap.size 28 (.slice (some ⟨g1, 0, none⟩) 0 0) (.slice (some ⟨g2, 0, none⟩) 0 0) (.int .i64 fi) (.int .i64 nx) (.int .i64 dr) from by rw [hX2]; exact HS2.out)
            have HR2 := Lib.hid (show Box5 X2 (w.heap.size + 1) 28 (.slice none 0 0) (.slice none 0 0) (.int .i64 0) (.int .i64 0) (.int .i64 0) from by rw [hX2]; exact HR2.out)
            have HB2 := Lib.hid (show Below w.heap.size w X2 from by rw [hX2]; exact HB2.out)
            rw [← hX2]
            clear hX2 q0 q1 q2 q3 q4 f0 f3 hHeld
            obtain ⟨q0, q1, q2, q3, q4⟩ := HS2.out.cells
            have f2 := HS2.out.free
            obtain ⟨e0, e1, e2, e3, e4⟩ := HR2.out.cells
            have gf := HR2.out.free
            have hsl := HR2.out.lt
            have hne1 : w.heap.size + 1 ≠ w.heap.size := by omega
            have hne2 : w.heap.size ≠ w.heap.size + 1 := by omega
            go_wp2_with fail
            refine bodyPost_ret (by simp [results, Tryz.results70, go_sem, *]; try rfl) rfl ?_
            have hb9 := f6_below5 (c := w.heap.size + 1) (HB2.out.setCell (p := ⟨w.heap.size, 2, none⟩) (Nat.le_refl _) (.int .i64 (fi + 1))) (by omega) (.slice (some ⟨g1, 0, none⟩) 0 0) (.slice (some ⟨g2, 0, none⟩) 0 0) (.int .i64 (fi + 1)) (.int .i64 nx) (.int .i64 dr)
            rw [← HPOP.out]
            have l1 : I.tail.length = 0 := by have := HIL.out; simp; omega
            have l2 : P.tail.length = 0 := by have := HPL.out; simp; omega
            have t1 : OwnS w b1 w.heap.size (.slice (some ⟨g1, 0, none⟩) 0 0) 0 I.tail := by
              have h := HI.out
              obtain rfl : n = 1 := by omega
              exact h.tail1
            have t2 : OwnS w b1 w.heap.size (.slice (some ⟨g2, 0, none⟩) 0 0) 0 P.tail := by
              have h := HP.out
              obtain rfl : n = 1 := by omega
              exact h.tail1
            exact ⟨_, rfl, tp_fin l1 l2 hb9 t1 t2 (.inr (fun e => by simp [Value.ownBlock] at e; omega)), hb9⟩
          · go_simp
            (try dsimp only)
            refine hK.out _ _ (by exact True.intro) (fun hHeld => ?_)
            clear hK K
            (try simp only [Act.put, zq1, zq2, zq3, zq4, zq5, zq6])
            refine zqt 5 ?_ ?_ (by assumption) ?_; rotate_left; (intro X hSw; (try dsimp only at hSw); go_simp; (try with_reducible rfl)); (try simp only [Act.put, zq1, zq2, zq3, zq4, zq5, zq6])
            refine wpAnyH_ready (rs := [1]) (by kernel_rfl) (by simp) ?_
            refine AllReadyH.cons rfl (fun K hK => ?_) AllReadyH.nil
            go_simp
            (try dsimp only)
            refine hK.out _ _ (by exact True.intro) (fun hHeld => ?_)
            clear hK K
            (try simp only [Act.put, zq1, zq2, zq3, zq4, zq5, zq6])
            refine zqt 2 ?_ ?_ (by assumption) ?_; rotate_left; (intro X hSw; (try dsimp only at hSw); go_simp; (try with_reducible rfl)); (try simp only [Act.put, zq1, zq2, zq3, zq4, zq5, zq6])
            refine zqt 6 ?_ ?_ (by assumption) ?_; rotate_left; (intro X hSw; (try dsimp only at hSw); go_simp; (try with_reducible rfl)); (try simp only [Act.put, zq1, zq2, zq3, zq4, zq5, zq6])
            refine wpAnyH_ready (rs := [7]) (by kernel_rfl) (by simp) ?_
            refine AllReadyH.cons rfl (fun K hK => ?_) AllReadyH.nil
            have f0 := HS.out.free
            have HS2 := Lib.hid (HS.out.set0 (.slice (some ⟨g1, 0, none⟩) 0 0))
            have HR2 := Lib.hid (HR.out.other (show w.heap.size + 1 ≠ w.heap.size by omega) 0 (.slice (some ⟨g1, 0, none⟩) 0 0))
            have HB2 := Lib.hid (HB.out.setCell (p := ⟨w.heap.size, 0, none⟩) (Nat.le_refl _) (.slice (some ⟨g1, 0, none⟩) 0 0))
            go_simp
            (try dsimp only)
            refine hK.out _ _ (by exact True.intro) (fun hHeld => ?_)
            clear hK K
            (try simp only [Act.put, zq1, zq2, zq3, zq4, zq5, zq6])
            refine zqt 8 ?_ ?_ (by assumption) ?_; rotate_left; (intro X hSw; (try dsimp only at hSw); go_simp; (try with_reducible rfl)); (try simp only [Act.put, zq1, zq2, zq3, zq4, zq5, zq6])
            refine wpAnyH_ready (rs := [9]) (by kernel_rfl) (by simp) ?_
            refine AllReadyH.cons rfl (fun K hK => ?_) AllReadyH.nil
            have f3 := HS2.out.free
            have HR2 := Lib.hid (HR2.out.other (show w.heap.size + 1 ≠ w.heap.size by omega) 1 (.slice (some ⟨g2, 0, none⟩) 0 0))
            have HB2 := Lib.hid (HB2.out.setCell (p := ⟨w.heap.size, 1, none⟩) (Nat.le_refl _) (.slice (some ⟨g2, 0, none⟩) 0 0))
            have HS2 := Lib.hid (HS2.out.set1 (.slice (some ⟨g2, 0, none⟩) 0 0))
            go_simp
            (try dsimp only)
            refine hK.out _ _ (by exact True.intro) (fun hHeld => ?_)
            clear hK K
            (try simp only [Act.put, zq1, zq2, zq3, zq4, zq5, zq6])
            refine wpAnyH_done (by kernel_rfl) ?_ _
            obtain ⟨X2, hX2⟩ : ∃ X2, X2 = (Wd.setCell ⟨w.heap.size, 0, none⟩ (.slice (some ⟨g1, 0, none⟩) 0 0)).setCell ⟨w.heap.size, 1, none⟩ (.slice (some ⟨g2, 0, none⟩) 0 0) := ⟨_, rfl⟩
            have HS2 := Lib.hid (show Box5 X2 w.heap.size 28 (.slice (some ⟨g1, 0, none⟩) 0 0) (.slice (some ⟨g2, 0, none⟩) 0 0) (.int .i64 fi) (.int .i64 nx) (.int .i64 dr) from by rw [hX2]; exact HS2.out)
            have HR2 := Lib.hid (show Box5 X2 (w.heap.size + 1) 28 (.slice none 0 0) (.slice none 0 0) (.int .i64 0) (.int .i64 0) (.int .i64 0) from by rw [hX2]; exact HR2.out)
            have HB2 := Lib.hid (show Below w.heap.size w X2 from by rw [hX2]; exact HB2.out)
            rw [← hX2]
            clear hX2 q0 q1 q2 q3 q4 f0 f3 hHeld
            obtain ⟨q0, q1, q2, q3, q4⟩ := HS2.out.cells
            have f2 := HS2.out.free
            obtain ⟨e0, e1, e2, e3, e4⟩ := HR2.out.cells
            have gf := HR2.out.free
            have hsl := HR2.out.lt
            have hne1 : w.heap.size + 1 ≠ w.heap.size := by omega
            have hne2 : w.heap.size ≠ w.heap.size + 1 := by omega
            go_wp2_with fail
            refine bodyPost_ret (by simp [results, Tryz.results70, go_sem, *]; try rfl) rfl ?_
            have hb9 := f6_below5 (c := w.heap.size + 1) (HB2.out.setCell (p := ⟨w.heap.size, 2, none⟩) (Nat.le_refl _) (.int .i64 (fi + 1))) (by omega) (.slice (some ⟨g1, 0, none⟩) 0 0) (.slice (some ⟨g2, 0, none⟩) 0 0) (.int .i64 (fi + 1)) (.int .i64 nx) (.int .i64 dr)
            rw [← HPOP.out]
            have l1 : I.tail.length = 0 := by have := HIL.out; simp; omega
            have l2 : P.tail.length = 0 := by have := HPL.out; simp; omega
            have t1 : OwnS w b1 w.heap.size (.slice (some ⟨g1, 0, none⟩) 0 0) 0 I.tail := by
              have h := HI.out
              obtain rfl : n = 1 := by omega
              exact h.tail1
            have t2 : OwnS w b1 w.heap.size (.slice (some ⟨g2, 0, none⟩) 0 0) 0 P.tail := by
              have h := HP.out
              obtain rfl : n = 1 := by omega
              exact h.tail1
            exact ⟨_, rfl, tp_fin l1 l2 hb9 t1 t2 (.inr (fun e => by simp [Value.ownBlock] at e; omega)), hb9⟩
        · have hd2 : (1 : Int) < (pc : Int) := by omega
          have he2 : ¬ (1 : Int) = (pc : Int) := by omega
          obtain ⟨q0, q1, q2, q3, q4⟩ := HS.out.cells
          go_wp2_with fail
          refine wp_region_held_drew (S := (fun _ => True)) (by kernel_rfl) True.intro (fun hHeld => ?_)
          clear q0 q1 q2 q3 q4
          obtain ⟨Wd, hWd⟩ : ∃ Wd, Wd = W1.drew := ⟨_, rfl⟩
          have HS := Lib.hid (show Box5 Wd w.heap.size 28 (.slice (some ⟨g1, 0, none⟩) n 1) (.slice (some ⟨g2, 0, none⟩) n pc) (.int .i64 fi) (.int .i64 nx) (.int .i64 dr) from by rw [hWd]; exact HS.out)
          have HR := Lib.hid (show Box5 Wd (w.heap.size + 1) 28 (.slice none 0 0) (.slice none 0 0) (.int .i64 0) (.int .i64 0) (.int .i64 0) from by rw [hWd]; exact HR.out)
          have HB := Lib.hid (show Below w.heap.size w Wd from by rw [hWd]; exact HB.out.drew)
          rw [← hWd]
          clear hWd
          obtain ⟨q0, q1, q2, q3, q4⟩ := HS.out.cells
          refine zqt 0 ?_ ?_ (by assumption) ?_; rotate_left; (intro X hSw; (try dsimp only at hSw); go_simp; (try with_reducible rfl)); (try simp only [Act.put, zq1, zq2, zq3, zq4, zq5, zq6])
          refine zqt 3 ?_ ?_ (by assumption) ?_; rotate_left; (intro X hSw; (try dsimp only at hSw); go_simp; (try with_reducible rfl)); (try simp only [Act.put, zq1, zq2, zq3, zq4, zq5, zq6])
          refine wpAnyH_ready (rs := [1, 4]) (by kernel_rfl) (by simp) ?_
          refine AllReadyH.cons rfl (fun K hK => ?_) (AllReadyH.cons rfl (fun K hK => ?_) AllReadyH.nil)
          · go_simp
            (try dsimp only)
            refine hK.out _ _ (by exact True.intro) (fun hHeld => ?_)
            clear hK K
            (try simp only [Act.put, zq1, zq2, zq3, zq4, zq5, zq6])
            refine zqt 2 ?_ ?_ (by assumption) ?_; rotate_left; (intro X hSw; (try dsimp only at hSw); go_simp; (try with_reducible rfl)); (try simp only [Act.put, zq1, zq2, zq3, zq4, zq5, zq6])
            refine wpAnyH_ready (rs := [4]) (by kernel_rfl) (by simp) ?_
            refine AllReadyH.cons rfl (fun K hK => ?_) AllReadyH.nil
            go_simp
            (try dsimp only)
            refine hK.out _ _ (by exact True.intro) (fun hHeld => ?_)
            clear hK K
            (try simp only [Act.put, zq1, zq2, zq3, zq4, zq5, zq6])
            refine zqt 5 ?_ ?_ (by assumption) ?_; rotate_left; (intro X hSw; (try dsimp only at hSw); go_simp; (try with_reducible rfl)); (try simp only [Act.put, zq1, zq2, zq3, zq4, zq5, zq6])
            refine zqt 6 ?_ ?_ (by assumption) ?_; rotate_left; (intro X hSw; (try dsimp only at hSw); go_simp; (try with_reducible rfl)); (try simp only [Act.put, zq1, zq2, zq3, zq4, zq5, zq6])
            refine wpAnyH_ready (rs := [7]) (by kernel_rfl) (by simp) ?_
            refine AllReadyH.cons rfl (fun K hK => ?_) AllReadyH.nil
            have f0 := HS.out.free
            have HS2 := Lib.hid (HS.out.set0 (.slice (some ⟨g1, 0, none⟩) 0 0))
            have HR2 := Lib.hid (HR.out.other (show w.heap.size + 1 ≠ w.heap.size by omega) 0 (.slice (some ⟨g1, 0, none⟩) 0 0))
            have HB2 := Lib.hid (HB.out.setCell (p := ⟨w.heap.size, 0, none⟩) (Nat.le_refl _) (.slice (some ⟨g1, 0, none⟩) 0 0))
            go_simp
            (try dsimp only)
            refine hK.out _ _ (by exact True.intro) (fun hHeld => ?_)
            clear hK K
            (try simp only [Act.put, zq1, zq2, zq3, zq4, zq5, zq6])
            refine zqt 8 ?_ ?_ (by assumption) ?_; rotate_left; (intro X hSw; (try dsimp only at hSw); go_simp; (try with_reducible rfl)); (try simp only [Act.put, zq1, zq2, zq3, zq4, zq5, zq6])
            refine wpAnyH_ready (rs := [9]) (by kernel_rfl) (by simp) ?_
            refine AllReadyH.cons rfl (fun K hK => ?_) AllReadyH.nil
            have f3 := HS2.out.free
            have HR2 := Lib.hid (HR2.out.other (show w.heap.size + 1 ≠ w.heap.size by omega) 1 (.slice (some ⟨g2, 1, none⟩) 0 (pc - 1)))
            have HB2 := Lib.hid (HB2.out.setCell (p := ⟨w.heap.size, 1, none⟩) (Nat.le_refl _) (.slice (some ⟨g2, 1, none⟩) 0 (pc - 1)))
            have HS2 := Lib.hid (HS2.out.set1 (.slice (some ⟨g2, 1, none⟩) 0 (pc - 1)))
            go_simp
            (try dsimp only)
            refine hK.out _ _ (by exact True.intro) (fun hHeld => ?_)
            clear hK K
            (try simp only [Act.put, zq1, zq2, zq3, zq4, zq5, zq6])
            refine wpAnyH_done (by kernel_rfl) ?_ _
            obtain ⟨X2, hX2⟩ : ∃ X2, X2 = (Wd.setCell ⟨w.heap.size, 0, none⟩ (.slice (some ⟨g1, 0, none⟩) 0 0)).setCell ⟨w.heap.size, 1, none⟩ (.slice (some ⟨g2, 1, none⟩) 0 (pc - 1)) := ⟨_, rfl⟩
            have HS2 := Lib.hid (show Box5 X2 w.heap.size 28 (.slice (some ⟨g1, 0, none⟩) 0 0) (.slice (some ⟨g2, 1, none⟩) 0 (pc - 1)) (.int .i64 fi) (.int .i64 nx) (.int .i64 dr) from by rw [hX2]; exact HS2.out)
            have HR2 := Lib.hid (show Box5 X2 (w.heap.size + 1) 28 (.slice none 0 0) (.slice none 0 0) (.int .i64 0) (.int .i64 0) (.int .i64 0) from by rw [hX2]; exact HR2.out)
            have HB2 := Lib.hid (show Below w.heap.size w X2 from by rw [hX2]; exact HB2.out)
            rw [← hX2]
            clear hX2 q0 q1 q2 q3 q4 f0 f3 hHeld
            obtain ⟨q0, q1, q2, q3, q4⟩ := HS2.out.cells
            have f2 := HS2.out.free
            obtain ⟨e0, e1, e2, e3, e4⟩ := HR2.out.cells
            have gf := HR2.out.free
            have hsl := HR2.out.lt
            have hne1 : w.heap.size + 1 ≠ w.heap.size := by omega
            have hne2 : w.heap.size ≠ w.heap.size + 1 := by omega
            go_wp2_with fail
            refine bodyPost_ret (by simp [results, Tryz.results70, go_sem, *]; try rfl) rfl ?_
            have hb9 := f6_below5 (c := w.heap.size + 1) (HB2.out.setCell (p := ⟨w.heap.size, 2, none⟩) (Nat.le_refl _) (.int .i64 (fi + 1))) (by omega) (.slice (some ⟨g1, 0, none⟩) 0 0) (.slice (some ⟨g2, 1, none⟩) 0 (pc - 1)) (.int .i64 (fi + 1)) (.int .i64 nx) (.int .i64 dr)
            rw [← HPOP.out]
            have l1 : I.tail.length = 0 := by have := HIL.out; simp; omega
            have l2 : P.tail.length = 0 := by have := HPL.out; simp; omega
            have t1 : OwnS w b1 w.heap.size (.slice (some ⟨g1, 0, none⟩) 0 0) 0 I.tail := by
              have h := HI.out
              obtain rfl : n = 1 := by omega
              exact h.tail1
            have t2 : OwnS w b1 w.heap.size (.slice (some ⟨g2, 1, none⟩) 0 (pc - 1)) 0 P.tail := by
              have h := HP.out
              obtain rfl : n = 1 := by omega
              have h2 := OwnS.tail (n := 0) h
              rw [Addr.add_lit] at h2
              exact h2
            exact ⟨_, rfl, tp_fin l1 l2 hb9 t1 t2 (.inr (fun e => by simp [Value.ownBlock] at e; omega)), hb9⟩
          · go_simp
            (try dsimp only)
            refine hK.out _ _ (by exact True.intro) (fun hHeld => ?_)
            clear hK K
            (try simp only [Act.put, zq1, zq2, zq3, zq4, zq5, zq6])
            refine zqt 5 ?_ ?_ (by assumption) ?_; rotate_left; (intro X hSw; (try dsimp only at hSw); go_simp; (try with_reducible rfl)); (try simp only [Act.put, zq1, zq2, zq3, zq4, zq5, zq6])
            refine wpAnyH_ready (rs := [1]) (by kernel_rfl) (by simp) ?_
            refine AllReadyH.cons rfl (fun K hK => ?_) AllReadyH.nil
            go_simp
            (try dsimp only)
            refine hK.out _ _ (by exact True.intro) (fun hHeld => ?_)
            clear hK K
            (try simp only [Act.put, zq1, zq2, zq3, zq4, zq5, zq6])
            refine zqt 2 ?_ ?_ (by assumption) ?_; rotate_left; (intro X hSw; (try dsimp only at hSw); go_simp; (try with_reducible rfl)); (try simp only [Act.put, zq1, zq2, zq3, zq4, zq5, zq6])
            refine zqt 6 ?_ ?_ (by assumption) ?_; rotate_left; (intro X hSw; (try dsimp only at hSw); go_simp; (try with_reducible rfl)); (try simp only [Act.put, zq1, zq2, zq3, zq4, zq5, zq6])
            refine wpAnyH_ready (rs := [7]) (by kernel_rfl) (by simp) ?_
            refine AllReadyH.cons rfl (fun K hK => ?_) AllReadyH.nil
            have f0 := HS.out.free
            have HS2 := Lib.hid (HS.out.set0 (.slice (some ⟨g1, 0, none⟩) 0 0))
            have HR2 := Lib.hid (HR.out.other (show w.heap.size + 1 ≠ w.heap.size by omega) 0 (.slice (some ⟨g1, 0, none⟩) 0 0))
            have HB2 := Lib.hid (HB.out.setCell (p := ⟨w.heap.size, 0, none⟩) (Nat.le_refl _) (.slice (some ⟨g1, 0, none⟩) 0 0))
            go_simp
            (try dsimp only)
            refine hK.out _ _ (by exact True.intro) (fun hHeld => ?_)
            clear hK K
            (try simp only [Act.put, zq1, zq2, zq3, zq4, zq5, zq6])
            refine zqt 8 ?_ ?_ (by assumption) ?_; rotate_left; (intro X hSw; (try dsimp only at hSw); go_simp; (try with_reducible rfl)); (try simp only [Act.put, zq1, zq2, zq3, zq4, zq5, zq6])
            refine wpAnyH_ready (rs := [9]) (by kernel_rfl) (by simp) ?_
            refine AllReadyH.cons rfl (fun K hK => ?_) AllReadyH.nil
            have f3 := HS2.out.free
            have HR2 := Lib.hid (HR2.out.other (show w.heap.size + 1 ≠ w.heap.size by omega) 1 (.slice (some ⟨g2, 1, none⟩) 0 (pc - 1)))
            have HB2 := Lib.hid (HB2.out.setCell (p := ⟨w.heap.size, 1, none⟩) (Nat.le_refl _) (.slice (some ⟨g2, 1, none⟩) 0 (pc - 1)))
            have HS2 := Lib.hid (HS2.out.set1 (.slice (some ⟨g2, 1, none⟩) 0 (pc - 1)))
            go_simp
            (try dsimp only)
            refine hK.out _ _ (by exact True.intro) (fun hHeld => ?_)
            clear hK K
            (try simp only [Act.put, zq1, zq2, zq3, zq4, zq5, zq6])
            refine wpAnyH_done (by kernel_rfl) ?_ _
            obtain ⟨X2, hX2⟩ : ∃ X2, X2 = (Wd.setCell ⟨w.heap.size, 0, none⟩ (.slice (some ⟨g1, 0, none⟩) 0 0)).setCell ⟨w.heap.size, 1, none⟩ (.slice (some ⟨g2, 1, none⟩) 0 (pc - 1)) := ⟨_, rfl⟩
            have HS2 := Lib.hid (show Box5 X2 w.heap.size 28 (.slice (some ⟨g1, 0, none⟩) 0 0) (.slice (some ⟨g2, 1, none⟩) 0 (pc - 1)) (.int .i64 fi) (.int .i64 nx) (.int .i64 dr) from by rw [hX2]; exact HS2.out)
            have HR2 := Lib.hid (show Box5 X2 (w.heap.size + 1) 28 (.slice none 0 0) (.slice none 0 0) (.int .i64 0) (.int .i64 0) (.int .i64 0) from by rw [hX2]; exact HR2.out)
            have HB2 := Lib.hid (show Below w.heap.size w X2 from by rw [hX2]; exact HB2.out)
            rw [← hX2]
            clear hX2 q0 q1 q2 q3 q4 f0 f3 hHeld
            obtain ⟨q0, q1, q2, q3, q4⟩ := HS2.out.cells
            have f2 := HS2.out.free
            obtain ⟨e0, e1, e2, e3, e4⟩ := HR2.out.cells
            have gf := HR2.out.free
            have hsl := HR2.out.lt
            have hne1 : w.heap.size + 1 ≠ w.heap.size := by omega
            have hne2 : w.heap.size ≠ w.heap.size + 1 := by omega
            go_wp2_with fail
            refine bodyPost_ret (by simp [results, Tryz.results70, go_sem, *]; try rfl) rfl ?_
            have hb9 := f6_below5 (c := w.heap.size + 1) (HB2.out.setCell (p := ⟨w.heap.size, 2, none⟩) (Nat.le_refl _) (.int .i64 (fi + 1))) (by omega) (.slice (some ⟨g1, 0, none⟩) 0 0) (.slice (some ⟨g2, 1, none⟩) 0 (pc - 1)) (.int .i64 (fi + 1)) (.int .i64 nx) (.int .i64 dr)
            rw [← HPOP.out]
            have l1 : I.tail.length = 0 := by have := HIL.out; simp; omega
            have l2 : P.tail.length = 0 := by have := HPL.out; simp; omega
            have t1 : OwnS w b1 w.heap.size (.slice (some ⟨g1, 0, none⟩) 0 0) 0 I.tail := by
              have h := HI.out
              obtain rfl : n = 1 := by omega
              exact h.tail1
            have t2 : OwnS w b1 w.heap.size (.slice (some ⟨g2, 1, none⟩) 0 (pc - 1)) 0 P.tail := by
              have h := HP.out
              obtain rfl : n = 1 := by omega
              have h2 := OwnS.tail (n := 0) h
              rw [Addr.add_lit] at h2
              exact h2
            exact ⟨_, rfl, tp_fin l1 l2 hb9 t1 t2 (.inr (fun e => by simp [Value.ownBlock] at e; omega)), hb9⟩
      · have hd1 : (1 : Int) < (ic : Int) := by omega
        have he1 : ¬ (1 : Int) = (ic : Int) := by omega
        by_cases hc2 : pc = 1
        · subst hc2
          obtain ⟨q0, q1, q2, q3, q4⟩ := HS.out.cells
          go_wp2_with fail
          refine wp_region_held_drew (S := (fun _ => True)) (by kernel_rfl) True.intro (fun hHeld => ?_)
          clear q0 q1 q2 q3 q4
          obtain ⟨Wd, hWd⟩ : ∃ Wd, Wd = W1.drew := ⟨_, rfl⟩
          have HS := Lib.hid (show Box5 Wd w.heap.size 28 (.slice (some ⟨g1, 0, none⟩) n ic) (.slice (some ⟨g2, 0, none⟩) n 1) (.int .i64 fi) (.int .i64 nx) (.int .i64 dr) from by rw [hWd]; exact HS.out)
          have HR := Lib.hid (show Box5 Wd (w.heap.size + 1) 28 (.slice none 0 0) (.slice none 0 0) (.int .i64 0) (.int .i64 0) (.int .i64 0) from by rw [hWd]; exact HR.out)
          have HB := Lib.hid (show Below w.heap.size w Wd from by rw [hWd]; exact HB.out.drew)
          rw [← hWd]
          clear hWd
          obtain ⟨q0, q1, q2, q3, q4⟩ := HS.out.cells
          refine zqt 0 ?_ ?_ (by assumption) ?_; rotate_left; (intro X hSw; (try dsimp only at hSw); go_simp; (try with_reducible rfl)); (try simp only [Act.put, zq1, zq2, zq3, zq4, zq5, zq6])
          refine zqt 3 ?_ ?_ (by assumption) ?_; rotate_left; (intro X hSw; (try dsimp only at hSw); go_simp; (try with_reducible rfl)); (try simp only [Act.put, zq1, zq2, zq3, zq4, zq5, zq6])
          refine wpAnyH_ready (rs := [1, 4]) (by kernel_rfl) (by simp) ?_
          refine AllReadyH.cons rfl (fun K hK => ?_) (AllReadyH.cons rfl (fun K hK => ?_) AllReadyH.nil)
          · go_simp
            (try dsimp only)
            refine hK.out _ _ (by exact True.intro) (fun hHeld => ?_)
            clear hK K
            (try simp only [Act.put, zq1, zq2, zq3, zq4, zq5, zq6])
            refine zqt 2 ?_ ?_ (by assumption) ?_; rotate_left; (intro X hSw; (try dsimp only at hSw); go_simp; (try with_reducible rfl)); (try simp only [Act.put, zq1, zq2, zq3, zq4, zq5, zq6])
            refine wpAnyH_ready (rs := [4]) (by kernel_rfl) (by simp) ?_
            refine AllReadyH.cons rfl (fun K hK => ?_) AllReadyH.nil
            go_simp
            (try dsimp only)
            refine hK.out _ _ (by exact True.intro) (fun hHeld => ?_)
            clear hK K
            (try simp only [Act.put, zq1, zq2, zq3, zq4, zq5, zq6])
            refine zqt 5 ?_ ?_ (by assumption) ?_; rotate_left; (intro X hSw; (try dsimp only at hSw); go_simp; (try with_reducible rfl)); (try simp only [Act.put, zq1, zq2, zq3, zq4, zq5, zq6])
            refine zqt 6 ?_ ?_ (by assumption) ?_; rotate_left; (intro X hSw; (try dsimp only at hSw); go_simp; (try with_reducible rfl)); (try simp only [Act.put, zq1, zq2, zq3, zq4, zq5, zq6])
            refine wpAnyH_ready (rs := [7]) (by kernel_rfl) (by simp) ?_
            refine AllReadyH.cons rfl (fun K hK => ?_) AllReadyH.nil
            have f0 := HS.out.free
            have HS2 := Lib.hid (HS.out.set0 (.slice (some ⟨g1, 1, none⟩) 0 (ic - 1)))
            have HR2 := Lib.hid (HR.out.other (show w.heap.size + 1 ≠ w.heap.size by omega) 0 (.slice (some ⟨g1, 1, none⟩) 0 (ic - 1)))
            have HB2 := Lib.hid (HB.out.setCell (p := ⟨w.heap.size, 0, none⟩) (Nat.le_refl _) (.slice (some ⟨g1, 1, none⟩) 0 (ic - 1)))
            go_simp
            (try dsimp only)
            refine hK.out _ _ (by exact True.intro) (fun hHeld => ?_)
            clear hK K
            (try simp only [Act.put, zq1, zq2, zq3, zq4, zq5, zq6])
            refine zqt 8 ?_ ?_ (by assumption) ?_; rotate_left; (intro X hSw; (try dsimp only at hSw); go_simp; (try with_reducible rfl)); (try simp only [Act.put, zq1, zq2, zq3, zq4, zq5, zq6])
            refine wpAnyH_ready (rs := [9]) (by kernel_rfl) (by simp) ?_
            refine AllReadyH.cons rfl (fun K hK => ?_) AllReadyH.nil
            have f3 := HS2.out.free
            have HR2 := Lib.hid (HR2.out.other (show w.heap.size + 1 ≠ w.heap.size by omega) 1 (.slice (some ⟨g2, 0, none⟩) 0 0))
            have HB2 := Lib.hid (HB2.out.setCell (p := ⟨w.heap.size, 1, none⟩) (Nat.le_refl _) (.slice (some ⟨g2, 0, none⟩) 0 0))
            have HS2 := Lib.hid (HS2.out.set1 (.slice (some ⟨g2, 0, none⟩) 0 0))
            go_simp
            (try dsimp only)
            refine hK.out _ _ (by exact True.intro) (fun hHeld => ?_)
            clear hK K
            (try simp only [Act.put, zq1, zq2, zq3, zq4, zq5, zq6])
            refine wpAnyH_done (by kernel_rfl) ?_ _
            obtain ⟨X2, hX2⟩ : ∃ X2, X2 = (Wd.setCell ⟨w.heap.size, 0, none⟩ (.slice (some ⟨g1, 1, none⟩) 0 (ic - 1))).setCell ⟨w.heap.size, 1, none⟩ (.slice (some ⟨g2, 0, none⟩) 0 0) := ⟨_, rfl⟩
            have HS2 := Lib.hid (show Box5 X2 w.heap.size 28 (.slice (some ⟨g1, 1, none⟩) 0 (ic - 1)) (.slice (some ⟨g2, 0, none⟩) 0 0) (.int .i64 fi) (.int .i64 nx) (.int .i64 dr) from by rw [hX2]; exact HS2.out)
            have HR2 := Lib.hid (show Box5 X2 (w.heap.size + 1) 28 (.slice none 0 0) (.slice none 0 0) (.int .i64 0) (.int .i64 0) (.int .i64 0) from by rw [hX2]; exact HR2.out)
            have HB2 := Lib.hid (show Below w.heap.size w X2 from by rw [hX2]; exact HB2.out)
            rw [← hX2]
            clear hX2 q0 q1 q2 q3 q4 f0 f3 hHeld
            obtain ⟨q0, q1, q2, q3, q4⟩ := HS2.out.cells
            have f2 := HS2.out.free
            obtain ⟨e0, e1, e2, e3, e4⟩ := HR2.out.cells
            have gf := HR2.out.free
            have hsl := HR2.out.lt
            have hne1 : w.heap.size + 1 ≠ w.heap.size := by omega
            have hne2 : w.heap.size ≠ w.heap.size + 1 := by omega
            go_wp2_with fail
            refine bodyPost_ret (by simp [results, Tryz.results70, go_sem, *]; try rfl) rfl ?_
            have hb9 := f6_below5 (c := w.heap.size + 1) (HB2.out.setCell (p := ⟨w.heap.size, 2, none⟩) (Nat.le_refl _) (.int .i64 (fi + 1))) (by omega) (.slice (some ⟨g1, 1, none⟩) 0 (ic - 1)) (.slice (some ⟨g2, 0, none⟩) 0 0) (.int .i64 (fi + 1)) (.int .i64 nx) (.int .i64 dr)
            rw [← HPOP.out]
            have l1 : I.tail.length = 0 := by have := HIL.out; simp; omega
            have l2 : P.tail.length = 0 := by have := HPL.out; simp; omega
            have t1 : OwnS w b1 w.heap.size (.slice (some ⟨g1, 1, none⟩) 0 (ic - 1)) 0 I.tail := by
              have h := HI.out
              obtain rfl : n = 1 := by omega
              have h2 := OwnS.tail (n := 0) h
              rw [Addr.add_lit] at h2
              exact h2
            have t2 : OwnS w b1 w.heap.size (.slice (some ⟨g2, 0, none⟩) 0 0) 0 P.tail := by
              have h := HP.out
              obtain rfl : n = 1 := by omega
              exact h.tail1
            exact ⟨_, rfl, tp_fin l1 l2 hb9 t1 t2 (.inr (fun e => by simp [Value.ownBlock] at e; omega)), hb9⟩
          · go_simp
            (try dsimp only)
            refine hK.out _ _ (by exact True.intro) (fun hHeld => ?_)
            clear hK K
            (try simp only [Act.put, zq1, zq2, zq3, zq4, zq5, zq6])
            refine zqt 5 ?_ ?_ (by assumption) ?_; rotate_left; (intro X hSw; (try dsimp only at hSw); go_simp; (try with_reducible rfl)); (try simp only [Act.put, zq1, zq2, zq3, zq4, zq5, zq6])
            refine wpAnyH_ready (rs := [1]) (by kernel_rfl) (by simp) ?_
            refine AllReadyH.cons rfl (fun K hK => ?_) AllReadyH.nil
            go_simp
            (try dsimp only)
            refine hK.out _ _ (by exact True.intro) (fun hHeld => ?_)
            clear hK K
            (try simp only [Act.put, zq1, zq2, zq3, zq4, zq5, zq6])
            refine zqt 2 ?_ ?_ (by assumption) ?_; rotate_left; (intro X hSw; (try dsimp only at hSw); go_simp; (try with_reducible rfl)); (try simp only [Act.put, zq1, zq2, zq3, zq4, zq5, zq6])
            refine zqt 6 ?_ ?_ (by assumption) ?_; rotate_left; (intro X hSw; (try dsimp only at hSw); go_simp; (try with_reducible rfl)); (try simp only [Act.put, zq1, zq2, zq3, zq4, zq5, zq6])
            refine wpAnyH_ready (rs := [7]) (by kernel_rfl) (by simp) ?_
            refine AllReadyH.cons rfl (fun K hK => ?_) AllReadyH.nil
            have f0 := HS.out.free
            have HS2 := Lib.hid (HS.out.set0 (.slice (some ⟨g1, 1, none⟩) 0 (ic - 1)))
            have HR2 := Lib.hid (HR.out.other (show w.heap.size + 1 ≠ w.heap.size by omega) 0 (.slice (some ⟨g1, 1, none⟩) 0 (ic - 1)))
            have HB2 := Lib.hid (HB.out.setCell (p := ⟨w.heap.size, 0, none⟩) (Nat.le_refl _) (.slice (some ⟨g1, 1, none⟩) 0 (ic - 1)))
            go_simp
            (try dsimp only)
            refine hK.out _ _ (by exact True.intro) (fun hHeld => ?_)
            clear hK K
            (try simp only [Act.put, zq1, zq2, zq3, zq4, zq5, zq6])
            refine zqt 8 ?_ ?_ (by assumption) ?_; rotate_left; (intro X hSw; (try dsimp only at hSw); go_simp; (try with_reducible rfl)); (try simp only [Act.put, zq1, zq2, zq3, zq4, zq5, zq6])
            refine wpAnyH_ready (rs := [9]) (by kernel_rfl) (by simp) ?_
            refine AllReadyH.cons rfl (fun K hK => ?_) AllReadyH.nil
            have f3 := HS2.out.free
            have HR2 := Lib.hid (HR2.out.other (show w.heap.size + 1 ≠ w.heap.size by omega) 1 (.slice (some ⟨g2, 0, none⟩) 0 0))
            have HB2 := Lib.hid (HB2.out.setCell (p := ⟨w.heap.size, 1, none⟩) (Nat.le_refl _) (.slice (some ⟨g2, 0, none⟩) 0 0))
            have HS2 := Lib.hid (HS2.out.set1 (.slice (some ⟨g2, 0, none⟩) 0 0))
            go_simp
            (try dsimp only)
            refine hK.out _ _ (by exact True.intro) (fun hHeld => ?_)
            clear hK K
            (try simp only [Act.put, zq1, zq2, zq3, zq4, zq5, zq6])
            refine wpAnyH_done (by kernel_rfl) ?_ _
            obtain ⟨X2, hX2⟩ : ∃ X2, X2 = (Wd.setCell ⟨w.heap.size, 0, none⟩ (.slice (some ⟨g1, 1, none⟩) 0 (ic - 1))).setCell ⟨w.heap.size, 1, none⟩ (.slice (some ⟨g2, 0, none⟩) 0 0) := ⟨_, rfl⟩
            have HS2 := Lib.hid (show Box5 X2 w.heap.size 28 (.slice (some ⟨g1, 1, none⟩) 0 (ic - 1)) (.slice (some ⟨g2, 0, none⟩) 0 0) (.int .i64 fi) (.int .i64 nx) (.int .i64 dr) from by rw [hX2]; exact HS2.out)
            have HR2 := Lib.hid (show Box5 X2 (w.heap.size + 1) 28 (.slice none 0 0) (.slice none 0 0) (.int .i64 0) (.int .i64 0) (.int .i64 0) from by rw [hX2]; exact HR2.out)
            have HB2 := Lib.hid (show Below w.heap.size w X2 from by rw [hX2]; exact HB2.out)
            rw [← hX2]
            clear hX2 q0 q1 q2 q3 q4 f0 f3 hHeld
            obtain ⟨q0, q1, q2, q3, q4⟩ := HS2.out.cells
            have f2 := HS2.out.free
            obtain ⟨e0, e1, e2, e3, e4⟩ := HR2.out.cells
            have gf := HR2.out.free
            have hsl := HR2.out.lt
            have hne1 : w.heap.size + 1 ≠ w.heap.size := by omega
            have hne2 : w.heap.size ≠ w.heap.size + 1 := by omega
            go_wp2_with fail
            refine bodyPost_ret (by simp [results, Tryz.results70, go_sem, *]; try rfl) rfl ?_
            have hb9 := f6_below5 (c := w.heap.size + 1) (HB2.out.setCell (p := ⟨w.heap.size, 2, none⟩) (Nat.le_refl _) (.int .i64 (fi + 1))) (by omega) (.slice (some ⟨g1, 1, none⟩) 0 (ic - 1)) (.slice (some ⟨g2, 0, none⟩) 0 0) (.int .i64 (fi + 1)) (.int .i64 nx) (.int .i64 dr)
            rw [← HPOP.out]
            have l1 : I.tail.length = 0 := by have := HIL.out; simp; omega
            have l2 : P.tail.length = 0 := by have := HPL.out; simp; omega
            have t1 : OwnS w b1 w.heap.size (.slice (some ⟨g1, 1, none⟩) 0 (ic - 1)) 0 I.tail := by
              have h := HI.out
              obtain rfl : n = 1 := by omega
              have h2 := OwnS.tail (n := 0) h
              rw [Addr.add_lit] at h2
              exact h2
            have t2 : OwnS w b1 w.heap.size (.slice (some ⟨g2, 0, none⟩) 0 0) 0 P.tail := by
              have h := HP.out
              obtain rfl : n = 1 := by omega
              exact h.tail1
            exact ⟨_, rfl, tp_fin l1 l2 hb9 t1 t2 (.inr (fun e => by simp [Value.ownBlock] at e; omega)), hb9⟩
        · have hd2 : (1 : Int) < (pc : Int) := by omega
          have he2 : ¬ (1 : Int) = (pc : Int) := by omega
          obtain ⟨q0, q1, q2, q3, q4⟩ := HS.out.cells
          go_wp2_with fail
          refine wp_region_held_drew (S := (fun _ => True)) (by kernel_rfl) True.intro (fun hHeld => ?_)
          clear q0 q1 q2 q3 q4
          obtain ⟨Wd, hWd⟩ : ∃ Wd, Wd = W1.drew := ⟨_, rfl⟩
          have HS := Lib.hid (show Box5 Wd w.heap.size 28 (.slice (some ⟨g1, 0, none⟩) n ic) (.slice (some ⟨g2, 0, none⟩) n pc) (.int .i64 fi) (.int .i64 nx) (.int .i64 dr) from by rw [hWd]; exact HS.out)
          have HR := Lib.hid (show Box5 Wd (w.heap.size + 1) 28 (.slice none 0 0) (.slice none 0 0) (.int .i64 0) (.int .i64 0) (.int .i64 0) from by rw [hWd]; exact HR.out)
          have HB := Lib.hid (show Below w.heap.size w Wd from by rw [hWd]; exact HB.out.drew)
          rw [← hWd]
          clear hWd
          obtain ⟨q0, q1, q2, q3, q4⟩ := HS.out.cells
          refine zqt 0 ?_ ?_ (by assumption) ?_; rotate_left; (intro X hSw; (try dsimp only at hSw); go_simp; (try with_reducible rfl)); (try simp only [Act.put, zq1, zq2, zq3, zq4, zq5, zq6])
          refine zqt 3 ?_ ?_ (by assumption) ?_; rotate_left; (intro X hSw; (try dsimp only at hSw); go_simp; (try with_reducible rfl)); (try simp only [Act.put, zq1, zq2, zq3, zq4, zq5, zq6])
          refine wpAnyH_ready (rs := [1, 4]) (by kernel_rfl) (by simp) ?_
          refine AllReadyH.cons rfl (fun K hK => ?_) (AllReadyH.cons rfl (fun K hK => ?_) AllReadyH.nil)
          · go_simp
            (try dsimp only)
            refine hK.out _ _ (by exact True.intro) (fun hHeld => ?_)
            clear hK K
            (try simp only [Act.put, zq1, zq2, zq3, zq4, zq5, zq6])
            refine zqt 2 ?_ ?_ (by assumption) ?_; rotate_left; (intro X hSw; (try dsimp only at hSw); go_simp; (try with_reducible rfl)); (try simp only [Act.put, zq1, zq2, zq3, zq4, zq5, zq6])
            refine wpAnyH_ready (rs := [4]) (by kernel_rfl) (by simp) ?_
            refine AllReadyH.cons rfl (fun K hK => ?_) AllReadyH.nil
            go_simp
            (try dsimp only)
            refine hK.out _ _ (by exact True.intro) (fun hHeld => ?_)
            clear hK K
            (try simp only [Act.put, zq1, zq2, zq3, zq4, zq5, zq6])
            refine zqt 5 ?_ ?_ (by assumption) ?_; rotate_left; (intro X hSw; (try dsimp only at hSw); go_simp; (try with_reducible rfl)); (try simp only [Act.put, zq1, zq2, zq3, zq4, zq5, zq6])
            refine zqt 6 ?_ ?_ (by assumption) ?_; rotate_left; (intro X hSw; (try dsimp only at hSw); go_simp; (try with_reducible rfl)); (try simp only [Act.put, zq1, zq2, zq3, zq4, zq5, zq6])
            refine wpAnyH_ready (rs := [7]) (by kernel_rfl) (by simp) ?_
            refine AllReadyH.cons rfl (fun K hK => ?_) AllReadyH.nil
            have f0 := HS.out.free
            have HS2 := Lib.hid (HS.out.set0 (.slice (some ⟨g1, 1, none⟩) (n - 1) (ic - 1)))
            have HR2 := Lib.hid (HR.out.other (show w.heap.size + 1 ≠ w.heap.size by omega) 0 (.slice (some ⟨g1, 1, none⟩) (n - 1) (ic - 1)))
            have HB2 := Lib.hid (HB.out.setCell (p := ⟨w.heap.size, 0, none⟩) (Nat.le_refl _) (.slice (some ⟨g1, 1, none⟩) (n - 1) (ic - 1)))
            go_simp
            (try dsimp only)
            refine hK.out _ _ (by exact True.intro) (fun hHeld => ?_)
            clear hK K
            (try simp only [Act.put, zq1, zq2, zq3, zq4, zq5, zq6])
            refine zqt 8 ?_ ?_ (by assumption) ?_; rotate_left; (intro X hSw; (try dsimp only at hSw); go_simp; (try with_reducible rfl)); (try simp only [Act.put, zq1, zq2, zq3, zq4, zq5, zq6])
            refine wpAnyH_ready (rs := [9]) (by kernel_rfl) (by simp) ?_
            refine AllReadyH.cons rfl (fun K hK => ?_) AllReadyH.nil
            have f3 := HS2.out.free
            have HR2 := Lib.hid (HR2.out.other (show w.heap.size + 1 ≠ w.heap.size by omega) 1 (.slice (some ⟨g2, 1, none⟩) (n - 1) (pc - 1)))
            have HB2 := Lib.hid (HB2.out.setCell (p := ⟨w.heap.size, 1, none⟩) (Nat.le_refl _) (.slice (some ⟨g2, 1, none⟩) (n - 1) (pc - 1)))
            have HS2 := Lib.hid (HS2.out.set1 (.slice (some ⟨g2, 1, none⟩) (n - 1) (pc - 1)))
            go_simp
            (try dsimp only)
            refine hK.out _ _ (by exact True.intro) (fun hHeld => ?_)
            clear hK K
            (try simp only [Act.put, zq1, zq2, zq3, zq4, zq5, zq6])
            refine wpAnyH_done (by kernel_rfl) ?_ _
            obtain ⟨X2, hX2⟩ : ∃ X2, X2 = (Wd.setCell ⟨w.heap.size, 0, none⟩ (.slice (some ⟨g1, 1, none⟩) (n - 1) (ic - 1))).setCell ⟨w.heap.size, 1, none⟩ (.slice (some ⟨g2, 1, none⟩) (n - 1) (pc - 1)) := ⟨_, rfl⟩
            have HS2 := Lib.hid (show Box5 X2 w.heap.size 28 (.slice (some ⟨g1, 1, none⟩) (n - 1) (ic - 1)) (.slice (some ⟨g2, 1, none⟩) (n - 1) (pc - 1)) (.int .i64 fi) (.int .i64 nx) (.int .i64 dr) from by rw [hX2]; exact HS2.out)
            have HR2 := Lib.hid (show Box5 X2 (w.heap.size + 1) 28 (.slice none 0 0) (.slice none 0 0) (.int .i64 0) (.int .i64 0) (.int .i64 0) from by rw [hX2]; exact HR2.out)
            have HB2 := Lib.hid (show Below w.heap.size w X2 from by rw [hX2]; exact HB2.out)
            rw [← hX2]
            clear hX2 q0 q1 q2 q3 q4 f0 f3 hHeld
            obtain ⟨q0, q1, q2, q3, q4⟩ := HS2.out.cells
            have f2 := HS2.out.free
            obtain ⟨e0, e1, e2, e3, e4⟩ := HR2.out.cells
            have gf := HR2.out.free
            have hsl := HR2.out.lt
            have hne1 : w.heap.size + 1 ≠ w.heap.size := by omega
            have hne2 : w.heap.size ≠ w.heap.size + 1 := by omega
            go_wp2_with fail
            refine bodyPost_ret (by simp [results, Tryz.results70, go_sem, *]; try rfl) rfl ?_
            have hb9 := f6_below5 (c := w.heap.size + 1) (HB2.out.setCell (p := ⟨w.heap.size, 2, none⟩) (Nat.le_refl _) (.int .i64 (fi + 1))) (by omega) (.slice (some ⟨g1, 1, none⟩) (n - 1) (ic - 1)) (.slice (some ⟨g2, 1, none⟩) (n - 1) (pc - 1)) (.int .i64 (fi + 1)) (.int .i64 nx) (.int .i64 dr)
            rw [← HPOP.out]
            have l1 : I.tail.length = n - 1 := by have := HIL.out; simp; omega
            have l2 : P.tail.length = n - 1 := by have := HPL.out; simp; omega
            have t1 : OwnS w b1 w.heap.size (.slice (some ⟨g1, 1, none⟩) (n - 1) (ic - 1)) (n - 1) I.tail := by
              have h := HI.out
              obtain ⟨m, rfl⟩ : ∃ m, n = m + 1 := ⟨n - 1, by omega⟩
              have h2 := h.tail
              rw [Addr.add_lit] at h2
              exact h2
            have t2 : OwnS w b1 w.heap.size (.slice (some ⟨g2, 1, none⟩) (n - 1) (pc - 1)) (n - 1) P.tail := by
              have h := HP.out
              obtain ⟨m, rfl⟩ : ∃ m, n = m + 1 := ⟨n - 1, by omega⟩
              have h2 := h.tail
              rw [Addr.add_lit] at h2
              exact h2
            exact ⟨_, rfl, tp_fin l1 l2 hb9 t1 t2 (.inr (fun e => by simp [Value.ownBlock] at e; omega)), hb9⟩
          · go_simp
            (try dsimp only)
            refine hK.out _ _ (by exact True.intro) (fun hHeld => ?_)
            clear hK K
            (try simp only [Act.put, zq1, zq2, zq3, zq4, zq5, zq6])
            refine zqt 5 ?_ ?_ (by assumption) ?_; rotate_left; (intro X hSw; (try dsimp only at hSw); go_simp; (try with_reducible rfl)); (try simp only [Act.put, zq1, zq2, zq3, zq4, zq5, zq6])
            refine wpAnyH_ready (rs := [1]) (by kernel_rfl) (by simp) ?_
            refine AllReadyH.cons rfl (fun K hK => ?_) AllReadyH.nil
            go_simp
            (try dsimp only)
            refine hK.out _ _ (by exact True.intro) (fun hHeld => ?_)
            clear hK K
            (try simp only [Act.put, zq1, zq2, zq3, zq4, zq5, zq6])
            refine zqt 2 ?_ ?_ (by assumption) ?_; rotate_left; (intro X hSw; (try dsimp only at hSw); go_simp; (try with_reducible rfl)); (try simp only [Act.put, zq1, zq2, zq3, zq4, zq5, zq6])
            refine zqt 6 ?_ ?_ (by assumption) ?_; rotate_left; (intro X hSw; (try dsimp only at hSw); go_simp; (try with_reducible rfl)); (try simp only [Act.put, zq1, zq2, zq3, zq4, zq5, zq6])
            refine wpAnyH_ready (rs := [7]) (by kernel_rfl) (by simp) ?_
            refine AllReadyH.cons rfl (fun K hK => ?_) AllReadyH.nil
            have f0 := HS.out.free
            have HS2 := Lib.hid (HS.out.set0 (.slice (some ⟨g1, 1, none⟩) (n - 1) (ic - 1)))
            have HR2 := Lib.hid (HR.out.other (show w.heap.size + 1 ≠ w.heap.size by omega) 0 (.slice (some ⟨g1, 1, none⟩) (n - 1) (ic - 1)))
            have HB2 := Lib.hid (HB.out.setCell (p := ⟨w.heap.size, 0, none⟩) (Nat.le_refl _) (.slice (some ⟨g1, 1, none⟩) (n - 1) (ic - 1)))
            go_simp
            (try dsimp only)
            refine hK.out _ _ (by exact True.intro) (fun hHeld => ?_)
            clear hK K
            (try simp only [Act.put, zq1, zq2, zq3, zq4, zq5, zq6])
            refine zqt 8 ?_ ?_ (by assumption) ?_; rotate_left; (intro X hSw; (try dsimp only at hSw); go_simp; (try with_reducible rfl)); (try simp only [Act.put, zq1, zq2, zq3, zq4, zq5, zq6])
            refine wpAnyH_ready (rs := [9]) (by kernel_rfl) (by simp) ?_
            refine AllReadyH.cons rfl (fun K hK => ?_) AllReadyH.nil
            have f3 := HS2.out.free
            have HR2 := Lib.hid (HR2.out.other (show w.heap.size + 1 ≠ w.heap.size by omega) 1 (.slice (some ⟨g2, 1, none⟩) (n - 1) (pc - 1)))
            have HB2 := Lib.hid (HB2.out.setCell (p := ⟨w.heap.size, 1, none⟩) (Nat.le_refl _) (.slice (some ⟨g2, 1, none⟩) (n - 1) (pc - 1)))
            have HS2 := Lib.hid (HS2.out.set1 (.slice (some ⟨g2, 1, none⟩) (n - 1) (pc - 1)))
            go_simp
            (try dsimp only)
            refine hK.out _ _ (by exact True.intro) (fun hHeld => ?_)
            clear hK K
            (try simp only [Act.put, zq1, zq2, zq3, zq4, zq5, zq6])
            refine wpAnyH_done (by kernel_rfl) ?_ _
            obtain ⟨X2, hX2⟩ : ∃ X2, X2 = (Wd.setCell ⟨w.heap.size, 0, none⟩ (.slice (some ⟨g1, 1, none⟩) (n - 1) (ic - 1))).setCell ⟨w.heap.size, 1, none⟩ (.slice (some ⟨g2, 1, none⟩) (n - 1) (pc - 1)) := ⟨_, rfl⟩
            have HS2 := Lib.hid (show Box5 X2 w.heap.size 28 (.slice (some ⟨g1, 1, none⟩) (n - 1) (ic - 1)) (.slice (some ⟨g2, 1, none⟩) (n - 1) (pc - 1)) (.int .i64 fi) (.int .i64 nx) (.int .i64 dr) from by rw [hX2]; exact HS2.out)
            have HR2 := Lib.hid (show Box5 X2 (w.heap.size + 1) 28 (.slice none 0 0) (.slice none 0 0) (.int .i64 0) (.int .i64 0) (.int .i64 0) from by rw [hX2]; exact HR2.out)
            have HB2 := Lib.hid (show Below w.heap.size w X2 from by rw [hX2]; exact HB2.out)
            rw [← hX2]
            clear hX2 q0 q1 q2 q3 q4 f0 f3 hHeld
            obtain ⟨q0, q1, q2, q3, q4⟩ := HS2.out.cells
            have f2 := HS2.out.free
            obtain ⟨e0, e1, e2, e3, e4⟩ := HR2.out.cells
            have gf := HR2.out.free
            have hsl := HR2.out.lt
            have hne1 : w.heap.size + 1 ≠ w.heap.size := by omega
            have hne2 : w.heap.size ≠ w.heap.size + 1 := by omega
            go_wp2_with fail
            refine bodyPost_ret (by simp [results, Tryz.results70, go_sem, *]; try rfl) rfl ?_
            have hb9 := f6_below5 (c := w.heap.size + 1) (HB2.out.setCell (p := ⟨w.heap.size, 2, none⟩) (Nat.le_refl _) (.int .i64 (fi + 1))) (by omega) (.slice (some ⟨g1, 1, none⟩) (n - 1) (ic - 1)) (.slice (some ⟨g2, 1, none⟩) (n - 1) (pc - 1)) (.int .i64 (fi + 1)) (.int .i64 nx) (.int .i64 dr)
            rw [← HPOP.out]
            have l1 : I.tail.length = n - 1 := by have := HIL.out; simp; omega
            have l2 : P.tail.length = n - 1 := by have := HPL.out; simp; omega
            have t1 : OwnS w b1 w.heap.size (.slice (some ⟨g1, 1, none⟩) (n - 1) (ic - 1)) (n - 1) I.tail := by
              have h := HI.out
              obtain ⟨m, rfl⟩ : ∃ m, n = m + 1 := ⟨n - 1, by omega⟩
              have h2 := h.tail
              rw [Addr.add_lit] at h2
              exact h2
            have t2 : OwnS w b1 w.heap.size (.slice (some ⟨g2, 1, none⟩) (n - 1) (pc - 1)) (n - 1) P.tail := by
              have h := HP.out
              obtain ⟨m, rfl⟩ : ∃ m, n = m + 1 := ⟨n - 1, by omega⟩
              have h2 := h.tail
              rw [Addr.add_lit] at h2
              exact h2
            exact ⟨_, rfl, tp_fin l1 l2 hb9 t1 t2 (.inr (fun e => by simp [Value.ownBlock] at e; omega)), hb9⟩
    · have hpp := HPOP.out
      rw [if_neg hyf] at hpp
      have HPOP := Lib.hid hpp
      clear hpp
      have HS2 := HS
      have HR2 := HR
      have HB2 := HB
      obtain ⟨q0, q1, q2, q3, q4⟩ := HS2.out.cells
      have f2 := HS2.out.free
      obtain ⟨e0, e1, e2, e3, e4⟩ := HR2.out.cells
      have gf := HR2.out.free
      have hsl := HR2.out.lt
      have hne1 : w.heap.size + 1 ≠ w.heap.size := by omega
      have hne2 : w.heap.size ≠ w.heap.size + 1 := by omega
      go_wp2_with fail
      refine bodyPost_ret (by simp [results, Tryz.results70, go_sem, *]; try rfl) rfl ?_
      have hb9 := f6_below5 (c := w.heap.size + 1) (HB2.out.setCell (p := ⟨w.heap.size, 2, none⟩) (Nat.le_refl _) (.int .i64 (fi + 1))) (by omega) (.slice (some ⟨g1, 0, none⟩) n ic) (.slice (some ⟨g2, 0, none⟩) n pc) (.int .i64 (fi + 1)) (.int .i64 nx) (.int .i64 dr)
      rw [← HPOP.out]
      exact ⟨_, rfl, tp_fin HIL.out HPL.out hb9 HI.out HP.out (.inr (fun e => by simp [Value.ownBlock] at e; omega)), hb9⟩
end Go.Proofs.YtolgclajlklmaaaGreat

namespace Go.Proofs.YtolgclajlklmaaaGreat
set_option linter.unusedSimpArgs false
set_option linter.unusedVariables false
open Go.RowKit
theorem po_fin0 {k : Int} {b1 b2 : Nat} {fi nx dr x : Int} {w Y : World} {a5 a8 : Option Addr} {c5 c8 : Nat} (hb : b1 ≤ b2)
    (hd : (Value.slice a5 1 c5).ownBlock = none ∨ (Value.slice a5 1 c5).ownBlock ≠ (Value.slice a8 1 c8).ownBlock)
    (h5 : ∀ g, (Value.slice a5 1 c5).ownBlock = some g → g ≠ w.heap.size + 1) (h8 : ∀ g, (Value.slice a8 1 c8).ownBlock = some g → g ≠ w.heap.size + 1)
    (a1 : Y.ownsRow b1 3 1 (.slice a5 1 c5) 1 [.int .i64 x]) (a2 : Y.ownsRow b2 3 1 (.slice a8 1 c8) 1 [.int .i64 nx]) (a3 : Touch b1 w.heap.size w Y) (hbY : b1 ≤ Y.heap.size) (hYs : w.heap.size + 1 < Y.heap.size) (u0 u1 u2 u3 u4 : Value) :
    PoFin b1 (Agg.pushD k ⟨[], [], fi, nx, dr⟩ x) w (.returned (.agg #[.slice a5 1 c5, .slice a8 1 c8, .int .i64 fi, .int .i64 (nx + 1), .int .i64 dr]))
      (((((Y.setCell ⟨w.heap.size + 1, 0, none⟩ u0).setCell ⟨w.heap.size + 1, 1, none⟩ u1).setCell ⟨w.heap.size + 1, 2, none⟩ u2).setCell ⟨w.heap.size + 1, 3, none⟩ u3).setCell ⟨w.heap.size + 1, 4, none⟩ u4) := by
  have h := po_fin (k := k) (n := 0) (t := 0) (I := []) (P := []) (fi := fi) (nx := nx) (dr := dr) (x := x) hb hd h5 h8 rfl rfl rfl a1 a2 a3 hbY hYs u0 u1 u2 u3 u4
  have e : dr + (((0 : Nat) : Int) - ((0 : Nat) : Int)) = dr := by simp
  rw [e] at h
  exact h
set_option maxRecDepth 8000 in
set_option maxHeartbeats 4000000 in
theorem pushOver_nn {k : Int} {T fl : Nat} (O : OrdAt k T fl) (b1 b2 g1 ic g2 pc : Nat) (fi nx dr x : Int) (w : World)
    (hI : w.ownsRow b1 3 1 (.slice none 0 0) 0 []) (hP : w.ownsRow b2 3 1 (.slice none 0 0) 0 []) (hlt : ∀ g, (Value.slice none 0 0).ownBlock = some g → g < b2) (hb : b1 ≤ b2) (hb2 : b2 ≤ w.heap.size)
    (hx0 : 0 ≤ nx) (hx1 : nx ≤ 900000) :
    Calls Tryz.prog 69 #[.iface T (.agg #[]), .agg #[.slice none 0 0, .slice none 0 0, .int .i64 fi, .int .i64 nx, .int .i64 dr], .int .i64 x] w (PoFin b1 (Agg.pushD k ⟨[], [], fi, nx, dr⟩ x) w) := by
  obtain ⟨i0, hi0, hz0, hz1, hz2⟩ := info_parts infoInt
  have HFB := Lib.hid (show (∀ g, (Value.slice none 0 0).ownBlock = some g → b1 ≤ g ∧ g < b2) ∧ (∀ g, (Value.slice none 0 0).ownBlock = some g → b2 ≤ g ∧ g < w.heap.size) from ⟨fun g hg => ⟨(hI.lt g hg).1, hlt g hg⟩, fun g hg => hP.lt g hg⟩)
  have HI := Lib.hid hI
  have HP := Lib.hid hP
  have HLT := Lib.hid hlt
  obtain ⟨W, hW⟩ : ∃ W, W = (w.alloc (.cells #[.slice none 0 0, .slice none 0 0, .int .i64 fi, .int .i64 nx, .int .i64 dr] 28)).alloc (.cells #[.slice none 0 0, .slice none 0 0, .int .i64 0, .int .i64 0, .int .i64 0] 28) := ⟨_, rfl⟩
  have HS := Lib.hid (show Box5 W w.heap.size 28 (.slice none 0 0) (.slice none 0 0) (.int .i64 fi) (.int .i64 nx) (.int .i64 dr) from by rw [hW]; exact (Box5.new w _ _ _ _ _ _).alloc _)
  have HR := Lib.hid (show Box5 W (w.heap.size + 1) 28 (.slice none 0 0) (.slice none 0 0) (.int .i64 0) (.int .i64 0) (.int .i64 0) from by rw [hW]; exact Box5.new1 _ _ _ _ _ _ (by simp))
  have HB := Lib.hid (show Below w.heap.size w W from by rw [hW]; exact ((Below.refl _ _).alloc (Nat.le_refl _) _).alloc (by simp) _)
  clear hI hP hlt O
  go_enter Tryz.func69, Tryz.ntmps69
  go_upto_region 1 with (fail)
  rw [← hW]
  clear hW
  obtain ⟨q0, q1, q2, q3, q4⟩ := HS.out.cells
  go_wp2_with fail
  clear q0 q1 q2 q3 q4
  go_loopw [7] (fun kv wr => kv = .int .i64 0 ∧ Hid (Box5 wr w.heap.size 28 (.slice none 0 0) (.slice none 0 0) (.int .i64 fi) (.int .i64 nx) (.int .i64 dr)) ∧ Hid (Box5 wr (w.heap.size + 1) 28 (.slice none 0 0) (.slice none 0 0) (.int .i64 0) (.int .i64 0) (.int .i64 0)) ∧ Hid (Below w.heap.size w wr)) (fun kv _ => 0)
  case atStart => exact ⟨rfl, HS, HR, HB⟩
  case round =>
    obtain ⟨rfl, hs, hr, hw⟩ := hrel
    clear HS HR HB
    obtain ⟨q0, q1, q2, q3, q4⟩ := hs.out.cells
    go_wp2_with fail
    refine wp_region_held_drew (S := (fun X => X.cell? ⟨w.heap.size, 0, none⟩ = some (.slice none 0 0))) (by kernel_rfl) (by assumption) (fun hHeld => ?_)
    refine zqt 0 ?_ ?_ (by assumption) ?_; rotate_left; (intro X hSw; (try dsimp only at hSw); go_simp; (try with_reducible rfl)); (try simp only [Act.put, zq1, zq2, zq3, zq4, zq5, zq6])
    refine zqt 1 ?_ ?_ (by assumption) ?_; rotate_left; (intro X hSw; (try dsimp only at hSw); go_simp; (try with_reducible rfl)); (try simp only [Act.put, zq1, zq2, zq3, zq4, zq5, zq6])
    refine zqt 2 ?_ ?_ (by assumption) ?_; rotate_left; (intro X hSw; (try dsimp only at hSw); go_simp; (try with_reducible rfl)); (try simp only [Act.put, zq1, zq2, zq3, zq4, zq5, zq6])
    first | (refine wpAnyH_take (i := 3) (v := undef) rfl (by kernel_rfl) (by kernel_rfl) (by kernel_rfl) (fun _ _ _ h => h) (Or.inr ⟨by rfl, rfl⟩) (by assumption) ?_; (try simp only [Act.put, zq1, zq2, zq3, zq4, zq5, zq6])) | fail "skip 3"
    first | (refine wpAnyH_take (i := 4) (v := undef) rfl (by kernel_rfl) (by kernel_rfl) (by kernel_rfl) (fun _ _ _ h => h) (Or.inr ⟨by rfl, rfl⟩) (by assumption) ?_; (try simp only [Act.put, zq1, zq2, zq3, zq4, zq5, zq6])) | fail "skip 4"
    first | (refine wpAnyH_take (i := 5) (v := undef) rfl (by kernel_rfl) (by kernel_rfl) (by kernel_rfl) (fun _ _ _ h => h) (Or.inr ⟨by rfl, rfl⟩) (by assumption) ?_; (try simp only [Act.put, zq1, zq2, zq3, zq4, zq5, zq6])) | fail "skip 5"
    first | (refine wpAnyH_take (i := 6) (v := undef) rfl (by kernel_rfl) (by kernel_rfl) (by kernel_rfl) (fun _ _ _ h => h) (Or.inr ⟨by rfl, rfl⟩) (by assumption) ?_; (try simp only [Act.put, zq1, zq2, zq3, zq4, zq5, zq6])) | fail "skip 6"
    first | (refine wpAnyH_take (i := 7) (v := undef) rfl (by kernel_rfl) (by kernel_rfl) (by kernel_rfl) (fun _ _ _ h => h) (Or.inr ⟨by rfl, rfl⟩) (by assumption) ?_; (try simp only [Act.put, zq1, zq2, zq3, zq4, zq5, zq6])) | fail "skip 7"
    first | (refine wpAnyH_take (i := 8) (v := undef) rfl (by kernel_rfl) (by kernel_rfl) (by kernel_rfl) (fun _ _ _ h => h) (Or.inr ⟨by rfl, rfl⟩) (by assumption) ?_; (try simp only [Act.put, zq1, zq2, zq3, zq4, zq5, zq6])) | fail "skip 8"
    first | (refine wpAnyH_take (i := 9) (v := undef) rfl (by kernel_rfl) (by kernel_rfl) (by kernel_rfl) (fun _ _ _ h => h) (Or.inr ⟨by rfl, rfl⟩) (by assumption) ?_; (try simp only [Act.put, zq1, zq2, zq3, zq4, zq5, zq6])) | fail "skip 9"
    first | (refine wpAnyH_take (i := 10) (v := undef) rfl (by kernel_rfl) (by kernel_rfl) (by kernel_rfl) (fun _ _ _ h => h) (Or.inr ⟨by rfl, rfl⟩) (by assumption) ?_; (try simp only [Act.put, zq1, zq2, zq3, zq4, zq5, zq6])) | fail "skip 10"
    first | (refine wpAnyH_take (i := 11) (v := undef) rfl (by kernel_rfl) (by kernel_rfl) (by kernel_rfl) (fun _ _ _ h => h) (Or.inr ⟨by rfl, rfl⟩) (by assumption) ?_; (try simp only [Act.put, zq1, zq2, zq3, zq4, zq5, zq6])) | fail "skip 11"
    first | (refine wpAnyH_take (i := 12) (v := undef) rfl (by kernel_rfl) (by kernel_rfl) (by kernel_rfl) (fun _ _ _ h => h) (Or.inr ⟨by rfl, rfl⟩) (by assumption) ?_; (try simp only [Act.put, zq1, zq2, zq3, zq4, zq5, zq6])) | fail "skip 12"
    first | (refine wpAnyH_take (i := 13) (v := undef) rfl (by kernel_rfl) (by kernel_rfl) (by kernel_rfl) (fun _ _ _ h => h) (Or.inr ⟨by rfl, rfl⟩) (by assumption) ?_; (try simp only [Act.put, zq1, zq2, zq3, zq4, zq5, zq6])) | fail "skip 13"
    first | (refine wpAnyH_take (i := 14) (v := undef) rfl (by kernel_rfl) (by kernel_rfl) (by kernel_rfl) (fun _ _ _ h => h) (Or.inr ⟨by rfl, rfl⟩) (by assumption) ?_; (try simp only [Act.put, zq1, zq2, zq3, zq4, zq5, zq6])) | fail "skip 14"
    refine zqt 15 ?_ ?_ (by assumption) ?_; rotate_left; (intro X hSw; (try dsimp only at hSw); go_simp; (try with_reducible rfl)); (try simp only [Act.put, zq1, zq2, zq3, zq4, zq5, zq6])
    refine wpAnyH_done (by kernel_rfl) ?_ _
    obtain ⟨X3, hX3⟩ : ∃ X3, X3 = wr.drew := ⟨_, rfl⟩
    have HS3 := Lib.hid (show Box5 X3 w.heap.size 28 (.slice none 0 0) (.slice none 0 0) (.int .i64 fi) (.int .i64 nx) (.int .i64 dr) from by rw [hX3]; exact hs.out)
    have HR3 := Lib.hid (show Box5 X3 (w.heap.size + 1) 28 (.slice none 0 0) (.slice none 0 0) (.int .i64 0) (.int .i64 0) (.int .i64 0) from by rw [hX3]; exact hr.out)
    have HB3 := Lib.hid (show Below w.heap.size w X3 from by rw [hX3]; exact hw.out.drew)
    rw [← hX3]
    clear hX3 hs hr hw q0 q1 q2 q3 q4 hHeld
    have hsx := HB3.out.size
    have hsl := HS3.out.lt
    have hrl := HR3.out.lt
    have HI3 := Lib.hid (HI.out.kept (Below.grownNone HB3.out none) (by cases hv : (Value.slice none 0 0).ownBlock <;> simp))
    have HP3 := Lib.hid (HP.out.kept (Below.grownNone HB3.out none) (by cases hv : (Value.slice none 0 0).ownBlock <;> simp))
    have HPG := Lib.hid (fun g (hg : (Value.slice none 0 0).ownBlock = some g) => HP.out.lt g hg)
    have HPI := Lib.hid (HI3.out)
    have HPP := Lib.hid (HP3.out)
    obtain ⟨q0, q1, q2, q3, q4⟩ := HS3.out.cells
    go_upto_region 6 with (
      at_builtin
      go_must (refine wpList_append_where rfl (.tmp 36) (.tmp 38) 26 rfl b1 3 i0 (.int .i64 0) 1 8 Tryz.underlying26 hi0 hz0 hz1 hz2 rfl (by decide) (.slice none 0 0) 0 [] rfl (HPI.out.alloc _) ⟨X3.heap.size, 0, none⟩ 1 1 [.int .i64 x] rfl rfl (cell_one_new _ _ _) (ints_oneCell .i64 [x]) (by unfold maxLen; omega) (by omega) (by simp; omega) ?_)
      go_loud (
        intro v5 w5 hown5 hgrow5 hwhere5
        obtain ⟨a5, c5, rfl⟩ := slice_own hown5
        have HO5 := Lib.hid hown5
        have HG5 := Lib.hid hgrow5
        have HW5 := Lib.hid hwhere5
        have HS5 := Lib.hid ((HS3.out.alloc (.cells #[.int .i64 x] 3)).grown hgrow5 (fun e => by first | (have := ob e; omega) | (simp [Value.ownBlock] at e; done)))
        have HR5 := Lib.hid ((HR3.out.alloc (.cells #[.int .i64 x] 3)).grown hgrow5 (fun e => by first | (have := ob e; omega) | (simp [Value.ownBlock] at e; done)))
        have HP5 := Lib.hid ((HPP.out.alloc (.cells #[.int .i64 x] 3)).kept hgrow5 (by cases hv : (Value.slice none 0 0).ownBlock with | none => exact .inl rfl | some g => exact .inr (fun e => by first | (have := ob e.symm; have := ob hv; omega) | (simp [Value.ownBlock] at hv; done) | (simp [Value.ownBlock] at e; done))))
        have f0 := HS5.out.free 0
        obtain ⟨q0, q1, q2, q3, q4⟩ := HS5.out.cells
        clear hown5 hgrow5 hwhere5))
    have hs5 : X3.heap.size + 1 ≤ w5.heap.size := by have := HG5.out.size; simpa using this
    have HN5 := Lib.hid (show ∀ g, (Value.slice a5 1 c5).ownBlock = some g → g < b2 ∨ X3.heap.size ≤ g from fun g hg => by
      rcases HW5.out with e | ⟨g', e, hle⟩
      · exact .inl (by rw [e] at hg; first | (have := ob hg; omega) | (simp [Value.ownBlock] at hg; done))
      · rw [e] at hg; obtain rfl := Option.some.inj hg; simp at hle; exact .inr (by omega))
    obtain ⟨X6, hX6⟩ : ∃ X6, X6 = w5.setCell ⟨w.heap.size, 0, none⟩ (.slice a5 1 c5) := ⟨_, rfl⟩
    have HS6 := Lib.hid (show Box5 X6 w.heap.size 28 (.slice a5 1 c5) (.slice none 0 0) (.int .i64 fi) (.int .i64 nx) (.int .i64 dr) from by rw [hX6]; exact HS5.out.set0 _)
    have HR6 := Lib.hid (show Box5 X6 (w.heap.size + 1) 28 (.slice none 0 0) (.slice none 0 0) (.int .i64 0) (.int .i64 0) (.int .i64 0) from by rw [hX6]; exact HR5.out.other (by omega) _ _)
    have HO6 := Lib.hid (show X6.ownsRow b1 3 1 (.slice a5 1 c5) 1 [.int .i64 x] from by
      rw [hX6]
      exact own_far HO5.out (fun g hg => by have := HN5.out g hg; omega))
    have HP6 := Lib.hid (show X6.ownsRow b2 3 1 (.slice none 0 0) 0 [] from by
      rw [hX6]
      exact own_far HP5.out (fun g hg => by first | (have := ob hg; omega) | (simp [Value.ownBlock] at hg; done)))
    have HT6 := Lib.hid (show Touch b1 w.heap.size w X6 from by
      rw [hX6]
      exact Touch.far ((((Touch.refl b1 w.heap.size w).call HB3.out).call ((Below.refl X3.heap.size X3).alloc (Nat.le_refl _) _)).trans (Touch.of HG5.out (fun g hg => by first | (have := ob hg; omega) | (simp [Value.ownBlock] at hg; done)))) (Nat.le_refl _))
    have hs6 : X3.heap.size + 1 ≤ X6.heap.size := by rw [hX6]; simpa [World.setCell] using hs5
    rw [← hX6]
    clear hX6 q0 q1 q2 q3 q4 f0 HS5 HR5 HP5 HO5 HG5 HW5 HPI HPP HI3 HP3 HS3 HR3 HB3
    obtain ⟨q0, q1, q2, q3, q4⟩ := HS6.out.cells
    have SQ := Lib.hid (show ∀ (X : World) (v : Value), Box5 X w.heap.size 28 (.slice a5 1 c5) v (.int .i64 fi) (.int .i64 nx) (.int .i64 dr) → X.cell? ⟨w.heap.size, 3, none⟩ = some (.int .i64 nx) from fun X v h => h.cells.2.2.2.1)
    refine wp_region_held_drew (S := (fun X => X.cell? ⟨w.heap.size, 3, none⟩ = some (.int .i64 nx))) (by kernel_rfl) (by exact q3) (fun hHeld => ?_)
    clear q0 q1 q2 q3 q4
    refine zqt 0 ?_ ?_ (by assumption) ?_; rotate_left; (intro X hSw; (try dsimp only at hSw); go_simp; (try with_reducible rfl)); (try simp only [Act.put, zq1, zq2, zq3, zq4, zq5, zq6])
    refine zqt 2 ?_ ?_ (by assumption) ?_; rotate_left; (intro X hSw; (try dsimp only at hSw); go_simp; (try with_reducible rfl)); (try simp only [Act.put, zq1, zq2, zq3, zq4, zq5, zq6])
    refine zqt 4 ?_ ?_ (by assumption) ?_; rotate_left; (intro X hSw; (try dsimp only at hSw); go_simp; (try with_reducible rfl)); (try simp only [Act.put, zq1, zq2, zq3, zq4, zq5, zq6])
    refine zqt 5 ?_ ?_ (by assumption) ?_; rotate_left; (intro X hSw; (try dsimp only at hSw); go_simp; (try with_reducible rfl)); (try simp only [Act.put, zq1, zq2, zq3, zq4, zq5, zq6])
    refine wpAnyH_ready (rs := [1, 6]) (by kernel_rfl) (by simp) ?_
    refine AllReadyH.cons rfl (fun K hK => ?_) (AllReadyH.cons rfl (fun K hK => ?_) AllReadyH.nil)

    · obtain ⟨q0, q1, q2, q3, q4⟩ := HS6.out.cells
      go_simp
      clear q0 q1 q2 q3 q4
      (try dsimp only)
      refine hK.out _ _ (by exact SQ.out _ _ HS6.out) (fun hHeld => ?_)
      clear hK K
      (try simp only [Act.put, zq1, zq2, zq3, zq4, zq5, zq6])
      refine zqt 3 ?_ ?_ (by assumption) ?_; rotate_left; (intro X hSw; (try dsimp only at hSw); go_simp; (try with_reducible rfl)); (try simp only [Act.put, zq1, zq2, zq3, zq4, zq5, zq6])
      refine wpAnyH_ready (rs := [6]) (by kernel_rfl) (by simp) ?_
      refine AllReadyH.cons rfl (fun K hK => ?_) AllReadyH.nil
      go_simp
      obtain ⟨X7, hX7⟩ : ∃ X7, X7 = (X6.alloc (.cells #[.int .i64 nx] 3)).drew := ⟨_, rfl⟩
      have hbn : Below X6.heap.size X6 X7 := by rw [hX7]; exact ((Below.refl _ _).alloc (Nat.le_refl _) _).drew
      have hs7 : X7.heap.size = X6.heap.size + 1 := by rw [hX7]; simp [World.drew]
      have HS7 := Lib.hid (HS6.out.call hbn)
      have HR7 := Lib.hid (HR6.out.call hbn)
      have HO7 := Lib.hid (HO6.out.kept (Below.grownNone hbn none) (by cases hv : (Value.slice a5 1 c5).ownBlock <;> simp))
      have HP7 := Lib.hid (HP6.out.kept (Below.grownNone hbn none) (by cases hv : (Value.slice none 0 0).ownBlock <;> simp))
      have HT7 := Lib.hid (HT6.out.call hbn)
      have HLIT := Lib.hid (show ∀ j u, ([Value.int .i64 nx])[j]? = some u → X7.cell? ((⟨X6.heap.size, 0, none⟩ : Addr).add j) = some u from by rw [hX7]; exact cell_one_new X6 (.int .i64 nx) 3)
      rw [← hX7]
      clear hX7 hbn HS6 HR6 HO6 HP6 HT6
      (try dsimp only)
      refine hK.out _ _ (by exact SQ.out _ _ HS7.out) (fun hHeld => ?_)
      clear hK K
      (try simp only [Act.put, zq1, zq2, zq3, zq4, zq5, zq6])
      refine wpAnyH_ready (rs := [7]) (by kernel_rfl) (by simp) ?_
      refine AllReadyH.cons rfl (fun K hK => ?_) AllReadyH.nil
      go_must (refine step_append_whered (by rfl) (.tmp 44) (.tmp 47) 26 (by rfl) b2 3 i0 (.int .i64 0) 1 8 Tryz.underlying26 hi0 hz0 hz1 hz2 rfl (by decide) (.slice none 0 0) 0 [] (by rfl) HP7.out ⟨X6.heap.size, 0, none⟩ 1 1 [.int .i64 nx] (by rfl) (by rfl) HLIT.out (ints_oneCell .i64 [nx]) (by unfold maxLen; omega) (by omega) (by omega) ?_)
      intro v8 w8 hown8 hgrow8 hwhere8
      obtain ⟨a8, c8, rfl⟩ := slice_own hown8
      have hs8 := hgrow8.size
      have HO8 := Lib.hid hown8
      have HW8 := Lib.hid hwhere8
      have HS8 := Lib.hid (HS7.out.grown hgrow8 (fun e => by first | (have := ob e; omega) | (simp [Value.ownBlock] at e; done)))
      have HR8 := Lib.hid (HR7.out.grown hgrow8 (fun e => by first | (have := ob e; omega) | (simp [Value.ownBlock] at e; done)))
      have HI8 := Lib.hid (HO7.out.kept hgrow8 (by cases hv : (Value.slice a5 1 c5).ownBlock with | none => exact .inl rfl | some g => exact .inr (fun e => by have := HN5.out g hv; first | (have := ob e.symm; omega) | (simp [Value.ownBlock] at e; done))))
      have HT8 := Lib.hid (HT7.out.trans (show Touch b1 w.heap.size X7 w8 from Touch.of hgrow8 (fun g hg => by first | (have := ob hg; omega) | (simp [Value.ownBlock] at hg; done))))
      clear hown8 hgrow8 hwhere8
      (try dsimp only)
      refine hK.out _ _ (by exact SQ.out _ _ HS8.out) (fun hHeld => ?_)
      clear hK K
      (try simp only [Act.put, zq1, zq2, zq3, zq4, zq5, zq6])
      refine zqt 8 ?_ ?_ (by assumption) ?_; rotate_left; (intro X hSw; (try dsimp only at hSw); go_simp; (try with_reducible rfl)); (try simp only [Act.put, zq1, zq2, zq3, zq4, zq5, zq6])
      refine wpAnyH_ready (rs := [9]) (by kernel_rfl) (by simp) ?_
      refine AllReadyH.cons rfl (fun K hK => ?_) AllReadyH.nil
      have f1 := HS8.out.free 1
      obtain ⟨q0, q1, q2, q3, q4⟩ := HS8.out.cells
      go_simp
      have HS9 := Lib.hid (HS8.out.set1 (.slice a8 1 c8))
      (try dsimp only)
      refine hK.out _ _ (by exact SQ.out _ _ HS9.out) (fun hHeld => ?_)
      clear hK K
      (try simp only [Act.put, zq1, zq2, zq3, zq4, zq5, zq6])
      refine wpAnyH_done (by kernel_rfl) ?_ _
      obtain ⟨X9, hX9⟩ : ∃ X9, X9 = w8.setCell ⟨w.heap.size, 1, none⟩ (.slice a8 1 c8) := ⟨_, rfl⟩
      have hn8 : ∀ g, (Value.slice a8 1 c8).ownBlock = some g → g ≠ w.heap.size := fun g hg => by
        rcases HW8.out with e | ⟨g', e, hle⟩
        · rw [e] at hg; first | (have := ob hg; omega) | (simp [Value.ownBlock] at hg; done)
        · rw [e] at hg; obtain rfl := Option.some.inj hg; omega
      have hn58 : (Value.slice a5 1 c5).ownBlock = none ∨ (Value.slice a5 1 c5).ownBlock ≠ (Value.slice a8 1 c8).ownBlock := by
        cases hv : (Value.slice a5 1 c5).ownBlock with
        | none => exact .inl rfl
        | some g =>
          refine .inr (fun e => ?_)
          have h5 := (HO7.out.lt g hv).2
          rcases HW8.out with e' | ⟨g', e', hle⟩
          · rw [e'] at e
            have := HN5.out g hv
            first | (have := ob e.symm; omega) | (simp [Value.ownBlock] at e; done)
          · rw [e'] at e; obtain rfl := Option.some.inj e; omega
      have HN58 := Lib.hid hn58
      have HRW := Lib.hid (show X9.ownsRow b1 3 1 (.slice a5 1 c5) 1 [.int .i64 x] from by rw [hX9]; exact own_far HI8.out (fun g hg => by have := HN5.out g hg; omega))
      have HPW := Lib.hid (show X9.ownsRow b2 3 1 (.slice a8 1 c8) 1 [.int .i64 nx] from by rw [hX9]; exact own_far HO8.out hn8)
      have HS9 := Lib.hid (show Box5 X9 w.heap.size 28 (.slice a5 1 c5) (.slice a8 1 c8) (.int .i64 fi) (.int .i64 nx) (.int .i64 dr) from by rw [hX9]; exact HS9.out)
      have HR9 := Lib.hid (show Box5 X9 (w.heap.size + 1) 28 (.slice none 0 0) (.slice none 0 0) (.int .i64 0) (.int .i64 0) (.int .i64 0) from by rw [hX9]; exact HR8.out.other (by omega) _ _)
      have HT9 := Lib.hid (show Touch b1 w.heap.size w X9 from by rw [hX9]; exact HT8.out.far (Nat.le_refl _))
      have HPN := Lib.hid (show ∀ g, (Value.slice a8 1 c8).ownBlock = some g → g ≠ w.heap.size ∧ g ≠ w.heap.size + 1 from fun g hg => by
        rcases HW8.out with e | ⟨g', e, hle⟩
        · rw [e] at hg; first | (have := ob hg; omega) | (simp [Value.ownBlock] at hg; done)
        · rw [e] at hg; obtain rfl := Option.some.inj hg; omega)
      rw [← hX9]
      clear hX9 q0 q1 q2 q3 q4 f1 HS7 HS8 HR7 HR8 HO7 HO8 HI8 HP7 HT7 HT8 HW8 hn8 hn58 SQ HLIT
      obtain ⟨q0, q1, q2, q3, q4⟩ := HS9.out.cells
      have f9 := HS9.out.free
      obtain ⟨e0, e1, e2, e3, e4⟩ := HR9.out.cells
      have g9 := HR9.out.free
      have hrl9 := HR9.out.lt
      have hww : IntKind.i64.wrap (nx + 1) = nx + 1 := IntWalk.i64_in _ ⟨by omega, by omega⟩
      go_wp2_with fail
      refine bodyPost_ret (by simp [results, Tryz.results69, go_sem, *]; try rfl) rfl ?_
      obtain ⟨Y, hY⟩ : ∃ Y, Y = X9.setCell ⟨w.heap.size, 3, none⟩ (.int .i64 (nx + 1)) := ⟨_, rfl⟩
      have a1 : Y.ownsRow b1 3 1 (.slice a5 1 c5) 1 [.int .i64 x] := by rw [hY]; exact own_far HRW.out (fun g hg => by have := HN5.out g hg; omega)
      have a2 : Y.ownsRow b2 3 1 (.slice a8 1 c8) 1 [.int .i64 nx] := by rw [hY]; exact own_far HPW.out (fun g hg => (HPN.out g hg).1)
      have a3 : Touch b1 w.heap.size w Y := by rw [hY]; exact HT9.out.far (Nat.le_refl _)
      have hYs : w.heap.size + 1 < Y.heap.size := by rw [hY]; simpa [World.setCell] using hrl9
      rw [← hY]
      exact po_fin0 hb HN58.out (fun g hg => by have := HN5.out g hg; omega) (fun g hg => (HPN.out g hg).2) a1 a2 a3 (by omega) hYs _ _ _ _ _
    · go_simp
      obtain ⟨X7, hX7⟩ : ∃ X7, X7 = (X6.alloc (.cells #[.int .i64 nx] 3)).drew := ⟨_, rfl⟩
      have hbn : Below X6.heap.size X6 X7 := by rw [hX7]; exact ((Below.refl _ _).alloc (Nat.le_refl _) _).drew
      have hs7 : X7.heap.size = X6.heap.size + 1 := by rw [hX7]; simp [World.drew]
      have HS7 := Lib.hid (HS6.out.call hbn)
      have HR7 := Lib.hid (HR6.out.call hbn)
      have HO7 := Lib.hid (HO6.out.kept (Below.grownNone hbn none) (by cases hv : (Value.slice a5 1 c5).ownBlock <;> simp))
      have HP7 := Lib.hid (HP6.out.kept (Below.grownNone hbn none) (by cases hv : (Value.slice none 0 0).ownBlock <;> simp))
      have HT7 := Lib.hid (HT6.out.call hbn)
      have HLIT := Lib.hid (show ∀ j u, ([Value.int .i64 nx])[j]? = some u → X7.cell? ((⟨X6.heap.size, 0, none⟩ : Addr).add j) = some u from by rw [hX7]; exact cell_one_new X6 (.int .i64 nx) 3)
      rw [← hX7]
      clear hX7 hbn HS6 HR6 HO6 HP6 HT6
      (try dsimp only)
      refine hK.out _ _ (by exact SQ.out _ _ HS7.out) (fun hHeld => ?_)
      clear hK K
      (try simp only [Act.put, zq1, zq2, zq3, zq4, zq5, zq6])
      refine wpAnyH_ready (rs := [1]) (by kernel_rfl) (by simp) ?_
      refine AllReadyH.cons rfl (fun K hK => ?_) AllReadyH.nil
      obtain ⟨q0, q1, q2, q3, q4⟩ := HS7.out.cells
      go_simp
      clear q0 q1 q2 q3 q4
      (try dsimp only)
      refine hK.out _ _ (by exact SQ.out _ _ HS7.out) (fun hHeld => ?_)
      clear hK K
      (try simp only [Act.put, zq1, zq2, zq3, zq4, zq5, zq6])
      refine zqt 3 ?_ ?_ (by assumption) ?_; rotate_left; (intro X hSw; (try dsimp only at hSw); go_simp; (try with_reducible rfl)); (try simp only [Act.put, zq1, zq2, zq3, zq4, zq5, zq6])
      refine wpAnyH_ready (rs := [7]) (by kernel_rfl) (by simp) ?_
      refine AllReadyH.cons rfl (fun K hK => ?_) AllReadyH.nil
      go_must (refine step_append_whered (by rfl) (.tmp 44) (.tmp 47) 26 (by rfl) b2 3 i0 (.int .i64 0) 1 8 Tryz.underlying26 hi0 hz0 hz1 hz2 rfl (by decide) (.slice none 0 0) 0 [] (by rfl) HP7.out ⟨X6.heap.size, 0, none⟩ 1 1 [.int .i64 nx] (by rfl) (by rfl) HLIT.out (ints_oneCell .i64 [nx]) (by unfold maxLen; omega) (by omega) (by omega) ?_)
      intro v8 w8 hown8 hgrow8 hwhere8
      obtain ⟨a8, c8, rfl⟩ := slice_own hown8
      have hs8 := hgrow8.size
      have HO8 := Lib.hid hown8
      have HW8 := Lib.hid hwhere8
      have HS8 := Lib.hid (HS7.out.grown hgrow8 (fun e => by first | (have := ob e; omega) | (simp [Value.ownBlock] at e; done)))
      have HR8 := Lib.hid (HR7.out.grown hgrow8 (fun e => by first | (have := ob e; omega) | (simp [Value.ownBlock] at e; done)))
      have HI8 := Lib.hid (HO7.out.kept hgrow8 (by cases hv : (Value.slice a5 1 c5).ownBlock with | none => exact .inl rfl | some g => exact .inr (fun e => by have := HN5.out g hv; first | (have := ob e.symm; omega) | (simp [Value.ownBlock] at e; done))))
      have HT8 := Lib.hid (HT7.out.trans (show Touch b1 w.heap.size X7 w8 from Touch.of hgrow8 (fun g hg => by first | (have := ob hg; omega) | (simp [Value.ownBlock] at hg; done))))
      clear hown8 hgrow8 hwhere8
      (try dsimp only)
      refine hK.out _ _ (by exact SQ.out _ _ HS8.out) (fun hHeld => ?_)
      clear hK K
      (try simp only [Act.put, zq1, zq2, zq3, zq4, zq5, zq6])
      refine zqt 8 ?_ ?_ (by assumption) ?_; rotate_left; (intro X hSw; (try dsimp only at hSw); go_simp; (try with_reducible rfl)); (try simp only [Act.put, zq1, zq2, zq3, zq4, zq5, zq6])
      refine wpAnyH_ready (rs := [9]) (by kernel_rfl) (by simp) ?_
      refine AllReadyH.cons rfl (fun K hK => ?_) AllReadyH.nil
      have f1 := HS8.out.free 1
      obtain ⟨q0, q1, q2, q3, q4⟩ := HS8.out.cells
      go_simp
      have HS9 := Lib.hid (HS8.out.set1 (.slice a8 1 c8))
      (try dsimp only)
      refine hK.out _ _ (by exact SQ.out _ _ HS9.out) (fun hHeld => ?_)
      clear hK K
      (try simp only [Act.put, zq1, zq2, zq3, zq4, zq5, zq6])
      refine wpAnyH_done (by kernel_rfl) ?_ _
      obtain ⟨X9, hX9⟩ : ∃ X9, X9 = w8.setCell ⟨w.heap.size, 1, none⟩ (.slice a8 1 c8) := ⟨_, rfl⟩
      have hn8 : ∀ g, (Value.slice a8 1 c8).ownBlock = some g → g ≠ w.heap.size := fun g hg => by
        rcases HW8.out with e | ⟨g', e, hle⟩
        · rw [e] at hg; first | (have := ob hg; omega) | (simp [Value.ownBlock] at hg; done)
        · rw [e] at hg; obtain rfl := Option.some.inj hg; omega
      have hn58 : (Value.slice a5 1 c5).ownBlock = none ∨ (Value.slice a5 1 c5).ownBlock ≠ (Value.slice a8 1 c8).ownBlock := by
        cases hv : (Value.slice a5 1 c5).ownBlock with
        | none => exact .inl rfl
        | some g =>
          refine .inr (fun e => ?_)
          have h5 := (HO7.out.lt g hv).2
          rcases HW8.out with e' | ⟨g', e', hle⟩
          · rw [e'] at e
            have := HN5.out g hv
            first | (have := ob e.symm; omega) | (simp [Value.ownBlock] at e; done)
          · rw [e'] at e; obtain rfl := Option.some.inj e; omega
      have HN58 := Lib.hid hn58
      have HRW := Lib.hid (show X9.ownsRow b1 3 1 (.slice a5 1 c5) 1 [.int .i64 x] from by rw [hX9]; exact own_far HI8.out (fun g hg => by have := HN5.out g hg; omega))
      have HPW := Lib.hid (show X9.ownsRow b2 3 1 (.slice a8 1 c8) 1 [.int .i64 nx] from by rw [hX9]; exact own_far HO8.out hn8)
      have HS9 := Lib.hid (show Box5 X9 w.heap.size 28 (.slice a5 1 c5) (.slice a8 1 c8) (.int .i64 fi) (.int .i64 nx) (.int .i64 dr) from by rw [hX9]; exact HS9.out)
      have HR9 := Lib.hid (show Box5 X9 (w.heap.size + 1) 28 (.slice none 0 0) (.slice none 0 0) (.int .i64 0) (.int .i64 0) (.int .i64 0) from by rw [hX9]; exact HR8.out.other (by omega) _ _)
      have HT9 := Lib.hid (show Touch b1 w.heap.size w X9 from by rw [hX9]; exact HT8.out.far (Nat.le_refl _))
      have HPN := Lib.hid (show ∀ g, (Value.slice a8 1 c8).ownBlock = some g → g ≠ w.heap.size ∧ g ≠ w.heap.size + 1 from fun g hg => by
        rcases HW8.out with e | ⟨g', e, hle⟩
        · rw [e] at hg; first | (have := ob hg; omega) | (simp [Value.ownBlock] at hg; done)
        · rw [e] at hg; obtain rfl := Option.some.inj hg; omega)
      rw [← hX9]
      clear hX9 q0 q1 q2 q3 q4 f1 HS7 HS8 HR7 HR8 HO7 HO8 HI8 HP7 HT7 HT8 HW8 hn8 hn58 SQ HLIT
      obtain ⟨q0, q1, q2, q3, q4⟩ := HS9.out.cells
      have f9 := HS9.out.free
      obtain ⟨e0, e1, e2, e3, e4⟩ := HR9.out.cells
      have g9 := HR9.out.free
      have hrl9 := HR9.out.lt
      have hww : IntKind.i64.wrap (nx + 1) = nx + 1 := IntWalk.i64_in _ ⟨by omega, by omega⟩
      go_wp2_with fail
      refine bodyPost_ret (by simp [results, Tryz.results69, go_sem, *]; try rfl) rfl ?_
      obtain ⟨Y, hY⟩ : ∃ Y, Y = X9.setCell ⟨w.heap.size, 3, none⟩ (.int .i64 (nx + 1)) := ⟨_, rfl⟩
      have a1 : Y.ownsRow b1 3 1 (.slice a5 1 c5) 1 [.int .i64 x] := by rw [hY]; exact own_far HRW.out (fun g hg => by have := HN5.out g hg; omega)
      have a2 : Y.ownsRow b2 3 1 (.slice a8 1 c8) 1 [.int .i64 nx] := by rw [hY]; exact own_far HPW.out (fun g hg => (HPN.out g hg).1)
      have a3 : Touch b1 w.heap.size w Y := by rw [hY]; exact HT9.out.far (Nat.le_refl _)
      have hYs : w.heap.size + 1 < Y.heap.size := by rw [hY]; simpa [World.setCell] using hrl9
      rw [← hY]
      exact po_fin0 hb HN58.out (fun g hg => by have := HN5.out g hg; omega) (fun g hg => (HPN.out g hg).2) a1 a2 a3 (by omega) hYs _ _ _ _ _

set_option maxRecDepth 8000 in
set_option maxHeartbeats 4000000 in
theorem pushOver_ns {k : Int} {T fl : Nat} (O : OrdAt k T fl) (b1 b2 g1 ic g2 pc : Nat) (fi nx dr x : Int) (w : World)
    (hI : w.ownsRow b1 3 1 (.slice none 0 0) 0 []) (hP : w.ownsRow b2 3 1 (.slice (some ⟨g2, 0, none⟩) 0 pc) 0 []) (hlt : ∀ g, (Value.slice none 0 0).ownBlock = some g → g < b2) (hb : b1 ≤ b2) (hb2 : b2 ≤ w.heap.size)
    (hx0 : 0 ≤ nx) (hx1 : nx ≤ 900000) :
    Calls Tryz.prog 69 #[.iface T (.agg #[]), .agg #[.slice none 0 0, .slice (some ⟨g2, 0, none⟩) 0 pc, .int .i64 fi, .int .i64 nx, .int .i64 dr], .int .i64 x] w (PoFin b1 (Agg.pushD k ⟨[], [], fi, nx, dr⟩ x) w) := by
  obtain ⟨i0, hi0, hz0, hz1, hz2⟩ := info_parts infoInt
  have HFB := Lib.hid (show (∀ g, (Value.slice none 0 0).ownBlock = some g → b1 ≤ g ∧ g < b2) ∧ (∀ g, (Value.slice (some ⟨g2, 0, none⟩) 0 pc).ownBlock = some g → b2 ≤ g ∧ g < w.heap.size) from ⟨fun g hg => ⟨(hI.lt g hg).1, hlt g hg⟩, fun g hg => hP.lt g hg⟩)
  obtain ⟨hb2g, hg2w⟩ := HFB.out.2 g2 rfl
  have HI := Lib.hid hI
  have HP := Lib.hid hP
  have HLT := Lib.hid hlt
  obtain ⟨W, hW⟩ : ∃ W, W = (w.alloc (.cells #[.slice none 0 0, .slice (some ⟨g2, 0, none⟩) 0 pc, .int .i64 fi, .int .i64 nx, .int .i64 dr] 28)).alloc (.cells #[.slice none 0 0, .slice none 0 0, .int .i64 0, .int .i64 0, .int .i64 0] 28) := ⟨_, rfl⟩
  have HS := Lib.hid (show Box5 W w.heap.size 28 (.slice none 0 0) (.slice (some ⟨g2, 0, none⟩) 0 pc) (.int .i64 fi) (.int .i64 nx) (.int .i64 dr) from by rw [hW]; exact (Box5.new w _ _ _ _ _ _).alloc _)
  have HR := Lib.hid (show Box5 W (w.heap.size + 1) 28 (.slice none 0 0) (.slice none 0 0) (.int .i64 0) (.int .i64 0) (.int .i64 0) from by rw [hW]; exact Box5.new1 _ _ _ _ _ _ (by simp))
  have HB := Lib.hid (show Below w.heap.size w W from by rw [hW]; exact ((Below.refl _ _).alloc (Nat.le_refl _) _).alloc (by simp) _)
  clear hI hP hlt O
  go_enter Tryz.func69, Tryz.ntmps69
  go_upto_region 1 with (fail)
  rw [← hW]
  clear hW
  obtain ⟨q0, q1, q2, q3, q4⟩ := HS.out.cells
  go_wp2_with fail
  clear q0 q1 q2 q3 q4
  go_loopw [7] (fun kv wr => kv = .int .i64 0 ∧ Hid (Box5 wr w.heap.size 28 (.slice none 0 0) (.slice (some ⟨g2, 0, none⟩) 0 pc) (.int .i64 fi) (.int .i64 nx) (.int .i64 dr)) ∧ Hid (Box5 wr (w.heap.size + 1) 28 (.slice none 0 0) (.slice none 0 0) (.int .i64 0) (.int .i64 0) (.int .i64 0)) ∧ Hid (Below w.heap.size w wr)) (fun kv _ => 0)
  case atStart => exact ⟨rfl, HS, HR, HB⟩
  case round =>
    obtain ⟨rfl, hs, hr, hw⟩ := hrel
    clear HS HR HB
    obtain ⟨q0, q1, q2, q3, q4⟩ := hs.out.cells
    go_wp2_with fail
    refine wp_region_held_drew (S := (fun X => X.cell? ⟨w.heap.size, 0, none⟩ = some (.slice none 0 0))) (by kernel_rfl) (by assumption) (fun hHeld => ?_)
    refine zqt 0 ?_ ?_ (by assumption) ?_; rotate_left; (intro X hSw; (try dsimp only at hSw); go_simp; (try with_reducible rfl)); (try simp only [Act.put, zq1, zq2, zq3, zq4, zq5, zq6])
    refine zqt 1 ?_ ?_ (by assumption) ?_; rotate_left; (intro X hSw; (try dsimp only at hSw); go_simp; (try with_reducible rfl)); (try simp only [Act.put, zq1, zq2, zq3, zq4, zq5, zq6])
    refine zqt 2 ?_ ?_ (by assumption) ?_; rotate_left; (intro X hSw; (try dsimp only at hSw); go_simp; (try with_reducible rfl)); (try simp only [Act.put, zq1, zq2, zq3, zq4, zq5, zq6])
    first | (refine wpAnyH_take (i := 3) (v := undef) rfl (by kernel_rfl) (by kernel_rfl) (by kernel_rfl) (fun _ _ _ h => h) (Or.inr ⟨by rfl, rfl⟩) (by assumption) ?_; (try simp only [Act.put, zq1, zq2, zq3, zq4, zq5, zq6])) | fail "skip 3"
    first | (refine wpAnyH_take (i := 4) (v := undef) rfl (by kernel_rfl) (by kernel_rfl) (by kernel_rfl) (fun _ _ _ h => h) (Or.inr ⟨by rfl, rfl⟩) (by assumption) ?_; (try simp only [Act.put, zq1, zq2, zq3, zq4, zq5, zq6])) | fail "skip 4"
    first | (refine wpAnyH_take (i := 5) (v := undef) rfl (by kernel_rfl) (by kernel_rfl) (by kernel_rfl) (fun _ _ _ h => h) (Or.inr ⟨by rfl, rfl⟩) (by assumption) ?_; (try simp only [Act.put, zq1, zq2, zq3, zq4, zq5, zq6])) | fail "skip 5"
    first | (refine wpAnyH_take (i := 6) (v := undef) rfl (by kernel_rfl) (by kernel_rfl) (by kernel_rfl) (fun _ _ _ h => h) (Or.inr ⟨by rfl, rfl⟩) (by assumption) ?_; (try simp only [Act.put, zq1, zq2, zq3, zq4, zq5, zq6])) | fail "skip 6"
    first | (refine wpAnyH_take (i := 7) (v := undef) rfl (by kernel_rfl) (by kernel_rfl) (by kernel_rfl) (fun _ _ _ h => h) (Or.inr ⟨by rfl, rfl⟩) (by assumption) ?_; (try simp only [Act.put, zq1, zq2, zq3, zq4, zq5, zq6])) | fail "skip 7"
    first | (refine wpAnyH_take (i := 8) (v := undef) rfl (by kernel_rfl) (by kernel_rfl) (by kernel_rfl) (fun _ _ _ h => h) (Or.inr ⟨by rfl, rfl⟩) (by assumption) ?_; (try simp only [Act.put, zq1, zq2, zq3, zq4, zq5, zq6])) | fail "skip 8"
    first | (refine wpAnyH_take (i := 9) (v := undef) rfl (by kernel_rfl) (by kernel_rfl) (by kernel_rfl) (fun _ _ _ h => h) (Or.inr ⟨by rfl, rfl⟩) (by assumption) ?_; (try simp only [Act.put, zq1, zq2, zq3, zq4, zq5, zq6])) | fail "skip 9"
    first | (refine wpAnyH_take (i := 10) (v := undef) rfl (by kernel_rfl) (by kernel_rfl) (by kernel_rfl) (fun _ _ _ h => h) (Or.inr ⟨by rfl, rfl⟩) (by assumption) ?_; (try simp only [Act.put, zq1, zq2, zq3, zq4, zq5, zq6])) | fail "skip 10"
    first | (refine wpAnyH_take (i := 11) (v := undef) rfl (by kernel_rfl) (by kernel_rfl) (by kernel_rfl) (fun _ _ _ h => h) (Or.inr ⟨by rfl, rfl⟩) (by assumption) ?_; (try simp only [Act.put, zq1, zq2, zq3, zq4, zq5, zq6])) | fail "skip 11"
    first | (refine wpAnyH_take (i := 12) (v := undef) rfl (by kernel_rfl) (by kernel_rfl) (by kernel_rfl) (fun _ _ _ h => h) (Or.inr ⟨by rfl, rfl⟩) (by assumption) ?_; (try simp only [Act.put, zq1, zq2, zq3, zq4, zq5, zq6])) | fail "skip 12"
    first | (refine wpAnyH_take (i := 13) (v := undef) rfl (by kernel_rfl) (by kernel_rfl) (by kernel_rfl) (fun _ _ _ h => h) (Or.inr ⟨by rfl, rfl⟩) (by assumption) ?_; (try simp only [Act.put, zq1, zq2, zq3, zq4, zq5, zq6])) | fail "skip 13"
    first | (refine wpAnyH_take (i := 14) (v := undef) rfl (by kernel_rfl) (by kernel_rfl) (by kernel_rfl) (fun _ _ _ h => h) (Or.inr ⟨by rfl, rfl⟩) (by assumption) ?_; (try simp only [Act.put, zq1, zq2, zq3, zq4, zq5, zq6])) | fail "skip 14"
    refine zqt 15 ?_ ?_ (by assumption) ?_; rotate_left; (intro X hSw; (try dsimp only at hSw); go_simp; (try with_reducible rfl)); (try simp only [Act.put, zq1, zq2, zq3, zq4, zq5, zq6])
    refine wpAnyH_done (by kernel_rfl) ?_ _
    obtain ⟨X3, hX3⟩ : ∃ X3, X3 = wr.drew := ⟨_, rfl⟩
    have HS3 := Lib.hid (show Box5 X3 w.heap.size 28 (.slice none 0 0) (.slice (some ⟨g2, 0, none⟩) 0 pc) (.int .i64 fi) (.int .i64 nx) (.int .i64 dr) from by rw [hX3]; exact hs.out)
    have HR3 := Lib.hid (show Box5 X3 (w.heap.size + 1) 28 (.slice none 0 0) (.slice none 0 0) (.int .i64 0) (.int .i64 0) (.int .i64 0) from by rw [hX3]; exact hr.out)
    have HB3 := Lib.hid (show Below w.heap.size w X3 from by rw [hX3]; exact hw.out.drew)
    rw [← hX3]
    clear hX3 hs hr hw q0 q1 q2 q3 q4 hHeld
    have hsx := HB3.out.size
    have hsl := HS3.out.lt
    have hrl := HR3.out.lt
    have HI3 := Lib.hid (HI.out.kept (Below.grownNone HB3.out none) (by cases hv : (Value.slice none 0 0).ownBlock <;> simp))
    have HP3 := Lib.hid (HP.out.kept (Below.grownNone HB3.out none) (by cases hv : (Value.slice (some ⟨g2, 0, none⟩) 0 pc).ownBlock <;> simp))
    have HPG := Lib.hid (fun g (hg : (Value.slice (some ⟨g2, 0, none⟩) 0 pc).ownBlock = some g) => HP.out.lt g hg)
    have HPI := Lib.hid (HI3.out)
    have HPP := Lib.hid (HP3.out)
    obtain ⟨q0, q1, q2, q3, q4⟩ := HS3.out.cells
    go_upto_region 6 with (
      at_builtin
      go_must (refine wpList_append_where rfl (.tmp 36) (.tmp 38) 26 rfl b1 3 i0 (.int .i64 0) 1 8 Tryz.underlying26 hi0 hz0 hz1 hz2 rfl (by decide) (.slice none 0 0) 0 [] rfl (HPI.out.alloc _) ⟨X3.heap.size, 0, none⟩ 1 1 [.int .i64 x] rfl rfl (cell_one_new _ _ _) (ints_oneCell .i64 [x]) (by unfold maxLen; omega) (by omega) (by simp; omega) ?_)
      go_loud (
        intro v5 w5 hown5 hgrow5 hwhere5
        obtain ⟨a5, c5, rfl⟩ := slice_own hown5
        have HO5 := Lib.hid hown5
        have HG5 := Lib.hid hgrow5
        have HW5 := Lib.hid hwhere5
        have HS5 := Lib.hid ((HS3.out.alloc (.cells #[.int .i64 x] 3)).grown hgrow5 (fun e => by first | (have := ob e; omega) | (simp [Value.ownBlock] at e; done)))
        have HR5 := Lib.hid ((HR3.out.alloc (.cells #[.int .i64 x] 3)).grown hgrow5 (fun e => by first | (have := ob e; omega) | (simp [Value.ownBlock] at e; done)))
        have HP5 := Lib.hid ((HPP.out.alloc (.cells #[.int .i64 x] 3)).kept hgrow5 (by cases hv : (Value.slice (some ⟨g2, 0, none⟩) 0 pc).ownBlock with | none => exact .inl rfl | some g => exact .inr (fun e => by first | (have := ob e.symm; have := ob hv; omega) | (simp [Value.ownBlock] at hv; done) | (simp [Value.ownBlock] at e; done))))
        have f0 := HS5.out.free 0
        obtain ⟨q0, q1, q2, q3, q4⟩ := HS5.out.cells
        clear hown5 hgrow5 hwhere5))
    have hs5 : X3.heap.size + 1 ≤ w5.heap.size := by have := HG5.out.size; simpa using this
    have HN5 := Lib.hid (show ∀ g, (Value.slice a5 1 c5).ownBlock = some g → g < b2 ∨ X3.heap.size ≤ g from fun g hg => by
      rcases HW5.out with e | ⟨g', e, hle⟩
      · exact .inl (by rw [e] at hg; first | (have := ob hg; omega) | (simp [Value.ownBlock] at hg; done))
      · rw [e] at hg; obtain rfl := Option.some.inj hg; simp at hle; exact .inr (by omega))
    obtain ⟨X6, hX6⟩ : ∃ X6, X6 = w5.setCell ⟨w.heap.size, 0, none⟩ (.slice a5 1 c5) := ⟨_, rfl⟩
    have HS6 := Lib.hid (show Box5 X6 w.heap.size 28 (.slice a5 1 c5) (.slice (some ⟨g2, 0, none⟩) 0 pc) (.int .i64 fi) (.int .i64 nx) (.int .i64 dr) from by rw [hX6]; exact HS5.out.set0 _)
    have HR6 := Lib.hid (show Box5 X6 (w.heap.size + 1) 28 (.slice none 0 0) (.slice none 0 0) (.int .i64 0) (.int .i64 0) (.int .i64 0) from by rw [hX6]; exact HR5.out.other (by omega) _ _)
    have HO6 := Lib.hid (show X6.ownsRow b1 3 1 (.slice a5 1 c5) 1 [.int .i64 x] from by
      rw [hX6]
      exact own_far HO5.out (fun g hg => by have := HN5.out g hg; omega))
    have HP6 := Lib.hid (show X6.ownsRow b2 3 1 (.slice (some ⟨g2, 0, none⟩) 0 pc) 0 [] from by
      rw [hX6]
      exact own_far HP5.out (fun g hg => by first | (have := ob hg; omega) | (simp [Value.ownBlock] at hg; done)))
    have HT6 := Lib.hid (show Touch b1 w.heap.size w X6 from by
      rw [hX6]
      exact Touch.far ((((Touch.refl b1 w.heap.size w).call HB3.out).call ((Below.refl X3.heap.size X3).alloc (Nat.le_refl _) _)).trans (Touch.of HG5.out (fun g hg => by first | (have := ob hg; omega) | (simp [Value.ownBlock] at hg; done)))) (Nat.le_refl _))
    have hs6 : X3.heap.size + 1 ≤ X6.heap.size := by rw [hX6]; simpa [World.setCell] using hs5
    rw [← hX6]
    clear hX6 q0 q1 q2 q3 q4 f0 HS5 HR5 HP5 HO5 HG5 HW5 HPI HPP HI3 HP3 HS3 HR3 HB3
    obtain ⟨q0, q1, q2, q3, q4⟩ := HS6.out.cells
    have SQ := Lib.hid (show ∀ (X : World) (v : Value), Box5 X w.heap.size 28 (.slice a5 1 c5) v (.int .i64 fi) (.int .i64 nx) (.int .i64 dr) → X.cell? ⟨w.heap.size, 3, none⟩ = some (.int .i64 nx) from fun X v h => h.cells.2.2.2.1)
    refine wp_region_held_drew (S := (fun X => X.cell? ⟨w.heap.size, 3, none⟩ = some (.int .i64 nx))) (by kernel_rfl) (by exact q3) (fun hHeld => ?_)
    clear q0 q1 q2 q3 q4
    refine zqt 0 ?_ ?_ (by assumption) ?_; rotate_left; (intro X hSw; (try dsimp only at hSw); go_simp; (try with_reducible rfl)); (try simp only [Act.put, zq1, zq2, zq3, zq4, zq5, zq6])
    refine zqt 2 ?_ ?_ (by assumption) ?_; rotate_left; (intro X hSw; (try dsimp only at hSw); go_simp; (try with_reducible rfl)); (try simp only [Act.put, zq1, zq2, zq3, zq4, zq5, zq6])
    refine zqt 4 ?_ ?_ (by assumption) ?_; rotate_left; (intro X hSw; (try dsimp only at hSw); go_simp; (try with_reducible rfl)); (try simp only [Act.put, zq1, zq2, zq3, zq4, zq5, zq6])
    refine zqt 5 ?_ ?_ (by assumption) ?_; rotate_left; (intro X hSw; (try dsimp only at hSw); go_simp; (try with_reducible rfl)); (try simp only [Act.put, zq1, zq2, zq3, zq4, zq5, zq6])
    refine wpAnyH_ready (rs := [1, 6]) (by kernel_rfl) (by simp) ?_
    refine AllReadyH.cons rfl (fun K hK => ?_) (AllReadyH.cons rfl (fun K hK => ?_) AllReadyH.nil)

    · obtain ⟨q0, q1, q2, q3, q4⟩ := HS6.out.cells
      go_simp
      clear q0 q1 q2 q3 q4
      (try dsimp only)
      refine hK.out _ _ (by exact SQ.out _ _ HS6.out) (fun hHeld => ?_)
      clear hK K
      (try simp only [Act.put, zq1, zq2, zq3, zq4, zq5, zq6])
      refine zqt 3 ?_ ?_ (by assumption) ?_; rotate_left; (intro X hSw; (try dsimp only at hSw); go_simp; (try with_reducible rfl)); (try simp only [Act.put, zq1, zq2, zq3, zq4, zq5, zq6])
      refine wpAnyH_ready (rs := [6]) (by kernel_rfl) (by simp) ?_
      refine AllReadyH.cons rfl (fun K hK => ?_) AllReadyH.nil
      go_simp
      obtain ⟨X7, hX7⟩ : ∃ X7, X7 = (X6.alloc (.cells #[.int .i64 nx] 3)).drew := ⟨_, rfl⟩
      have hbn : Below X6.heap.size X6 X7 := by rw [hX7]; exact ((Below.refl _ _).alloc (Nat.le_refl _) _).drew
      have hs7 : X7.heap.size = X6.heap.size + 1 := by rw [hX7]; simp [World.drew]
      have HS7 := Lib.hid (HS6.out.call hbn)
      have HR7 := Lib.hid (HR6.out.call hbn)
      have HO7 := Lib.hid (HO6.out.kept (Below.grownNone hbn none) (by cases hv : (Value.slice a5 1 c5).ownBlock <;> simp))
      have HP7 := Lib.hid (HP6.out.kept (Below.grownNone hbn none) (by cases hv : (Value.slice (some ⟨g2, 0, none⟩) 0 pc).ownBlock <;> simp))
      have HT7 := Lib.hid (HT6.out.call hbn)
      have HLIT := Lib.hid (show ∀ j u, ([Value.int .i64 nx])[j]? = some u → X7.cell? ((⟨X6.heap.size, 0, none⟩ : Addr).add j) = some u from by rw [hX7]; exact cell_one_new X6 (.int .i64 nx) 3)
      rw [← hX7]
      clear hX7 hbn HS6 HR6 HO6 HP6 HT6
      (try dsimp only)
      refine hK.out _ _ (by exact SQ.out _ _ HS7.out) (fun hHeld => ?_)
      clear hK K
      (try simp only [Act.put, zq1, zq2, zq3, zq4, zq5, zq6])
      refine wpAnyH_ready (rs := [7]) (by kernel_rfl) (by simp) ?_
      refine AllReadyH.cons rfl (fun K hK => ?_) AllReadyH.nil
      go_must (refine step_append_whered (by rfl) (.tmp 44) (.tmp 47) 26 (by rfl) b2 3 i0 (.int .i64 0) 1 8 Tryz.underlying26 hi0 hz0 hz1 hz2 rfl (by decide) (.slice (some ⟨g2, 0, none⟩) 0 pc) 0 [] (by rfl) HP7.out ⟨X6.heap.size, 0, none⟩ 1 1 [.int .i64 nx] (by rfl) (by rfl) HLIT.out (ints_oneCell .i64 [nx]) (by unfold maxLen; omega) (by omega) (by omega) ?_)
      intro v8 w8 hown8 hgrow8 hwhere8
      obtain ⟨a8, c8, rfl⟩ := slice_own hown8
      have hs8 := hgrow8.size
      have HO8 := Lib.hid hown8
      have HW8 := Lib.hid hwhere8
      have HS8 := Lib.hid (HS7.out.grown hgrow8 (fun e => by first | (have := ob e; omega) | (simp [Value.ownBlock] at e; done)))
      have HR8 := Lib.hid (HR7.out.grown hgrow8 (fun e => by first | (have := ob e; omega) | (simp [Value.ownBlock] at e; done)))
      have HI8 := Lib.hid (HO7.out.kept hgrow8 (by cases hv : (Value.slice a5 1 c5).ownBlock with | none => exact .inl rfl | some g => exact .inr (fun e => by have := HN5.out g hv; first | (have := ob e.symm; omega) | (simp [Value.ownBlock] at e; done))))
      have HT8 := Lib.hid (HT7.out.trans (show Touch b1 w.heap.size X7 w8 from Touch.of hgrow8 (fun g hg => by first | (have := ob hg; omega) | (simp [Value.ownBlock] at hg; done))))
      clear hown8 hgrow8 hwhere8
      (try dsimp only)
      refine hK.out _ _ (by exact SQ.out _ _ HS8.out) (fun hHeld => ?_)
      clear hK K
      (try simp only [Act.put, zq1, zq2, zq3, zq4, zq5, zq6])
      refine zqt 8 ?_ ?_ (by assumption) ?_; rotate_left; (intro X hSw; (try dsimp only at hSw); go_simp; (try with_reducible rfl)); (try simp only [Act.put, zq1, zq2, zq3, zq4, zq5, zq6])
      refine wpAnyH_ready (rs := [9]) (by kernel_rfl) (by simp) ?_
      refine AllReadyH.cons rfl (fun K hK => ?_) AllReadyH.nil
      have f1 := HS8.out.free 1
      obtain ⟨q0, q1, q2, q3, q4⟩ := HS8.out.cells
      go_simp
      have HS9 := Lib.hid (HS8.out.set1 (.slice a8 1 c8))
      (try dsimp only)
      refine hK.out _ _ (by exact SQ.out _ _ HS9.out) (fun hHeld => ?_)
      clear hK K
      (try simp only [Act.put, zq1, zq2, zq3, zq4, zq5, zq6])
      refine wpAnyH_done (by kernel_rfl) ?_ _
      obtain ⟨X9, hX9⟩ : ∃ X9, X9 = w8.setCell ⟨w.heap.size, 1, none⟩ (.slice a8 1 c8) := ⟨_, rfl⟩
      have hn8 : ∀ g, (Value.slice a8 1 c8).ownBlock = some g → g ≠ w.heap.size := fun g hg => by
        rcases HW8.out with e | ⟨g', e, hle⟩
        · rw [e] at hg; first | (have := ob hg; omega) | (simp [Value.ownBlock] at hg; done)
        · rw [e] at hg; obtain rfl := Option.some.inj hg; omega
      have hn58 : (Value.slice a5 1 c5).ownBlock = none ∨ (Value.slice a5 1 c5).ownBlock ≠ (Value.slice a8 1 c8).ownBlock := by
        cases hv : (Value.slice a5 1 c5).ownBlock with
        | none => exact .inl rfl
        | some g =>
          refine .inr (fun e => ?_)
          have h5 := (HO7.out.lt g hv).2
          rcases HW8.out with e' | ⟨g', e', hle⟩
          · rw [e'] at e
            have := HN5.out g hv
            first | (have := ob e.symm; omega) | (simp [Value.ownBlock] at e; done)
          · rw [e'] at e; obtain rfl := Option.some.inj e; omega
      have HN58 := Lib.hid hn58
      have HRW := Lib.hid (show X9.ownsRow b1 3 1 (.slice a5 1 c5) 1 [.int .i64 x] from by rw [hX9]; exact own_far HI8.out (fun g hg => by have := HN5.out g hg; omega))
      have HPW := Lib.hid (show X9.ownsRow b2 3 1 (.slice a8 1 c8) 1 [.int .i64 nx] from by rw [hX9]; exact own_far HO8.out hn8)
      have HS9 := Lib.hid (show Box5 X9 w.heap.size 28 (.slice a5 1 c5) (.slice a8 1 c8) (.int .i64 fi) (.int .i64 nx) (.int .i64 dr) from by rw [hX9]; exact HS9.out)
      have HR9 := Lib.hid (show Box5 X9 (w.heap.size + 1) 28 (.slice none 0 0) (.slice none 0 0) (.int .i64 0) (.int .i64 0) (.int .i64 0) from by rw [hX9]; exact HR8.out.other (by omega) _ _)
      have HT9 := Lib.hid (show Touch b1 w.heap.size w X9 from by rw [hX9]; exact HT8.out.far (Nat.le_refl _))
      have HPN := Lib.hid (show ∀ g, (Value.slice a8 1 c8).ownBlock = some g → g ≠ w.heap.size ∧ g ≠ w.heap.size + 1 from fun g hg => by
        rcases HW8.out with e | ⟨g', e, hle⟩
        · rw [e] at hg; first | (have := ob hg; omega) | (simp [Value.ownBlock] at hg; done)
        · rw [e] at hg; obtain rfl := Option.some.inj hg; omega)
      rw [← hX9]
      clear hX9 q0 q1 q2 q3 q4 f1 HS7 HS8 HR7 HR8 HO7 HO8 HI8 HP7 HT7 HT8 HW8 hn8 hn58 SQ HLIT
      obtain ⟨q0, q1, q2, q3, q4⟩ := HS9.out.cells
      have f9 := HS9.out.free
      obtain ⟨e0, e1, e2, e3, e4⟩ := HR9.out.cells
      have g9 := HR9.out.free
      have hrl9 := HR9.out.lt
      have hww : IntKind.i64.wrap (nx + 1) = nx + 1 := IntWalk.i64_in _ ⟨by omega, by omega⟩
      go_wp2_with fail
      refine bodyPost_ret (by simp [results, Tryz.results69, go_sem, *]; try rfl) rfl ?_
      obtain ⟨Y, hY⟩ : ∃ Y, Y = X9.setCell ⟨w.heap.size, 3, none⟩ (.int .i64 (nx + 1)) := ⟨_, rfl⟩
      have a1 : Y.ownsRow b1 3 1 (.slice a5 1 c5) 1 [.int .i64 x] := by rw [hY]; exact own_far HRW.out (fun g hg => by have := HN5.out g hg; omega)
      have a2 : Y.ownsRow b2 3 1 (.slice a8 1 c8) 1 [.int .i64 nx] := by rw [hY]; exact own_far HPW.out (fun g hg => (HPN.out g hg).1)
      have a3 : Touch b1 w.heap.size w Y := by rw [hY]; exact HT9.out.far (Nat.le_refl _)
      have hYs : w.heap.size + 1 < Y.heap.size := by rw [hY]; simpa [World.setCell] using hrl9
      rw [← hY]
      exact po_fin0 hb HN58.out (fun g hg => by have := HN5.out g hg; omega) (fun g hg => (HPN.out g hg).2) a1 a2 a3 (by omega) hYs _ _ _ _ _
    · go_simp
      obtain ⟨X7, hX7⟩ : ∃ X7, X7 = (X6.alloc (.cells #[.int .i64 nx] 3)).drew := ⟨_, rfl⟩
      have hbn : Below X6.heap.size X6 X7 := by rw [hX7]; exact ((Below.refl _ _).alloc (Nat.le_refl _) _).drew
      have hs7 : X7.heap.size = X6.heap.size + 1 := by rw [hX7]; simp [World.drew]
      have HS7 := Lib.hid (HS6.out.call hbn)
      have HR7 := Lib.hid (HR6.out.call hbn)
      have HO7 := Lib.hid (HO6.out.kept (Below.grownNone hbn none) (by cases hv : (Value.slice a5 1 c5).ownBlock <;> simp))
      have HP7 := Lib.hid (HP6.out.kept (Below.grownNone hbn none) (by cases hv : (Value.slice (some ⟨g2, 0, none⟩) 0 pc).ownBlock <;> simp))
      have HT7 := Lib.hid (HT6.out.call hbn)
      have HLIT := Lib.hid (show ∀ j u, ([Value.int .i64 nx])[j]? = some u → X7.cell? ((⟨X6.heap.size, 0, none⟩ : Addr).add j) = some u from by rw [hX7]; exact cell_one_new X6 (.int .i64 nx) 3)
      rw [← hX7]
      clear hX7 hbn HS6 HR6 HO6 HP6 HT6
      (try dsimp only)
      refine hK.out _ _ (by exact SQ.out _ _ HS7.out) (fun hHeld => ?_)
      clear hK K
      (try simp only [Act.put, zq1, zq2, zq3, zq4, zq5, zq6])
      refine wpAnyH_ready (rs := [1]) (by kernel_rfl) (by simp) ?_
      refine AllReadyH.cons rfl (fun K hK => ?_) AllReadyH.nil
      obtain ⟨q0, q1, q2, q3, q4⟩ := HS7.out.cells
      go_simp
      clear q0 q1 q2 q3 q4
      (try dsimp only)
      refine hK.out _ _ (by exact SQ.out _ _ HS7.out) (fun hHeld => ?_)
      clear hK K
      (try simp only [Act.put, zq1, zq2, zq3, zq4, zq5, zq6])
      refine zqt 3 ?_ ?_ (by assumption) ?_; rotate_left; (intro X hSw; (try dsimp only at hSw); go_simp; (try with_reducible rfl)); (try simp only [Act.put, zq1, zq2, zq3, zq4, zq5, zq6])
      refine wpAnyH_ready (rs := [7]) (by kernel_rfl) (by simp) ?_
      refine AllReadyH.cons rfl (fun K hK => ?_) AllReadyH.nil
      go_must (refine step_append_whered (by rfl) (.tmp 44) (.tmp 47) 26 (by rfl) b2 3 i0 (.int .i64 0) 1 8 Tryz.underlying26 hi0 hz0 hz1 hz2 rfl (by decide) (.slice (some ⟨g2, 0, none⟩) 0 pc) 0 [] (by rfl) HP7.out ⟨X6.heap.size, 0, none⟩ 1 1 [.int .i64 nx] (by rfl) (by rfl) HLIT.out (ints_oneCell .i64 [nx]) (by unfold maxLen; omega) (by omega) (by omega) ?_)
      intro v8 w8 hown8 hgrow8 hwhere8
      obtain ⟨a8, c8, rfl⟩ := slice_own hown8
      have hs8 := hgrow8.size
      have HO8 := Lib.hid hown8
      have HW8 := Lib.hid hwhere8
      have HS8 := Lib.hid (HS7.out.grown hgrow8 (fun e => by first | (have := ob e; omega) | (simp [Value.ownBlock] at e; done)))
      have HR8 := Lib.hid (HR7.out.grown hgrow8 (fun e => by first | (have := ob e; omega) | (simp [Value.ownBlock] at e; done)))
      have HI8 := Lib.hid (HO7.out.kept hgrow8 (by cases hv : (Value.slice a5 1 c5).ownBlock with | none => exact .inl rfl | some g => exact .inr (fun e => by have := HN5.out g hv; first | (have := ob e.symm; omega) | (simp [Value.ownBlock] at e; done))))
      have HT8 := Lib.hid (HT7.out.trans (show Touch b1 w.heap.size X7 w8 from Touch.of hgrow8 (fun g hg => by first | (have := ob hg; omega) | (simp [Value.ownBlock] at hg; done))))
      clear hown8 hgrow8 hwhere8
      (try dsimp only)
      refine hK.out _ _ (by exact SQ.out _ _ HS8.out) (fun hHeld => ?_)
      clear hK K
      (try simp only [Act.put, zq1, zq2, zq3, zq4, zq5, zq6])
      refine zqt 8 ?_ ?_ (by assumption) ?_; rotate_left; (intro X hSw; (try dsimp only at hSw); go_simp; (try with_reducible rfl)); (try simp only [Act.put, zq1, zq2, zq3, zq4, zq5, zq6])
      refine wpAnyH_ready (rs := [9]) (by kernel_rfl) (by simp) ?_
      refine AllReadyH.cons rfl (fun K hK => ?_) AllReadyH.nil
      have f1 := HS8.out.free 1
      obtain ⟨q0, q1, q2, q3, q4⟩ := HS8.out.cells
      go_simp
      have HS9 := Lib.hid (HS8.out.set1 (.slice a8 1 c8))
      (try dsimp only)
      refine hK.out _ _ (by exact SQ.out _ _ HS9.out) (fun hHeld => ?_)
      clear hK K
      (try simp only [Act.put, zq1, zq2, zq3, zq4, zq5, zq6])
      refine wpAnyH_done (by kernel_rfl) ?_ _
      obtain ⟨X9, hX9⟩ : ∃ X9, X9 = w8.setCell ⟨w.heap.size, 1, none⟩ (.slice a8 1 c8) := ⟨_, rfl⟩
      have hn8 : ∀ g, (Value.slice a8 1 c8).ownBlock = some g → g ≠ w.heap.size := fun g hg => by
        rcases HW8.out with e | ⟨g', e, hle⟩
        · rw [e] at hg; first | (have := ob hg; omega) | (simp [Value.ownBlock] at hg; done)
        · rw [e] at hg; obtain rfl := Option.some.inj hg; omega
      have hn58 : (Value.slice a5 1 c5).ownBlock = none ∨ (Value.slice a5 1 c5).ownBlock ≠ (Value.slice a8 1 c8).ownBlock := by
        cases hv : (Value.slice a5 1 c5).ownBlock with
        | none => exact .inl rfl
        | some g =>
          refine .inr (fun e => ?_)
          have h5 := (HO7.out.lt g hv).2
          rcases HW8.out with e' | ⟨g', e', hle⟩
          · rw [e'] at e
            have := HN5.out g hv
            first | (have := ob e.symm; omega) | (simp [Value.ownBlock] at e; done)
          · rw [e'] at e; obtain rfl := Option.some.inj e; omega
      have HN58 := Lib.hid hn58
      have HRW := Lib.hid (show X9.ownsRow b1 3 1 (.slice a5 1 c5) 1 [.int .i64 x] from by rw [hX9]; exact own_far HI8.out (fun g hg => by have := HN5.out g hg; omega))
      have HPW := Lib.hid (show X9.ownsRow b2 3 1 (.slice a8 1 c8) 1 [.int .i64 nx] from by rw [hX9]; exact own_far HO8.out hn8)
      have HS9 := Lib.hid (show Box5 X9 w.heap.size 28 (.slice a5 1 c5) (.slice a8 1 c8) (.int .i64 fi) (.int .i64 nx) (.int .i64 dr) from by rw [hX9]; exact HS9.out)
      have HR9 := Lib.hid (show Box5 X9 (w.heap.size + 1) 28 (.slice none 0 0) (.slice none 0 0) (.int .i64 0) (.int .i64 0) (.int .i64 0) from by rw [hX9]; exact HR8.out.other (by omega) _ _)
      have HT9 := Lib.hid (show Touch b1 w.heap.size w X9 from by rw [hX9]; exact HT8.out.far (Nat.le_refl _))
      have HPN := Lib.hid (show ∀ g, (Value.slice a8 1 c8).ownBlock = some g → g ≠ w.heap.size ∧ g ≠ w.heap.size + 1 from fun g hg => by
        rcases HW8.out with e | ⟨g', e, hle⟩
        · rw [e] at hg; first | (have := ob hg; omega) | (simp [Value.ownBlock] at hg; done)
        · rw [e] at hg; obtain rfl := Option.some.inj hg; omega)
      rw [← hX9]
      clear hX9 q0 q1 q2 q3 q4 f1 HS7 HS8 HR7 HR8 HO7 HO8 HI8 HP7 HT7 HT8 HW8 hn8 hn58 SQ HLIT
      obtain ⟨q0, q1, q2, q3, q4⟩ := HS9.out.cells
      have f9 := HS9.out.free
      obtain ⟨e0, e1, e2, e3, e4⟩ := HR9.out.cells
      have g9 := HR9.out.free
      have hrl9 := HR9.out.lt
      have hww : IntKind.i64.wrap (nx + 1) = nx + 1 := IntWalk.i64_in _ ⟨by omega, by omega⟩
      go_wp2_with fail
      refine bodyPost_ret (by simp [results, Tryz.results69, go_sem, *]; try rfl) rfl ?_
      obtain ⟨Y, hY⟩ : ∃ Y, Y = X9.setCell ⟨w.heap.size, 3, none⟩ (.int .i64 (nx + 1)) := ⟨_, rfl⟩
      have a1 : Y.ownsRow b1 3 1 (.slice a5 1 c5) 1 [.int .i64 x] := by rw [hY]; exact own_far HRW.out (fun g hg => by have := HN5.out g hg; omega)
      have a2 : Y.ownsRow b2 3 1 (.slice a8 1 c8) 1 [.int .i64 nx] := by rw [hY]; exact own_far HPW.out (fun g hg => (HPN.out g hg).1)
      have a3 : Touch b1 w.heap.size w Y := by rw [hY]; exact HT9.out.far (Nat.le_refl _)
      have hYs : w.heap.size + 1 < Y.heap.size := by rw [hY]; simpa [World.setCell] using hrl9
      rw [← hY]
      exact po_fin0 hb HN58.out (fun g hg => by have := HN5.out g hg; omega) (fun g hg => (HPN.out g hg).2) a1 a2 a3 (by omega) hYs _ _ _ _ _

set_option maxRecDepth 8000 in
set_option maxHeartbeats 4000000 in
theorem pushOver_sn {k : Int} {T fl : Nat} (O : OrdAt k T fl) (b1 b2 g1 ic g2 pc : Nat) (fi nx dr x : Int) (w : World)
    (hI : w.ownsRow b1 3 1 (.slice (some ⟨g1, 0, none⟩) 0 ic) 0 []) (hP : w.ownsRow b2 3 1 (.slice none 0 0) 0 []) (hlt : ∀ g, (Value.slice (some ⟨g1, 0, none⟩) 0 ic).ownBlock = some g → g < b2) (hb : b1 ≤ b2) (hb2 : b2 ≤ w.heap.size)
    (hx0 : 0 ≤ nx) (hx1 : nx ≤ 900000) :
    Calls Tryz.prog 69 #[.iface T (.agg #[]), .agg #[.slice (some ⟨g1, 0, none⟩) 0 ic, .slice none 0 0, .int .i64 fi, .int .i64 nx, .int .i64 dr], .int .i64 x] w (PoFin b1 (Agg.pushD k ⟨[], [], fi, nx, dr⟩ x) w) := by
  obtain ⟨i0, hi0, hz0, hz1, hz2⟩ := info_parts infoInt
  have HFB := Lib.hid (show (∀ g, (Value.slice (some ⟨g1, 0, none⟩) 0 ic).ownBlock = some g → b1 ≤ g ∧ g < b2) ∧ (∀ g, (Value.slice none 0 0).ownBlock = some g → b2 ≤ g ∧ g < w.heap.size) from ⟨fun g hg => ⟨(hI.lt g hg).1, hlt g hg⟩, fun g hg => hP.lt g hg⟩)
  obtain ⟨hb1g, hg1b⟩ := HFB.out.1 g1 rfl
  have HI := Lib.hid hI
  have HP := Lib.hid hP
  have HLT := Lib.hid hlt
  obtain ⟨W, hW⟩ : ∃ W, W = (w.alloc (.cells #[.slice (some ⟨g1, 0, none⟩) 0 ic, .slice none 0 0, .int .i64 fi, .int .i64 nx, .int .i64 dr] 28)).alloc (.cells #[.slice none 0 0, .slice none 0 0, .int .i64 0, .int .i64 0, .int .i64 0] 28) := ⟨_, rfl⟩
  have HS := Lib.hid (show Box5 W w.heap.size 28 (.slice (some ⟨g1, 0, none⟩) 0 ic) (.slice none 0 0) (.int .i64 fi) (.int .i64 nx) (.int .i64 dr) from by rw [hW]; exact (Box5.new w _ _ _ _ _ _).alloc _)
  have HR := Lib.hid (show Box5 W (w.heap.size + 1) 28 (.slice none 0 0) (.slice none 0 0) (.int .i64 0) (.int .i64 0) (.int .i64 0) from by rw [hW]; exact Box5.new1 _ _ _ _ _ _ (by simp))
  have HB := Lib.hid (show Below w.heap.size w W from by rw [hW]; exact ((Below.refl _ _).alloc (Nat.le_refl _) _).alloc (by simp) _)
  clear hI hP hlt O
  go_enter Tryz.func69, Tryz.ntmps69
  go_upto_region 1 with (fail)
  rw [← hW]
  clear hW
  obtain ⟨q0, q1, q2, q3, q4⟩ := HS.out.cells
  go_wp2_with fail
  clear q0 q1 q2 q3 q4
  go_loopw [7] (fun kv wr => kv = .int .i64 0 ∧ Hid (Box5 wr w.heap.size 28 (.slice (some ⟨g1, 0, none⟩) 0 ic) (.slice none 0 0) (.int .i64 fi) (.int .i64 nx) (.int .i64 dr)) ∧ Hid (Box5 wr (w.heap.size + 1) 28 (.slice none 0 0) (.slice none 0 0) (.int .i64 0) (.int .i64 0) (.int .i64 0)) ∧ Hid (Below w.heap.size w wr)) (fun kv _ => 0)
  case atStart => exact ⟨rfl, HS, HR, HB⟩
  case round =>
    obtain ⟨rfl, hs, hr, hw⟩ := hrel
    clear HS HR HB
    obtain ⟨q0, q1, q2, q3, q4⟩ := hs.out.cells
    go_wp2_with fail
    refine wp_region_held_drew (S := (fun X => X.cell? ⟨w.heap.size, 0, none⟩ = some (.slice (some ⟨g1, 0, none⟩) 0 ic))) (by kernel_rfl) (by assumption) (fun hHeld => ?_)
    refine zqt 0 ?_ ?_ (by assumption) ?_; rotate_left; (intro X hSw; (try dsimp only at hSw); go_simp; (try with_reducible rfl)); (try simp only [Act.put, zq1, zq2, zq3, zq4, zq5, zq6])
    refine zqt 1 ?_ ?_ (by assumption) ?_; rotate_left; (intro X hSw; (try dsimp only at hSw); go_simp; (try with_reducible rfl)); (try simp only [Act.put, zq1, zq2, zq3, zq4, zq5, zq6])
    refine zqt 2 ?_ ?_ (by assumption) ?_; rotate_left; (intro X hSw; (try dsimp only at hSw); go_simp; (try with_reducible rfl)); (try simp only [Act.put, zq1, zq2, zq3, zq4, zq5, zq6])
    first | (refine wpAnyH_take (i := 3) (v := undef) rfl (by kernel_rfl) (by kernel_rfl) (by kernel_rfl) (fun _ _ _ h => h) (Or.inr ⟨by rfl, rfl⟩) (by assumption) ?_; (try simp only [Act.put, zq1, zq2, zq3, zq4, zq5, zq6])) | fail "skip 3"
    first | (refine wpAnyH_take (i := 4) (v := undef) rfl (by kernel_rfl) (by kernel_rfl) (by kernel_rfl) (fun _ _ _ h => h) (Or.inr ⟨by rfl, rfl⟩) (by assumption) ?_; (try simp only [Act.put, zq1, zq2, zq3, zq4, zq5, zq6])) | fail "skip 4"
    first | (refine wpAnyH_take (i := 5) (v := undef) rfl (by kernel_rfl) (by kernel_rfl) (by kernel_rfl) (fun _ _ _ h => h) (Or.inr ⟨by rfl, rfl⟩) (by assumption) ?_; (try simp only [Act.put, zq1, zq2, zq3, zq4, zq5, zq6])) | fail "skip 5"
    first | (refine wpAnyH_take (i := 6) (v := undef) rfl (by kernel_rfl) (by kernel_rfl) (by kernel_rfl) (fun _ _ _ h => h) (Or.inr ⟨by rfl, rfl⟩) (by assumption) ?_; (try simp only [Act.put, zq1, zq2, zq3, zq4, zq5, zq6])) | fail "skip 6"
    first | (refine wpAnyH_take (i := 7) (v := undef) rfl (by kernel_rfl) (by kernel_rfl) (by kernel_rfl) (fun _ _ _ h => h) (Or.inr ⟨by rfl, rfl⟩) (by assumption) ?_; (try simp only [Act.put, zq1, zq2, zq3, zq4, zq5, zq6])) | fail "skip 7"
    first | (refine wpAnyH_take (i := 8) (v := undef) rfl (by kernel_rfl) (by kernel_rfl) (by kernel_rfl) (fun _ _ _ h => h) (Or.inr ⟨by rfl, rfl⟩) (by assumption) ?_; (try simp only [Act.put, zq1, zq2, zq3, zq4, zq5, zq6])) | fail "skip 8"
    first | (refine wpAnyH_take (i := 9) (v := undef) rfl (by kernel_rfl) (by kernel_rfl) (by kernel_rfl) (fun _ _ _ h => h) (Or.inr ⟨by rfl, rfl⟩) (by assumption) ?_; (try simp only [Act.put, zq1, zq2, zq3, zq4, zq5, zq6])) | fail "skip 9"
    first | (refine wpAnyH_take (i := 10) (v := undef) rfl (by kernel_rfl) (by kernel_rfl) (by kernel_rfl) (fun _ _ _ h => h) (Or.inr ⟨by rfl, rfl⟩) (by assumption) ?_; (try simp only [Act.put, zq1, zq2, zq3, zq4, zq5, zq6])) | fail "skip 10"
    first | (refine wpAnyH_take (i := 11) (v := undef) rfl (by kernel_rfl) (by kernel_rfl) (by kernel_rfl) (fun _ _ _ h => h) (Or.inr ⟨by rfl, rfl⟩) (by assumption) ?_; (try simp only [Act.put, zq1, zq2, zq3, zq4, zq5, zq6])) | fail "skip 11"
    first | (refine wpAnyH_take (i := 12) (v := undef) rfl (by kernel_rfl) (by kernel_rfl) (by kernel_rfl) (fun _ _ _ h => h) (Or.inr ⟨by rfl, rfl⟩) (by assumption) ?_; (try simp only [Act.put, zq1, zq2, zq3, zq4, zq5, zq6])) | fail "skip 12"
    first | (refine wpAnyH_take (i := 13) (v := undef) rfl (by kernel_rfl) (by kernel_rfl) (by kernel_rfl) (fun _ _ _ h => h) (Or.inr ⟨by rfl, rfl⟩) (by assumption) ?_; (try simp only [Act.put, zq1, zq2, zq3, zq4, zq5, zq6])) | fail "skip 13"
    first | (refine wpAnyH_take (i := 14) (v := undef) rfl (by kernel_rfl) (by kernel_rfl) (by kernel_rfl) (fun _ _ _ h => h) (Or.inr ⟨by rfl, rfl⟩) (by assumption) ?_; (try simp only [Act.put, zq1, zq2, zq3, zq4, zq5, zq6])) | fail "skip 14"
    refine zqt 15 ?_ ?_ (by assumption) ?_; rotate_left; (intro X hSw; (try dsimp only at hSw); go_simp; (try with_reducible rfl)); (try simp only [Act.put, zq1, zq2, zq3, zq4, zq5, zq6])
    refine wpAnyH_done (by kernel_rfl) ?_ _
    obtain ⟨X3, hX3⟩ : ∃ X3, X3 = wr.drew := ⟨_, rfl⟩
    have HS3 := Lib.hid (show Box5 X3 w.heap.size 28 (.slice (some ⟨g1, 0, none⟩) 0 ic) (.slice none 0 0) (.int .i64 fi) (.int .i64 nx) (.int .i64 dr) from by rw [hX3]; exact hs.out)
    have HR3 := Lib.hid (show Box5 X3 (w.heap.size + 1) 28 (.slice none 0 0) (.slice none 0 0) (.int .i64 0) (.int .i64 0) (.int .i64 0) from by rw [hX3]; exact hr.out)
    have HB3 := Lib.hid (show Below w.heap.size w X3 from by rw [hX3]; exact hw.out.drew)
    rw [← hX3]
    clear hX3 hs hr hw q0 q1 q2 q3 q4 hHeld
    have hsx := HB3.out.size
    have hsl := HS3.out.lt
    have hrl := HR3.out.lt
    have HI3 := Lib.hid (HI.out.kept (Below.grownNone HB3.out none) (by cases hv : (Value.slice (some ⟨g1, 0, none⟩) 0 ic).ownBlock <;> simp))
    have HP3 := Lib.hid (HP.out.kept (Below.grownNone HB3.out none) (by cases hv : (Value.slice none 0 0).ownBlock <;> simp))
    have HPG := Lib.hid (fun g (hg : (Value.slice none 0 0).ownBlock = some g) => HP.out.lt g hg)
    have HPI := Lib.hid (HI3.out)
    have HPP := Lib.hid (HP3.out)
    obtain ⟨q0, q1, q2, q3, q4⟩ := HS3.out.cells
    go_upto_region 6 with (
      at_builtin
      go_must (refine wpList_append_where rfl (.tmp 36) (.tmp 38) 26 rfl b1 3 i0 (.int .i64 0) 1 8 Tryz.underlying26 hi0 hz0 hz1 hz2 rfl (by decide) (.slice (some ⟨g1, 0, none⟩) 0 ic) 0 [] rfl (HPI.out.alloc _) ⟨X3.heap.size, 0, none⟩ 1 1 [.int .i64 x] rfl rfl (cell_one_new _ _ _) (ints_oneCell .i64 [x]) (by unfold maxLen; omega) (by omega) (by simp; omega) ?_)
      go_loud (
        intro v5 w5 hown5 hgrow5 hwhere5
        obtain ⟨a5, c5, rfl⟩ := slice_own hown5
        have HO5 := Lib.hid hown5
        have HG5 := Lib.hid hgrow5
        have HW5 := Lib.hid hwhere5
        have HS5 := Lib.hid ((HS3.out.alloc (.cells #[.int .i64 x] 3)).grown hgrow5 (fun e => by first | (have := ob e; omega) | (simp [Value.ownBlock] at e; done)))
        have HR5 := Lib.hid ((HR3.out.alloc (.cells #[.int .i64 x] 3)).grown hgrow5 (fun e => by first | (have := ob e; omega) | (simp [Value.ownBlock] at e; done)))
        have HP5 := Lib.hid ((HPP.out.alloc (.cells #[.int .i64 x] 3)).kept hgrow5 (by cases hv : (Value.slice none 0 0).ownBlock with | none => exact .inl rfl | some g => exact .inr (fun e => by first | (have := ob e.symm; have := ob hv; omega) | (simp [Value.ownBlock] at hv; done) | (simp [Value.ownBlock] at e; done))))
        have f0 := HS5.out.free 0
        obtain ⟨q0, q1, q2, q3, q4⟩ := HS5.out.cells
        clear hown5 hgrow5 hwhere5))
    have hs5 : X3.heap.size + 1 ≤ w5.heap.size := by have := HG5.out.size; simpa using this
    have HN5 := Lib.hid (show ∀ g, (Value.slice a5 1 c5).ownBlock = some g → g < b2 ∨ X3.heap.size ≤ g from fun g hg => by
      rcases HW5.out with e | ⟨g', e, hle⟩
      · exact .inl (by rw [e] at hg; first | (have := ob hg; omega) | (simp [Value.ownBlock] at hg; done))
      · rw [e] at hg; obtain rfl := Option.some.inj hg; simp at hle; exact .inr (by omega))
    obtain ⟨X6, hX6⟩ : ∃ X6, X6 = w5.setCell ⟨w.heap.size, 0, none⟩ (.slice a5 1 c5) := ⟨_, rfl⟩
    have HS6 := Lib.hid (show Box5 X6 w.heap.size 28 (.slice a5 1 c5) (.slice none 0 0) (.int .i64 fi) (.int .i64 nx) (.int .i64 dr) from by rw [hX6]; exact HS5.out.set0 _)
    have HR6 := Lib.hid (show Box5 X6 (w.heap.size + 1) 28 (.slice none 0 0) (.slice none 0 0) (.int .i64 0) (.int .i64 0) (.int .i64 0) from by rw [hX6]; exact HR5.out.other (by omega) _ _)
    have HO6 := Lib.hid (show X6.ownsRow b1 3 1 (.slice a5 1 c5) 1 [.int .i64 x] from by
      rw [hX6]
      exact own_far HO5.out (fun g hg => by have := HN5.out g hg; omega))
    have HP6 := Lib.hid (show X6.ownsRow b2 3 1 (.slice none 0 0) 0 [] from by
      rw [hX6]
      exact own_far HP5.out (fun g hg => by first | (have := ob hg; omega) | (simp [Value.ownBlock] at hg; done)))
    have HT6 := Lib.hid (show Touch b1 w.heap.size w X6 from by
      rw [hX6]
      exact Touch.far ((((Touch.refl b1 w.heap.size w).call HB3.out).call ((Below.refl X3.heap.size X3).alloc (Nat.le_refl _) _)).trans (Touch.of HG5.out (fun g hg => by first | (have := ob hg; omega) | (simp [Value.ownBlock] at hg; done)))) (Nat.le_refl _))
    have hs6 : X3.heap.size + 1 ≤ X6.heap.size := by rw [hX6]; simpa [World.setCell] using hs5
    rw [← hX6]
    clear hX6 q0 q1 q2 q3 q4 f0 HS5 HR5 HP5 HO5 HG5 HW5 HPI HPP HI3 HP3 HS3 HR3 HB3
    obtain ⟨q0, q1, q2, q3, q4⟩ := HS6.out.cells
    have SQ := Lib.hid (show ∀ (X : World) (v : Value), Box5 X w.heap.size 28 (.slice a5 1 c5) v (.int .i64 fi) (.int .i64 nx) (.int .i64 dr) → X.cell? ⟨w.heap.size, 3, none⟩ = some (.int .i64 nx) from fun X v h => h.cells.2.2.2.1)
    refine wp_region_held_drew (S := (fun X => X.cell? ⟨w.heap.size, 3, none⟩ = some (.int .i64 nx))) (by kernel_rfl) (by exact q3) (fun hHeld => ?_)
    clear q0 q1 q2 q3 q4
    refine zqt 0 ?_ ?_ (by assumption) ?_; rotate_left; (intro X hSw; (try dsimp only at hSw); go_simp; (try with_reducible rfl)); (try simp only [Act.put, zq1, zq2, zq3, zq4, zq5, zq6])
    refine zqt 2 ?_ ?_ (by assumption) ?_; rotate_left; (intro X hSw; (try dsimp only at hSw); go_simp; (try with_reducible rfl)); (try simp only [Act.put, zq1, zq2, zq3, zq4, zq5, zq6])
    refine zqt 4 ?_ ?_ (by assumption) ?_; rotate_left; (intro X hSw; (try dsimp only at hSw); go_simp; (try with_reducible rfl)); (try simp only [Act.put, zq1, zq2, zq3, zq4, zq5, zq6])
    refine zqt 5 ?_ ?_ (by assumption) ?_; rotate_left; (intro X hSw; (try dsimp only at hSw); go_simp; (try with_reducible rfl)); (try simp only [Act.put, zq1, zq2, zq3, zq4, zq5, zq6])
    refine wpAnyH_ready (rs := [1, 6]) (by kernel_rfl) (by simp) ?_
    refine AllReadyH.cons rfl (fun K hK => ?_) (AllReadyH.cons rfl (fun K hK => ?_) AllReadyH.nil)

    · obtain ⟨q0, q1, q2, q3, q4⟩ := HS6.out.cells
      go_simp
      clear q0 q1 q2 q3 q4
      (try dsimp only)
      refine hK.out _ _ (by exact SQ.out _ _ HS6.out) (fun hHeld => ?_)
      clear hK K
      (try simp only [Act.put, zq1, zq2, zq3, zq4, zq5, zq6])
      refine zqt 3 ?_ ?_ (by assumption) ?_; rotate_left; (intro X hSw; (try dsimp only at hSw); go_simp; (try with_reducible rfl)); (try simp only [Act.put, zq1, zq2, zq3, zq4, zq5, zq6])
      refine wpAnyH_ready (rs := [6]) (by kernel_rfl) (by simp) ?_
      refine AllReadyH.cons rfl (fun K hK => ?_) AllReadyH.nil
      go_simp
      obtain ⟨X7, hX7⟩ : ∃ X7, X7 = (X6.alloc (.cells #[.int .i64 nx] 3)).drew := ⟨_, rfl⟩
      have hbn : Below X6.heap.size X6 X7 := by rw [hX7]; exact ((Below.refl _ _).alloc (Nat.le_refl _) _).drew
      have hs7 : X7.heap.size = X6.heap.size + 1 := by rw [hX7]; simp [World.drew]
      have HS7 := Lib.hid (HS6.out.call hbn)
      have HR7 := Lib.hid (HR6.out.call hbn)
      have HO7 := Lib.hid (HO6.out.kept (Below.grownNone hbn none) (by cases hv : (Value.slice a5 1 c5).ownBlock <;> simp))
      have HP7 := Lib.hid (HP6.out.kept (Below.grownNone hbn none) (by cases hv : (Value.slice none 0 0).ownBlock <;> simp))
      have HT7 := Lib.hid (HT6.out.call hbn)
      have HLIT := Lib.hid (show ∀ j u, ([Value.int .i64 nx])[j]? = some u → X7.cell? ((⟨X6.heap.size, 0, none⟩ : Addr).add j) = some u from by rw [hX7]; exact cell_one_new X6 (.int .i64 nx) 3)
      rw [← hX7]
      clear hX7 hbn HS6 HR6 HO6 HP6 HT6
      (try dsimp only)
      refine hK.out _ _ (by exact SQ.out _ _ HS7.out) (fun hHeld => ?_)
      clear hK K
      (try simp only [Act.put, zq1, zq2, zq3, zq4, zq5, zq6])
      refine wpAnyH_ready (rs := [7]) (by kernel_rfl) (by simp) ?_
      refine AllReadyH.cons rfl (fun K hK => ?_) AllReadyH.nil
      go_must (refine step_append_whered (by rfl) (.tmp 44) (.tmp 47) 26 (by rfl) b2 3 i0 (.int .i64 0) 1 8 Tryz.underlying26 hi0 hz0 hz1 hz2 rfl (by decide) (.slice none 0 0) 0 [] (by rfl) HP7.out ⟨X6.heap.size, 0, none⟩ 1 1 [.int .i64 nx] (by rfl) (by rfl) HLIT.out (ints_oneCell .i64 [nx]) (by unfold maxLen; omega) (by omega) (by omega) ?_)
      intro v8 w8 hown8 hgrow8 hwhere8
      obtain ⟨a8, c8, rfl⟩ := slice_own hown8
      have hs8 := hgrow8.size
      have HO8 := Lib.hid hown8
      have HW8 := Lib.hid hwhere8
      have HS8 := Lib.hid (HS7.out.grown hgrow8 (fun e => by first | (have := ob e; omega) | (simp [Value.ownBlock] at e; done)))
      have HR8 := Lib.hid (HR7.out.grown hgrow8 (fun e => by first | (have := ob e; omega) | (simp [Value.ownBlock] at e; done)))
      have HI8 := Lib.hid (HO7.out.kept hgrow8 (by cases hv : (Value.slice a5 1 c5).ownBlock with | none => exact .inl rfl | some g => exact .inr (fun e => by have := HN5.out g hv; first | (have := ob e.symm; omega) | (simp [Value.ownBlock] at e; done))))
      have HT8 := Lib.hid (HT7.out.trans (show Touch b1 w.heap.size X7 w8 from Touch.of hgrow8 (fun g hg => by first | (have := ob hg; omega) | (simp [Value.ownBlock] at hg; done))))
      clear hown8 hgrow8 hwhere8
      (try dsimp only)
      refine hK.out _ _ (by exact SQ.out _ _ HS8.out) (fun hHeld => ?_)
      clear hK K
      (try simp only [Act.put, zq1, zq2, zq3, zq4, zq5, zq6])
      refine zqt 8 ?_ ?_ (by assumption) ?_; rotate_left; (intro X hSw; (try dsimp only at hSw); go_simp; (try with_reducible rfl)); (try simp only [Act.put, zq1, zq2, zq3, zq4, zq5, zq6])
      refine wpAnyH_ready (rs := [9]) (by kernel_rfl) (by simp) ?_
      refine AllReadyH.cons rfl (fun K hK => ?_) AllReadyH.nil
      have f1 := HS8.out.free 1
      obtain ⟨q0, q1, q2, q3, q4⟩ := HS8.out.cells
      go_simp
      have HS9 := Lib.hid (HS8.out.set1 (.slice a8 1 c8))
      (try dsimp only)
      refine hK.out _ _ (by exact SQ.out _ _ HS9.out) (fun hHeld => ?_)
      clear hK K
      (try simp only [Act.put, zq1, zq2, zq3, zq4, zq5, zq6])
      refine wpAnyH_done (by kernel_rfl) ?_ _
      obtain ⟨X9, hX9⟩ : ∃ X9, X9 = w8.setCell ⟨w.heap.size, 1, none⟩ (.slice a8 1 c8) := ⟨_, rfl⟩
      have hn8 : ∀ g, (Value.slice a8 1 c8).ownBlock = some g → g ≠ w.heap.size := fun g hg => by
        rcases HW8.out with e | ⟨g', e, hle⟩
        · rw [e] at hg; first | (have := ob hg; omega) | (simp [Value.ownBlock] at hg; done)
        · rw [e] at hg; obtain rfl := Option.some.inj hg; omega
      have hn58 : (Value.slice a5 1 c5).ownBlock = none ∨ (Value.slice a5 1 c5).ownBlock ≠ (Value.slice a8 1 c8).ownBlock := by
        cases hv : (Value.slice a5 1 c5).ownBlock with
        | none => exact .inl rfl
        | some g =>
          refine .inr (fun e => ?_)
          have h5 := (HO7.out.lt g hv).2
          rcases HW8.out with e' | ⟨g', e', hle⟩
          · rw [e'] at e
            have := HN5.out g hv
            first | (have := ob e.symm; omega) | (simp [Value.ownBlock] at e; done)
          · rw [e'] at e; obtain rfl := Option.some.inj e; omega
      have HN58 := Lib.hid hn58
      have HRW := Lib.hid (show X9.ownsRow b1 3 1 (.slice a5 1 c5) 1 [.int .i64 x] from by rw [hX9]; exact own_far HI8.out (fun g hg => by have := HN5.out g hg; omega))
      have HPW := Lib.hid (show X9.ownsRow b2 3 1 (.slice a8 1 c8) 1 [.int .i64 nx] from by rw [hX9]; exact own_far HO8.out hn8)
      have HS9 := Lib.hid (show Box5 X9 w.heap.size 28 (.slice a5 1 c5) (.slice a8 1 c8) (.int .i64 fi) (.int .i64 nx) (.int .i64 dr) from by rw [hX9]; exact HS9.out)
      have HR9 := Lib.hid (show Box5 X9 (w.heap.size + 1) 28 (.slice none 0 0) (.slice none 0 0) (.int .i64 0) (.int .i64 0) (.int .i64 0) from by rw [hX9]; exact HR8.out.other (by omega) _ _)
      have HT9 := Lib.hid (show Touch b1 w.heap.size w X9 from by rw [hX9]; exact HT8.out.far (Nat.le_refl _))
      have HPN := Lib.hid (show ∀ g, (Value.slice a8 1 c8).ownBlock = some g → g ≠ w.heap.size ∧ g ≠ w.heap.size + 1 from fun g hg => by
        rcases HW8.out with e | ⟨g', e, hle⟩
        · rw [e] at hg; first | (have := ob hg; omega) | (simp [Value.ownBlock] at hg; done)
        · rw [e] at hg; obtain rfl := Option.some.inj hg; omega)
      rw [← hX9]
      clear hX9 q0 q1 q2 q3 q4 f1 HS7 HS8 HR7 HR8 HO7 HO8 HI8 HP7 HT7 HT8 HW8 hn8 hn58 SQ HLIT
      obtain ⟨q0, q1, q2, q3, q4⟩ := HS9.out.cells
      have f9 := HS9.out.free
      obtain ⟨e0, e1, e2, e3, e4⟩ := HR9.out.cells
      have g9 := HR9.out.free
      have hrl9 := HR9.out.lt
      have hww : IntKind.i64.wrap (nx + 1) = nx + 1 := IntWalk.i64_in _ ⟨by omega, by omega⟩
      go_wp2_with fail
      refine bodyPost_ret (by simp [results, Tryz.results69, go_sem, *]; try rfl) rfl ?_
      obtain ⟨Y, hY⟩ : ∃ Y, Y = X9.setCell ⟨w.heap.size, 3, none⟩ (.int .i64 (nx + 1)) := ⟨_, rfl⟩
      have a1 : Y.ownsRow b1 3 1 (.slice a5 1 c5) 1 [.int .i64 x] := by rw [hY]; exact own_far HRW.out (fun g hg => by have := HN5.out g hg; omega)
      have a2 : Y.ownsRow b2 3 1 (.slice a8 1 c8) 1 [.int .i64 nx] := by rw [hY]; exact own_far HPW.out (fun g hg => (HPN.out g hg).1)
      have a3 : Touch b1 w.heap.size w Y := by rw [hY]; exact HT9.out.far (Nat.le_refl _)
      have hYs : w.heap.size + 1 < Y.heap.size := by rw [hY]; simpa [World.setCell] using hrl9
      rw [← hY]
      exact po_fin0 hb HN58.out (fun g hg => by have := HN5.out g hg; omega) (fun g hg => (HPN.out g hg).2) a1 a2 a3 (by omega) hYs _ _ _ _ _
    · go_simp
      obtain ⟨X7, hX7⟩ : ∃ X7, X7 = (X6.alloc (.cells #[.int .i64 nx] 3)).drew := ⟨_, rfl⟩
      have hbn : Below X6.heap.size X6 X7 := by rw [hX7]; exact ((Below.refl _ _).alloc (Nat.le_refl _) _).drew
      have hs7 : X7.heap.size = X6.heap.size + 1 := by rw [hX7]; simp [World.drew]
      have HS7 := Lib.hid (HS6.out.call hbn)
      have HR7 := Lib.hid (HR6.out.call hbn)
      have HO7 := Lib.hid (HO6.out.kept (Below.grownNone hbn none) (by cases hv : (Value.slice a5 1 c5).ownBlock <;> simp))
      have HP7 := Lib.hid (HP6.out.kept (Below.grownNone hbn none) (by cases hv : (Value.slice none 0 0).ownBlock <;> simp))
      have HT7 := Lib.hid (HT6.out.call hbn)
      have HLIT := Lib.hid (show ∀ j u, ([Value.int .i64 nx])[j]? = some u → X7.cell? ((⟨X6.heap.size, 0, none⟩ : Addr).add j) = some u from by rw [hX7]; exact cell_one_new X6 (.int .i64 nx) 3)
      rw [← hX7]
      clear hX7 hbn HS6 HR6 HO6 HP6 HT6
      (try dsimp only)
      refine hK.out _ _ (by exact SQ.out _ _ HS7.out) (fun hHeld => ?_)
      clear hK K
      (try simp only [Act.put, zq1, zq2, zq3, zq4, zq5, zq6])
      refine wpAnyH_ready (rs := [1]) (by kernel_rfl) (by simp) ?_
      refine AllReadyH.cons rfl (fun K hK => ?_) AllReadyH.nil
      obtain ⟨q0, q1, q2, q3, q4⟩ := HS7.out.cells
      go_simp
      clear q0 q1 q2 q3 q4
      (try dsimp only)
      refine hK.out _ _ (by exact SQ.out _ _ HS7.out) (fun hHeld => ?_)
      clear hK K
      (try simp only [Act.put, zq1, zq2, zq3, zq4, zq5, zq6])
      refine zqt 3 ?_ ?_ (by assumption) ?_; rotate_left; (intro X hSw; (try dsimp only at hSw); go_simp; (try with_reducible rfl)); (try simp only [Act.put, zq1, zq2, zq3, zq4, zq5, zq6])
      refine wpAnyH_ready (rs := [7]) (by kernel_rfl) (by simp) ?_
      refine AllReadyH.cons rfl (fun K hK => ?_) AllReadyH.nil
      go_must (refine step_append_whered (by rfl) (.tmp 44) (.tmp 47) 26 (by rfl) b2 3 i0 (.int .i64 0) 1 8 Tryz.underlying26 hi0 hz0 hz1 hz2 rfl (by decide) (.slice none 0 0) 0 [] (by rfl) HP7.out ⟨X6.heap.size, 0, none⟩ 1 1 [.int .i64 nx] (by rfl) (by rfl) HLIT.out (ints_oneCell .i64 [nx]) (by unfold maxLen; omega) (by omega) (by omega) ?_)
      intro v8 w8 hown8 hgrow8 hwhere8
      obtain ⟨a8, c8, rfl⟩ := slice_own hown8
      have hs8 := hgrow8.size
      have HO8 := Lib.hid hown8
      have HW8 := Lib.hid hwhere8
      have HS8 := Lib.hid (HS7.out.grown hgrow8 (fun e => by first | (have := ob e; omega) | (simp [Value.ownBlock] at e; done)))
      have HR8 := Lib.hid (HR7.out.grown hgrow8 (fun e => by first | (have := ob e; omega) | (simp [Value.ownBlock] at e; done)))
      have HI8 := Lib.hid (HO7.out.kept hgrow8 (by cases hv : (Value.slice a5 1 c5).ownBlock with | none => exact .inl rfl | some g => exact .inr (fun e => by have := HN5.out g hv; first | (have := ob e.symm; omega) | (simp [Value.ownBlock] at e; done))))
      have HT8 := Lib.hid (HT7.out.trans (show Touch b1 w.heap.size X7 w8 from Touch.of hgrow8 (fun g hg => by first | (have := ob hg; omega) | (simp [Value.ownBlock] at hg; done))))
      clear hown8 hgrow8 hwhere8
      (try dsimp only)
      refine hK.out _ _ (by exact SQ.out _ _ HS8.out) (fun hHeld => ?_)
      clear hK K
      (try simp only [Act.put, zq1, zq2, zq3, zq4, zq5, zq6])
      refine zqt 8 ?_ ?_ (by assumption) ?_; rotate_left; (intro X hSw; (try dsimp only at hSw); go_simp; (try with_reducible rfl)); (try simp only [Act.put, zq1, zq2, zq3, zq4, zq5, zq6])
      refine wpAnyH_ready (rs := [9]) (by kernel_rfl) (by simp) ?_
      refine AllReadyH.cons rfl (fun K hK => ?_) AllReadyH.nil
      have f1 := HS8.out.free 1
      obtain ⟨q0, q1, q2, q3, q4⟩ := HS8.out.cells
      go_simp
      have HS9 := Lib.hid (HS8.out.set1 (.slice a8 1 c8))
      (try dsimp only)
      refine hK.out _ _ (by exact SQ.out _ _ HS9.out) (fun hHeld => ?_)
      clear hK K
      (try simp only [Act.put, zq1, zq2, zq3, zq4, zq5, zq6])
      refine wpAnyH_done (by kernel_rfl) ?_ _
      obtain ⟨X9, hX9⟩ : ∃ X9, X9 = w8.setCell ⟨w.heap.size, 1, none⟩ (.slice a8 1 c8) := ⟨_, rfl⟩
      have hn8 : ∀ g, (Value.slice a8 1 c8).ownBlock = some g → g ≠ w.heap.size := fun g hg => by
        rcases HW8.out with e | ⟨g', e, hle⟩
        · rw [e] at hg; first | (have := ob hg; omega) | (simp [Value.ownBlock] at hg; done)
        · rw [e] at hg; obtain rfl := Option.some.inj hg; omega
      have hn58 : (Value.slice a5 1 c5).ownBlock = none ∨ (Value.slice a5 1 c5).ownBlock ≠ (Value.slice a8 1 c8).ownBlock := by
        cases hv : (Value.slice a5 1 c5).ownBlock with
        | none => exact .inl rfl
        | some g =>
          refine .inr (fun e => ?_)
          have h5 := (HO7.out.lt g hv).2
          rcases HW8.out with e' | ⟨g', e', hle⟩
          · rw [e'] at e
            have := HN5.out g hv
            first | (have := ob e.symm; omega) | (simp [Value.ownBlock] at e; done)
          · rw [e'] at e; obtain rfl := Option.some.inj e; omega
      have HN58 := Lib.hid hn58
      have HRW := Lib.hid (show X9.ownsRow b1 3 1 (.slice a5 1 c5) 1 [.int .i64 x] from by rw [hX9]; exact own_far HI8.out (fun g hg => by have := HN5.out g hg; omega))
      have HPW := Lib.hid (show X9.ownsRow b2 3 1 (.slice a8 1 c8) 1 [.int .i64 nx] from by rw [hX9]; exact own_far HO8.out hn8)
      have HS9 := Lib.hid (show Box5 X9 w.heap.size 28 (.slice a5 1 c5) (.slice a8 1 c8) (.int .i64 fi) (.int .i64 nx) (.int .i64 dr) from by rw [hX9]; exact HS9.out)
      have HR9 := Lib.hid (show Box5 X9 (w.heap.size + 1) 28 (.slice none 0 0) (.slice none 0 0) (.int .i64 0) (.int .i64 0) (.int .i64 0) from by rw [hX9]; exact HR8.out.other (by omega) _ _)
      have HT9 := Lib.hid (show Touch b1 w.heap.size w X9 from by rw [hX9]; exact HT8.out.far (Nat.le_refl _))
      have HPN := Lib.hid (show ∀ g, (Value.slice a8 1 c8).ownBlock = some g → g ≠ w.heap.size ∧ g ≠ w.heap.size + 1 from fun g hg => by
        rcases HW8.out with e | ⟨g', e, hle⟩
        · rw [e] at hg; first | (have := ob hg; omega) | (simp [Value.ownBlock] at hg; done)
        · rw [e] at hg; obtain rfl := Option.some.inj hg; omega)
      rw [← hX9]
      clear hX9 q0 q1 q2 q3 q4 f1 HS7 HS8 HR7 HR8 HO7 HO8 HI8 HP7 HT7 HT8 HW8 hn8 hn58 SQ HLIT
      obtain ⟨q0, q1, q2, q3, q4⟩ := HS9.out.cells
      have f9 := HS9.out.free
      obtain ⟨e0, e1, e2, e3, e4⟩ := HR9.out.cells
      have g9 := HR9.out.free
      have hrl9 := HR9.out.lt
      have hww : IntKind.i64.wrap (nx + 1) = nx + 1 := IntWalk.i64_in _ ⟨by omega, by omega⟩
      go_wp2_with fail
      refine bodyPost_ret (by simp [results, Tryz.results69, go_sem, *]; try rfl) rfl ?_
      obtain ⟨Y, hY⟩ : ∃ Y, Y = X9.setCell ⟨w.heap.size, 3, none⟩ (.int .i64 (nx + 1)) := ⟨_, rfl⟩
      have a1 : Y.ownsRow b1 3 1 (.slice a5 1 c5) 1 [.int .i64 x] := by rw [hY]; exact own_far HRW.out (fun g hg => by have := HN5.out g hg; omega)
      have a2 : Y.ownsRow b2 3 1 (.slice a8 1 c8) 1 [.int .i64 nx] := by rw [hY]; exact own_far HPW.out (fun g hg => (HPN.out g hg).1)
      have a3 : Touch b1 w.heap.size w Y := by rw [hY]; exact HT9.out.far (Nat.le_refl _)
      have hYs : w.heap.size + 1 < Y.heap.size := by rw [hY]; simpa [World.setCell] using hrl9
      rw [← hY]
      exact po_fin0 hb HN58.out (fun g hg => by have := HN5.out g hg; omega) (fun g hg => (HPN.out g hg).2) a1 a2 a3 (by omega) hYs _ _ _ _ _

set_option maxRecDepth 8000 in
set_option maxHeartbeats 4000000 in
theorem pushOver_ss {k : Int} {T fl : Nat} (O : OrdAt k T fl) (b1 b2 g1 ic g2 pc : Nat) (fi nx dr x : Int) (w : World)
    (hI : w.ownsRow b1 3 1 (.slice (some ⟨g1, 0, none⟩) 0 ic) 0 []) (hP : w.ownsRow b2 3 1 (.slice (some ⟨g2, 0, none⟩) 0 pc) 0 []) (hlt : ∀ g, (Value.slice (some ⟨g1, 0, none⟩) 0 ic).ownBlock = some g → g < b2) (hb : b1 ≤ b2) (hb2 : b2 ≤ w.heap.size)
    (hx0 : 0 ≤ nx) (hx1 : nx ≤ 900000) :
    Calls Tryz.prog 69 #[.iface T (.agg #[]), .agg #[.slice (some ⟨g1, 0, none⟩) 0 ic, .slice (some ⟨g2, 0, none⟩) 0 pc, .int .i64 fi, .int .i64 nx, .int .i64 dr], .int .i64 x] w (PoFin b1 (Agg.pushD k ⟨[], [], fi, nx, dr⟩ x) w) := by
  obtain ⟨i0, hi0, hz0, hz1, hz2⟩ := info_parts infoInt
  have HFB := Lib.hid (show (∀ g, (Value.slice (some ⟨g1, 0, none⟩) 0 ic).ownBlock = some g → b1 ≤ g ∧ g < b2) ∧ (∀ g, (Value.slice (some ⟨g2, 0, none⟩) 0 pc).ownBlock = some g → b2 ≤ g ∧ g < w.heap.size) from ⟨fun g hg => ⟨(hI.lt g hg).1, hlt g hg⟩, fun g hg => hP.lt g hg⟩)
  obtain ⟨hb1g, hg1b⟩ := HFB.out.1 g1 rfl
  obtain ⟨hb2g, hg2w⟩ := HFB.out.2 g2 rfl
  have HI := Lib.hid hI
  have HP := Lib.hid hP
  have HLT := Lib.hid hlt
  obtain ⟨W, hW⟩ : ∃ W, W = (w.alloc (.cells #[.slice (some ⟨g1, 0, none⟩) 0 ic, .slice (some ⟨g2, 0, none⟩) 0 pc, .int .i64 fi, .int .i64 nx, .int .i64 dr] 28)).alloc (.cells #[.slice none 0 0, .slice none 0 0, .int .i64 0, .int .i64 0, .int .i64 0] 28) := ⟨_, rfl⟩
  have HS := Lib.hid (show Box5 W w.heap.size 28 (.slice (some ⟨g1, 0, none⟩) 0 ic) (.slice (some ⟨g2, 0, none⟩) 0 pc) (.int .i64 fi) (.int .i64 nx) (.int .i64 dr) from by rw [hW]; exact (Box5.new w _ _ _ _ _ _).alloc _)
  have HR := Lib.hid (show Box5 W (w.heap.size + 1) 28 (.slice none 0 0) (.slice none 0 0) (.int .i64 0) (.int .i64 0) (.int .i64 0) from by rw [hW]; exact Box5.new1 _ _ _ _ _ _ (by simp))
  have HB := Lib.hid (show Below w.heap.size w W from by rw [hW]; exact ((Below.refl _ _).alloc (Nat.le_refl _) _).alloc (by simp) _)
  clear hI hP hlt O
  go_enter Tryz.func69, Tryz.ntmps69
  go_upto_region 1 with (fail)
  rw [← hW]
  clear hW
  obtain ⟨q0, q1, q2, q3, q4⟩ := HS.out.cells
  go_wp2_with fail
  clear q0 q1 q2 q3 q4
  go_loopw [7] (fun kv wr => kv = .int .i64 0 ∧ Hid (Box5 wr w.heap.size 28 (.slice (some ⟨g1, 0, none⟩) 0 ic) (.slice (some ⟨g2, 0, none⟩) 0 pc) (.int .i64 fi) (.int .i64 nx) (.int .i64 dr)) ∧ Hid (Box5 wr (w.heap.size + 1) 28 (.slice none 0 0) (.slice none 0 0) (.int .i64 0) (.int .i64 0) (.int .i64 0)) ∧ Hid (Below w.heap.size w wr)) (fun kv _ => 0)
  case atStart => exact ⟨rfl, HS, HR, HB⟩
  case round =>
    obtain ⟨rfl, hs, hr, hw⟩ := hrel
    clear HS HR HB
    obtain ⟨q0, q1, q2, q3, q4⟩ := hs.out.cells
    go_wp2_with fail
    refine wp_region_held_drew (S := (fun X => X.cell? ⟨w.heap.size, 0, none⟩ = some (.slice (some ⟨g1, 0, none⟩) 0 ic))) (by kernel_rfl) (by assumption) (fun hHeld => ?_)
    refine zqt 0 ?_ ?_ (by assumption) ?_; rotate_left; (intro X hSw; (try dsimp only at hSw); go_simp; (try with_reducible rfl)); (try simp only [Act.put, zq1, zq2, zq3, zq4, zq5, zq6])
    refine zqt 1 ?_ ?_ (by assumption) ?_; rotate_left; (intro X hSw; (try dsimp only at hSw); go_simp; (try with_reducible rfl)); (try simp only [Act.put, zq1, zq2, zq3, zq4, zq5, zq6])
    refine zqt 2 ?_ ?_ (by assumption) ?_; rotate_left; (intro X hSw; (try dsimp only at hSw); go_simp; (try with_reducible rfl)); (try simp only [Act.put, zq1, zq2, zq3, zq4, zq5, zq6])
    first | (refine wpAnyH_take (i := 3) (v := undef) rfl (by kernel_rfl) (by kernel_rfl) (by kernel_rfl) (fun _ _ _ h => h) (Or.inr ⟨by rfl, rfl⟩) (by assumption) ?_; (try simp only [Act.put, zq1, zq2, zq3, zq4, zq5, zq6])) | fail "skip 3"
    first | (refine wpAnyH_take (i := 4) (v := undef) rfl (by kernel_rfl) (by kernel_rfl) (by kernel_rfl) (fun _ _ _ h => h) (Or.inr ⟨by rfl, rfl⟩) (by assumption) ?_; (try simp only [Act.put, zq1, zq2, zq3, zq4, zq5, zq6])) | fail "skip 4"
    first | (refine wpAnyH_take (i := 5) (v := undef) rfl (by kernel_rfl) (by kernel_rfl) (by kernel_rfl) (fun _ _ _ h => h) (Or.inr ⟨by rfl, rfl⟩) (by assumption) ?_; (try simp only [Act.put, zq1, zq2, zq3, zq4, zq5, zq6])) | fail "skip 5"
    first | (refine wpAnyH_take (i := 6) (v := undef) rfl (by kernel_rfl) (by kernel_rfl) (by kernel_rfl) (fun _ _ _ h => h) (Or.inr ⟨by rfl, rfl⟩) (by assumption) ?_; (try simp only [Act.put, zq1, zq2, zq3, zq4, zq5, zq6])) | fail "skip 6"
    first | (refine wpAnyH_take (i := 7) (v := undef) rfl (by kernel_rfl) (by kernel_rfl) (by kernel_rfl) (fun _ _ _ h => h) (Or.inr ⟨by rfl, rfl⟩) (by assumption) ?_; (try simp only [Act.put, zq1, zq2, zq3, zq4, zq5, zq6])) | fail "skip 7"
    first | (refine wpAnyH_take (i := 8) (v := undef) rfl (by kernel_rfl) (by kernel_rfl) (by kernel_rfl) (fun _ _ _ h => h) (Or.inr ⟨by rfl, rfl⟩) (by assumption) ?_; (try simp only [Act.put, zq1, zq2, zq3, zq4, zq5, zq6])) | fail "skip 8"
    first | (refine wpAnyH_take (i := 9) (v := undef) rfl (by kernel_rfl) (by kernel_rfl) (by kernel_rfl) (fun _ _ _ h => h) (Or.inr ⟨by rfl, rfl⟩) (by assumption) ?_; (try simp only [Act.put, zq1, zq2, zq3, zq4, zq5, zq6])) | fail "skip 9"
    first | (refine wpAnyH_take (i := 10) (v := undef) rfl (by kernel_rfl) (by kernel_rfl) (by kernel_rfl) (fun _ _ _ h => h) (Or.inr ⟨by rfl, rfl⟩) (by assumption) ?_; (try simp only [Act.put, zq1, zq2, zq3, zq4, zq5, zq6])) | fail "skip 10"
    first | (refine wpAnyH_take (i := 11) (v := undef) rfl (by kernel_rfl) (by kernel_rfl) (by kernel_rfl) (fun _ _ _ h => h) (Or.inr ⟨by rfl, rfl⟩) (by assumption) ?_; (try simp only [Act.put, zq1, zq2, zq3, zq4, zq5, zq6])) | fail "skip 11"
    first | (refine wpAnyH_take (i := 12) (v := undef) rfl (by kernel_rfl) (by kernel_rfl) (by kernel_rfl) (fun _ _ _ h => h) (Or.inr ⟨by rfl, rfl⟩) (by assumption) ?_; (try simp only [Act.put, zq1, zq2, zq3, zq4, zq5, zq6])) | fail "skip 12"
    first | (refine wpAnyH_take (i := 13) (v := undef) rfl (by kernel_rfl) (by kernel_rfl) (by kernel_rfl) (fun _ _ _ h => h) (Or.inr ⟨by rfl, rfl⟩) (by assumption) ?_; (try simp only [Act.put, zq1, zq2, zq3, zq4, zq5, zq6])) | fail "skip 13"
    first | (refine wpAnyH_take (i := 14) (v := undef) rfl (by kernel_rfl) (by kernel_rfl) (by kernel_rfl) (fun _ _ _ h => h) (Or.inr ⟨by rfl, rfl⟩) (by assumption) ?_; (try simp only [Act.put, zq1, zq2, zq3, zq4, zq5, zq6])) | fail "skip 14"
    refine zqt 15 ?_ ?_ (by assumption) ?_; rotate_left; (intro X hSw; (try dsimp only at hSw); go_simp; (try with_reducible rfl)); (try simp only [Act.put, zq1, zq2, zq3, zq4, zq5, zq6])
    refine wpAnyH_done (by kernel_rfl) ?_ _
    obtain ⟨X3, hX3⟩ : ∃ X3, X3 = wr.drew := ⟨_, rfl⟩
    have HS3 := Lib.hid (show Box5 X3 w.heap.size 28 (.slice (some ⟨g1, 0, none⟩) 0 ic) (.slice (some ⟨g2, 0, none⟩) 0 pc) (.int .i64 fi) (.int .i64 nx) (.int .i64 dr) from by rw [hX3]; exact hs.out)
    have HR3 := Lib.hid (show Box5 X3 (w.heap.size + 1) 28 (.slice none 0 0) (.slice none 0 0) (.int .i64 0) (.int .i64 0) (.int .i64 0) from by rw [hX3]; exact hr.out)
    have HB3 := Lib.hid (show Below w.heap.size w X3 from by rw [hX3]; exact hw.out.drew)
    rw [← hX3]
    clear hX3 hs hr hw q0 q1 q2 q3 q4 hHeld
    have hsx := HB3.out.size
    have hsl := HS3.out.lt
    have hrl := HR3.out.lt
    have HI3 := Lib.hid (HI.out.kept (Below.grownNone HB3.out none) (by cases hv : (Value.slice (some ⟨g1, 0, none⟩) 0 ic).ownBlock <;> simp))
    have HP3 := Lib.hid (HP.out.kept (Below.grownNone HB3.out none) (by cases hv : (Value.slice (some ⟨g2, 0, none⟩) 0 pc).ownBlock <;> simp))
    have HPG := Lib.hid (fun g (hg : (Value.slice (some ⟨g2, 0, none⟩) 0 pc).ownBlock = some g) => HP.out.lt g hg)
    have HPI := Lib.hid (HI3.out)
    have HPP := Lib.hid (HP3.out)
    obtain ⟨q0, q1, q2, q3, q4⟩ := HS3.out.cells
    go_upto_region 6 with (
      at_builtin
      go_must (refine wpList_append_where rfl (.tmp 36) (.tmp 38) 26 rfl b1 3 i0 (.int .i64 0) 1 8 Tryz.underlying26 hi0 hz0 hz1 hz2 rfl (by decide) (.slice (some ⟨g1, 0, none⟩) 0 ic) 0 [] rfl (HPI.out.alloc _) ⟨X3.heap.size, 0, none⟩ 1 1 [.int .i64 x] rfl rfl (cell_one_new _ _ _) (ints_oneCell .i64 [x]) (by unfold maxLen; omega) (by omega) (by simp; omega) ?_)
      go_loud (
        intro v5 w5 hown5 hgrow5 hwhere5
        obtain ⟨a5, c5, rfl⟩ := slice_own hown5
        have HO5 := Lib.hid hown5
        have HG5 := Lib.hid hgrow5
        have HW5 := Lib.hid hwhere5
        have HS5 := Lib.hid ((HS3.out.alloc (.cells #[.int .i64 x] 3)).grown hgrow5 (fun e => by first | (have := ob e; omega) | (simp [Value.ownBlock] at e; done)))
        have HR5 := Lib.hid ((HR3.out.alloc (.cells #[.int .i64 x] 3)).grown hgrow5 (fun e => by first | (have := ob e; omega) | (simp [Value.ownBlock] at e; done)))
        have HP5 := Lib.hid ((HPP.out.alloc (.cells #[.int .i64 x] 3)).kept hgrow5 (by cases hv : (Value.slice (some ⟨g2, 0, none⟩) 0 pc).ownBlock with | none => exact .inl rfl | some g => exact .inr (fun e => by first | (have := ob e.symm; have := ob hv; omega) | (simp [Value.ownBlock] at hv; done) | (simp [Value.ownBlock] at e; done))))
        have f0 := HS5.out.free 0
        obtain ⟨q0, q1, q2, q3, q4⟩ := HS5.out.cells
        clear hown5 hgrow5 hwhere5))
    have hs5 : X3.heap.size + 1 ≤ w5.heap.size := by have := HG5.out.size; simpa using this
    have HN5 := Lib.hid (show ∀ g, (Value.slice a5 1 c5).ownBlock = some g → g < b2 ∨ X3.heap.size ≤ g from fun g hg => by
      rcases HW5.out with e | ⟨g', e, hle⟩
      · exact .inl (by rw [e] at hg; first | (have := ob hg; omega) | (simp [Value.ownBlock] at hg; done))
      · rw [e] at hg; obtain rfl := Option.some.inj hg; simp at hle; exact .inr (by omega))
    obtain ⟨X6, hX6⟩ : ∃ X6, X6 = w5.setCell ⟨w.heap.size, 0, none⟩ (.slice a5 1 c5) := ⟨_, rfl⟩
    have HS6 := Lib.hid (show Box5 X6 w.heap.size 28 (.slice a5 1 c5) (.slice (some ⟨g2, 0, none⟩) 0 pc) (.int .i64 fi) (.int .i64 nx) (.int .i64 dr) from by rw [hX6]; exact HS5.out.set0 _)
    have HR6 := Lib.hid (show Box5 X6 (w.heap.size + 1) 28 (.slice none 0 0) (.slice none 0 0) (.int .i64 0) (.int .i64 0) (.int .i64 0) from by rw [hX6]; exact HR5.out.other (by omega) _ _)
    have HO6 := Lib.hid (show X6.ownsRow b1 3 1 (.slice a5 1 c5) 1 [.int .i64 x] from by
      rw [hX6]
      exact own_far HO5.out (fun g hg => by have := HN5.out g hg; omega))
    have HP6 := Lib.hid (show X6.ownsRow b2 3 1 (.slice (some ⟨g2, 0, none⟩) 0 pc) 0 [] from by
      rw [hX6]
      exact own_far HP5.out (fun g hg => by first | (have := ob hg; omega) | (simp [Value.ownBlock] at hg; done)))
    have HT6 := Lib.hid (show Touch b1 w.heap.size w X6 from by
      rw [hX6]
      exact Touch.far ((((Touch.refl b1 w.heap.size w).call HB3.out).call ((Below.refl X3.heap.size X3).alloc (Nat.le_refl _) _)).trans (Touch.of HG5.out (fun g hg => by first | (have := ob hg; omega) | (simp [Value.ownBlock] at hg; done)))) (Nat.le_refl _))
    have hs6 : X3.heap.size + 1 ≤ X6.heap.size := by rw [hX6]; simpa [World.setCell] using hs5
    rw [← hX6]
    clear hX6 q0 q1 q2 q3 q4 f0 HS5 HR5 HP5 HO5 HG5 HW5 HPI HPP HI3 HP3 HS3 HR3 HB3
    obtain ⟨q0, q1, q2, q3, q4⟩ := HS6.out.cells
    have SQ := Lib.hid (show ∀ (X : World) (v : Value), Box5 X w.heap.size 28 (.slice a5 1 c5) v (.int .i64 fi) (.int .i64 nx) (.int .i64 dr) → X.cell? ⟨w.heap.size, 3, none⟩ = some (.int .i64 nx) from fun X v h => h.cells.2.2.2.1)
    refine wp_region_held_drew (S := (fun X => X.cell? ⟨w.heap.size, 3, none⟩ = some (.int .i64 nx))) (by kernel_rfl) (by exact q3) (fun hHeld => ?_)
    clear q0 q1 q2 q3 q4
    refine zqt 0 ?_ ?_ (by assumption) ?_; rotate_left; (intro X hSw; (try dsimp only at hSw); go_simp; (try with_reducible rfl)); (try simp only [Act.put, zq1, zq2, zq3, zq4, zq5, zq6])
    refine zqt 2 ?_ ?_ (by assumption) ?_; rotate_left; (intro X hSw; (try dsimp only at hSw); go_simp; (try with_reducible rfl)); (try simp only [Act.put, zq1, zq2, zq3, zq4, zq5, zq6])
    refine zqt 4 ?_ ?_ (by assumption) ?_; rotate_left; (intro X hSw; (try dsimp only at hSw); go_simp; (try with_reducible rfl)); (try simp only [Act.put, zq1, zq2, zq3, zq4, zq5, zq6])
    refine zqt 5 ?_ ?_ (by assumption) ?_; rotate_left; (intro X hSw; (try dsimp only at hSw); go_simp; (try with_reducible rfl)); (try simp only [Act.put, zq1, zq2, zq3, zq4, zq5, zq6])
    refine wpAnyH_ready (rs := [1, 6]) (by kernel_rfl) (by simp) ?_
    refine AllReadyH.cons rfl (fun K hK => ?_) (AllReadyH.cons rfl (fun K hK => ?_) AllReadyH.nil)

    · obtain ⟨q0, q1, q2, q3, q4⟩ := HS6.out.cells
      go_simp
      clear q0 q1 q2 q3 q4
      (try dsimp only)
      refine hK.out _ _ (by exact SQ.out _ _ HS6.out) (fun hHeld => ?_)
      clear hK K
      (try simp only [Act.put, zq1, zq2, zq3, zq4, zq5, zq6])
      refine zqt 3 ?_ ?_ (by assumption) ?_; rotate_left; (intro X hSw; (try dsimp only at hSw); go_simp; (try with_reducible rfl)); (try simp only [Act.put, zq1, zq2, zq3, zq4, zq5, zq6])
      refine wpAnyH_ready (rs := [6]) (by kernel_rfl) (by simp) ?_
      refine AllReadyH.cons rfl (fun K hK => ?_) AllReadyH.nil
      go_simp
      obtain ⟨X7, hX7⟩ : ∃ X7, X7 = (X6.alloc (.cells #[.int .i64 nx] 3)).drew := ⟨_, rfl⟩
      have hbn : Below X6.heap.size X6 X7 := by rw [hX7]; exact ((Below.refl _ _).alloc (Nat.le_refl _) _).drew
      have hs7 : X7.heap.size = X6.heap.size + 1 := by rw [hX7]; simp [World.drew]
      have HS7 := Lib.hid (HS6.out.call hbn)
      have HR7 := Lib.hid (HR6.out.call hbn)
      have HO7 := Lib.hid (HO6.out.kept (Below.grownNone hbn none) (by cases hv : (Value.slice a5 1 c5).ownBlock <;> simp))
      have HP7 := Lib.hid (HP6.out.kept (Below.grownNone hbn none) (by cases hv : (Value.slice (some ⟨g2, 0, none⟩) 0 pc).ownBlock <;> simp))
      have HT7 := Lib.hid (HT6.out.call hbn)
      have HLIT := Lib.hid (show ∀ j u, ([Value.int .i64 nx])[j]? = some u → X7.cell? ((⟨X6.heap.size, 0, none⟩ : Addr).add j) = some u from by rw [hX7]; exact cell_one_new X6 (.int .i64 nx) 3)
      rw [← hX7]
      clear hX7 hbn HS6 HR6 HO6 HP6 HT6
      (try dsimp only)
      refine hK.out _ _ (by exact SQ.out _ _ HS7.out) (fun hHeld => ?_)
      clear hK K
      (try simp only [Act.put, zq1, zq2, zq3, zq4, zq5, zq6])
      refine wpAnyH_ready (rs := [7]) (by kernel_rfl) (by simp) ?_
      refine AllReadyH.cons rfl (fun K hK => ?_) AllReadyH.nil
      go_must (refine step_append_whered (by rfl) (.tmp 44) (.tmp 47) 26 (by rfl) b2 3 i0 (.int .i64 0) 1 8 Tryz.underlying26 hi0 hz0 hz1 hz2 rfl (by decide) (.slice (some ⟨g2, 0, none⟩) 0 pc) 0 [] (by rfl) HP7.out ⟨X6.heap.size, 0, none⟩ 1 1 [.int .i64 nx] (by rfl) (by rfl) HLIT.out (ints_oneCell .i64 [nx]) (by unfold maxLen; omega) (by omega) (by omega) ?_)
      intro v8 w8 hown8 hgrow8 hwhere8
      obtain ⟨a8, c8, rfl⟩ := slice_own hown8
      have hs8 := hgrow8.size
      have HO8 := Lib.hid hown8
      have HW8 := Lib.hid hwhere8
      have HS8 := Lib.hid (HS7.out.grown hgrow8 (fun e => by first | (have := ob e; omega) | (simp [Value.ownBlock] at e; done)))
      have HR8 := Lib.hid (HR7.out.grown hgrow8 (fun e => by first | (have := ob e; omega) | (simp [Value.ownBlock] at e; done)))
      have HI8 := Lib.hid (HO7.out.kept hgrow8 (by cases hv : (Value.slice a5 1 c5).ownBlock with | none => exact .inl rfl | some g => exact .inr (fun e => by have := HN5.out g hv; first | (have := ob e.symm; omega) | (simp [Value.ownBlock] at e; done))))
      have HT8 := Lib.hid (HT7.out.trans (show Touch b1 w.heap.size X7 w8 from Touch.of hgrow8 (fun g hg => by first | (have := ob hg; omega) | (simp [Value.ownBlock] at hg; done))))
      clear hown8 hgrow8 hwhere8
      (try dsimp only)
      refine hK.out _ _ (by exact SQ.out _ _ HS8.out) (fun hHeld => ?_)
      clear hK K
      (try simp only [Act.put, zq1, zq2, zq3, zq4, zq5, zq6])
      refine zqt 8 ?_ ?_ (by assumption) ?_; rotate_left; (intro X hSw; (try dsimp only at hSw); go_simp; (try with_reducible rfl)); (try simp only [Act.put, zq1, zq2, zq3, zq4, zq5, zq6])
      refine wpAnyH_ready (rs := [9]) (by kernel_rfl) (by simp) ?_
      refine AllReadyH.cons rfl (fun K hK => ?_) AllReadyH.nil
      have f1 := HS8.out.free 1
      obtain ⟨q0, q1, q2, q3, q4⟩ := HS8.out.cells
      go_simp
      have HS9 := Lib.hid (HS8.out.set1 (.slice a8 1 c8))
      (try dsimp only)
      refine hK.out _ _ (by exact SQ.out _ _ HS9.out) (fun hHeld => ?_)
      clear hK K
      (try simp only [Act.put, zq1, zq2, zq3, zq4, zq5, zq6])
      refine wpAnyH_done (by kernel_rfl) ?_ _
      obtain ⟨X9, hX9⟩ : ∃ X9, X9 = w8.setCell ⟨w.heap.size, 1, none⟩ (.slice a8 1 c8) := ⟨_, rfl⟩
      have hn8 : ∀ g, (Value.slice a8 1 c8).ownBlock = some g → g ≠ w.heap.size := fun g hg => by
        rcases HW8.out with e | ⟨g', e, hle⟩
        · rw [e] at hg; first | (have := ob hg; omega) | (simp [Value.ownBlock] at hg; done)
        · rw [e] at hg; obtain rfl := Option.some.inj hg; omega
      have hn58 : (Value.slice a5 1 c5).ownBlock = none ∨ (Value.slice a5 1 c5).ownBlock ≠ (Value.slice a8 1 c8).ownBlock := by
        cases hv : (Value.slice a5 1 c5).ownBlock with
        | none => exact .inl rfl
        | some g =>
          refine .inr (fun e => ?_)
          have h5 := (HO7.out.lt g hv).2
          rcases HW8.out with e' | ⟨g', e', hle⟩
          · rw [e'] at e
            have := HN5.out g hv
            first | (have := ob e.symm; omega) | (simp [Value.ownBlock] at e; done)
          · rw [e'] at e; obtain rfl := Option.some.inj e; omega
      have HN58 := Lib.hid hn58
      have HRW := Lib.hid (show X9.ownsRow b1 3 1 (.slice a5 1 c5) 1 [.int .i64 x] from by rw [hX9]; exact own_far HI8.out (fun g hg => by have := HN5.out g hg; omega))
      have HPW := Lib.hid (show X9.ownsRow b2 3 1 (.slice a8 1 c8) 1 [.int .i64 nx] from by rw [hX9]; exact own_far HO8.out hn8)
      have HS9 := Lib.hid (show Box5 X9 w.heap.size 28 (.slice a5 1 c5) (.slice a8 1 c8) (.int .i64 fi) (.int .i64 nx) (.int .i64 dr) from by rw [hX9]; exact HS9.out)
      have HR9 := Lib.hid (show Box5 X9 (w.heap.size + 1) 28 (.slice none 0 0) (.slice none 0 0) (.int .i64 0) (.int .i64 0) (.int .i64 0) from by rw [hX9]; exact HR8.out.other (by omega) _ _)
      have HT9 := Lib.hid (show Touch b1 w.heap.size w X9 from by rw [hX9]; exact HT8.out.far (Nat.le_refl _))
      have HPN := Lib.hid (show ∀ g, (Value.slice a8 1 c8).ownBlock = some g → g ≠ w.heap.size ∧ g ≠ w.heap.size + 1 from fun g hg => by
        rcases HW8.out with e | ⟨g', e, hle⟩
        · rw [e] at hg; first | (have := ob hg; omega) | (simp [Value.ownBlock] at hg; done)
        · rw [e] at hg; obtain rfl := Option.some.inj hg; omega)
      rw [← hX9]
      clear hX9 q0 q1 q2 q3 q4 f1 HS7 HS8 HR7 HR8 HO7 HO8 HI8 HP7 HT7 HT8 HW8 hn8 hn58 SQ HLIT
      obtain ⟨q0, q1, q2, q3, q4⟩ := HS9.out.cells
      have f9 := HS9.out.free
      obtain ⟨e0, e1, e2, e3, e4⟩ := HR9.out.cells
      have g9 := HR9.out.free
      have hrl9 := HR9.out.lt
      have hww : IntKind.i64.wrap (nx + 1) = nx + 1 := IntWalk.i64_in _ ⟨by omega, by omega⟩
      go_wp2_with fail
      refine bodyPost_ret (by simp [results, Tryz.results69, go_sem, *]; try rfl) rfl ?_
      obtain ⟨Y, hY⟩ : ∃ Y, Y = X9.setCell ⟨w.heap.size, 3, none⟩ (.int .i64 (nx + 1)) := ⟨_, rfl⟩
      have a1 : Y.ownsRow b1 3 1 (.slice a5 1 c5) 1 [.int .i64 x] := by rw [hY]; exact own_far HRW.out (fun g hg => by have := HN5.out g hg; omega)
      have a2 : Y.ownsRow b2 3 1 (.slice a8 1 c8) 1 [.int .i64 nx] := by rw [hY]; exact own_far HPW.out (fun g hg => (HPN.out g hg).1)
      have a3 : Touch b1 w.heap.size w Y := by rw [hY]; exact HT9.out.far (Nat.le_refl _)
      have hYs : w.heap.size + 1 < Y.heap.size := by rw [hY]; simpa [World.setCell] using hrl9
      rw [← hY]
      exact po_fin0 hb HN58.out (fun g hg => by have := HN5.out g hg; omega) (fun g hg => (HPN.out g hg).2) a1 a2 a3 (by omega) hYs _ _ _ _ _
    · go_simp
      obtain ⟨X7, hX7⟩ : ∃ X7, X7 = (X6.alloc (.cells #[.int .i64 nx] 3)).drew := ⟨_, rfl⟩
      have hbn : Below X6.heap.size X6 X7 := by rw [hX7]; exact ((Below.refl _ _).alloc (Nat.le_refl _) _).drew
      have hs7 : X7.heap.size = X6.heap.size + 1 := by rw [hX7]; simp [World.drew]
      have HS7 := Lib.hid (HS6.out.call hbn)
      have HR7 := Lib.hid (HR6.out.call hbn)
      have HO7 := Lib.hid (HO6.out.kept (Below.grownNone hbn none) (by cases hv : (Value.slice a5 1 c5).ownBlock <;> simp))
      have HP7 := Lib.hid (HP6.out.kept (Below.grownNone hbn none) (by cases hv : (Value.slice (some ⟨g2, 0, none⟩) 0 pc).ownBlock <;> simp))
      have HT7 := Lib.hid (HT6.out.call hbn)
      have HLIT := Lib.hid (show ∀ j u, ([Value.int .i64 nx])[j]? = some u → X7.cell? ((⟨X6.heap.size, 0, none⟩ : Addr).add j) = some u from by rw [hX7]; exact cell_one_new X6 (.int .i64 nx) 3)
      rw [← hX7]
      clear hX7 hbn HS6 HR6 HO6 HP6 HT6
      (try dsimp only)
      refine hK.out _ _ (by exact SQ.out _ _ HS7.out) (fun hHeld => ?_)
      clear hK K
      (try simp only [Act.put, zq1, zq2, zq3, zq4, zq5, zq6])
      refine wpAnyH_ready (rs := [1]) (by kernel_rfl) (by simp) ?_
      refine AllReadyH.cons rfl (fun K hK => ?_) AllReadyH.nil
      obtain ⟨q0, q1, q2, q3, q4⟩ := HS7.out.cells
      go_simp
      clear q0 q1 q2 q3 q4
      (try dsimp only)
      refine hK.out _ _ (by exact SQ.out _ _ HS7.out) (fun hHeld => ?_)
      clear hK K
      (try simp only [Act.put, zq1, zq2, zq3, zq4, zq5, zq6])
      refine zqt 3 ?_ ?_ (by assumption) ?_; rotate_left; (intro X hSw; (try dsimp only at hSw); go_simp; (try with_reducible rfl)); (try simp only [Act.put, zq1, zq2, zq3, zq4, zq5, zq6])
      refine wpAnyH_ready (rs := [7]) (by kernel_rfl) (by simp) ?_
      refine AllReadyH.cons rfl (fun K hK => ?_) AllReadyH.nil
      go_must (refine step_append_whered (by rfl) (.tmp 44) (.tmp 47) 26 (by rfl) b2 3 i0 (.int .i64 0) 1 8 Tryz.underlying26 hi0 hz0 hz1 hz2 rfl (by decide) (.slice (some ⟨g2, 0, none⟩) 0 pc) 0 [] (by rfl) HP7.out ⟨X6.heap.size, 0, none⟩ 1 1 [.int .i64 nx] (by rfl) (by rfl) HLIT.out (ints_oneCell .i64 [nx]) (by unfold maxLen; omega) (by omega) (by omega) ?_)
      intro v8 w8 hown8 hgrow8 hwhere8
      obtain ⟨a8, c8, rfl⟩ := slice_own hown8
      have hs8 := hgrow8.size
      have HO8 := Lib.hid hown8
      have HW8 := Lib.hid hwhere8
      have HS8 := Lib.hid (HS7.out.grown hgrow8 (fun e => by first | (have := ob e; omega) | (simp [Value.ownBlock] at e; done)))
      have HR8 := Lib.hid (HR7.out.grown hgrow8 (fun e => by first | (have := ob e; omega) | (simp [Value.ownBlock] at e; done)))
      have HI8 := Lib.hid (HO7.out.kept hgrow8 (by cases hv : (Value.slice a5 1 c5).ownBlock with | none => exact .inl rfl | some g => exact .inr (fun e => by have := HN5.out g hv; first | (have := ob e.symm; omega) | (simp [Value.ownBlock] at e; done))))
      have HT8 := Lib.hid (HT7.out.trans (show Touch b1 w.heap.size X7 w8 from Touch.of hgrow8 (fun g hg => by first | (have := ob hg; omega) | (simp [Value.ownBlock] at hg; done))))
      clear hown8 hgrow8 hwhere8
      (try dsimp only)
      refine hK.out _ _ (by exact SQ.out _ _ HS8.out) (fun hHeld => ?_)
      clear hK K
      (try simp only [Act.put, zq1, zq2, zq3, zq4, zq5, zq6])
      refine zqt 8 ?_ ?_ (by assumption) ?_; rotate_left; (intro X hSw; (try dsimp only at hSw); go_simp; (try with_reducible rfl)); (try simp only [Act.put, zq1, zq2, zq3, zq4, zq5, zq6])
      refine wpAnyH_ready (rs := [9]) (by kernel_rfl) (by simp) ?_
      refine AllReadyH.cons rfl (fun K hK => ?_) AllReadyH.nil
      have f1 := HS8.out.free 1
      obtain ⟨q0, q1, q2, q3, q4⟩ := HS8.out.cells
      go_simp
      have HS9 := Lib.hid (HS8.out.set1 (.slice a8 1 c8))
      (try dsimp only)
      refine hK.out _ _ (by exact SQ.out _ _ HS9.out) (fun hHeld => ?_)
      clear hK K
      (try simp only [Act.put, zq1, zq2, zq3, zq4, zq5, zq6])
      refine wpAnyH_done (by kernel_rfl) ?_ _
      obtain ⟨X9, hX9⟩ : ∃ X9, X9 = w8.setCell ⟨w.heap.size, 1, none⟩ (.slice a8 1 c8) := ⟨_, rfl⟩
      have hn8 : ∀ g, (Value.slice a8 1 c8).ownBlock = some g → g ≠ w.heap.size := fun g hg => by
        rcases HW8.out with e | ⟨g', e, hle⟩
        · rw [e] at hg; first | (have := ob hg; omega) | (simp [Value.ownBlock] at hg; done)
        · rw [e] at hg; obtain rfl := Option.some.inj hg; omega
      have hn58 : (Value.slice a5 1 c5).ownBlock = none ∨ (Value.slice a5 1 c5).ownBlock ≠ (Value.slice a8 1 c8).ownBlock := by
        cases hv : (Value.slice a5 1 c5).ownBlock with
        | none => exact .inl rfl
        | some g =>
          refine .inr (fun e => ?_)
          have h5 := (HO7.out.lt g hv).2
          rcases HW8.out with e' | ⟨g', e', hle⟩
          · rw [e'] at e
            have := HN5.out g hv
            first | (have := ob e.symm; omega) | (simp [Value.ownBlock] at e; done)
          · rw [e'] at e; obtain rfl := Option.some.inj e; omega
      have HN58 := Lib.hid hn58
      have HRW := Lib.hid (show X9.ownsRow b1 3 1 (.slice a5 1 c5) 1 [.int .i64 x] from by rw [hX9]; exact own_far HI8.out (fun g hg => by have := HN5.out g hg; omega))
      have HPW := Lib.hid (show X9.ownsRow b2 3 1 (.slice a8 1 c8) 1 [.int .i64 nx] from by rw [hX9]; exact own_far HO8.out hn8)
      have HS9 := Lib.hid (show Box5 X9 w.heap.size 28 (.slice a5 1 c5) (.slice a8 1 c8) (.int .i64 fi) (.int .i64 nx) (.int .i64 dr) from by rw [hX9]; exact HS9.out)
      have HR9 := Lib.hid (show Box5 X9 (w.heap.size + 1) 28 (.slice none 0 0) (.slice none 0 0) (.int .i64 0) (.int .i64 0) (.int .i64 0) from by rw [hX9]; exact HR8.out.other (by omega) _ _)
      have HT9 := Lib.hid (show Touch b1 w.heap.size w X9 from by rw [hX9]; exact HT8.out.far (Nat.le_refl _))
      have HPN := Lib.hid (show ∀ g, (Value.slice a8 1 c8).ownBlock = some g → g ≠ w.heap.size ∧ g ≠ w.heap.size + 1 from fun g hg => by
        rcases HW8.out with e | ⟨g', e, hle⟩
        · rw [e] at hg; first | (have := ob hg; omega) | (simp [Value.ownBlock] at hg; done)
        · rw [e] at hg; obtain rfl := Option.some.inj hg; omega)
      rw [← hX9]
      clear hX9 q0 q1 q2 q3 q4 f1 HS7 HS8 HR7 HR8 HO7 HO8 HI8 HP7 HT7 HT8 HW8 hn8 hn58 SQ HLIT
      obtain ⟨q0, q1, q2, q3, q4⟩ := HS9.out.cells
      have f9 := HS9.out.free
      obtain ⟨e0, e1, e2, e3, e4⟩ := HR9.out.cells
      have g9 := HR9.out.free
      have hrl9 := HR9.out.lt
      have hww : IntKind.i64.wrap (nx + 1) = nx + 1 := IntWalk.i64_in _ ⟨by omega, by omega⟩
      go_wp2_with fail
      refine bodyPost_ret (by simp [results, Tryz.results69, go_sem, *]; try rfl) rfl ?_
      obtain ⟨Y, hY⟩ : ∃ Y, Y = X9.setCell ⟨w.heap.size, 3, none⟩ (.int .i64 (nx + 1)) := ⟨_, rfl⟩
      have a1 : Y.ownsRow b1 3 1 (.slice a5 1 c5) 1 [.int .i64 x] := by rw [hY]; exact own_far HRW.out (fun g hg => by have := HN5.out g hg; omega)
      have a2 : Y.ownsRow b2 3 1 (.slice a8 1 c8) 1 [.int .i64 nx] := by rw [hY]; exact own_far HPW.out (fun g hg => (HPN.out g hg).1)
      have a3 : Touch b1 w.heap.size w Y := by rw [hY]; exact HT9.out.far (Nat.le_refl _)
      have hYs : w.heap.size + 1 < Y.heap.size := by rw [hY]; simpa [World.setCell] using hrl9
      rw [← hY]
      exact po_fin0 hb HN58.out (fun g hg => by have := HN5.out g hg; omega) (fun g hg => (HPN.out g hg).2) a1 a2 a3 (by omega) hYs _ _ _ _ _

end Go.Proofs.YtolgclajlklmaaaGreat

namespace Go.Proofs.YtolgclajlklmaaaGreat
set_option linter.unusedSimpArgs false
set_option linter.unusedVariables false
open Go.RowKit
theorem pushOver_all {k : Int} {T fl : Nat} (O : OrdAt k T fl) (b1 b2 n : Nat) (ia : Option Addr) (ic : Nat) (pa : Option Addr) (pc : Nat) (fi nx dr x : Int) (I P : List Int) (w : World)
    (hI : w.ownsRow b1 3 1 (.slice ia n ic) n (I.map (Value.int .i64))) (hP : w.ownsRow b2 3 1 (.slice pa n pc) n (P.map (Value.int .i64))) (hlt : ∀ g, (Value.slice ia n ic).ownBlock = some g → g < b2) (hb : b1 ≤ b2) (hb2 : b2 ≤ w.heap.size)
    (hn : n ≤ 60) (hd0 : 0 ≤ dr) (hd1 : dr ≤ 900000) (hx0 : 0 ≤ nx) (hx1 : nx ≤ 900000) :
    Calls Tryz.prog 69 #[.iface T (.agg #[]), .agg #[.slice ia n ic, .slice pa n pc, .int .i64 fi, .int .i64 nx, .int .i64 dr], .int .i64 x] w (PoFin b1 (Agg.pushD k ⟨I, P, fi, nx, dr⟩ x) w) := by
  rcases Nat.eq_zero_or_pos n with h0 | h0
  · subst h0
    have hIl : I.length = 0 := by have := hI.1; simpa using this
    have hPl : P.length = 0 := by have := hP.1; simpa using this
    obtain rfl := List.length_eq_zero_iff.1 hIl
    obtain rfl := List.length_eq_zero_iff.1 hPl
    rcases hI.2 with ⟨e1, -⟩ | ⟨g1, c1, cur1, e1, -⟩
    · simp only [Value.slice.injEq, true_and] at e1
      obtain ⟨rfl, rfl⟩ := e1
      rcases hP.2 with ⟨e2, -⟩ | ⟨g2, c2, cur2, e2, -⟩
      · simp only [Value.slice.injEq, true_and] at e2
        obtain ⟨rfl, rfl⟩ := e2
        exact pushOver_nn O b1 b2 0 0 0 0 fi nx dr x w hI hP hlt hb hb2 hx0 hx1
      · simp only [Value.slice.injEq, true_and] at e2
        obtain ⟨rfl, rfl⟩ := e2
        exact pushOver_ns O b1 b2 0 0 g2 _ fi nx dr x w hI hP hlt hb hb2 hx0 hx1
    · simp only [Value.slice.injEq, true_and] at e1
      obtain ⟨rfl, rfl⟩ := e1
      rcases hP.2 with ⟨e2, -⟩ | ⟨g2, c2, cur2, e2, -⟩
      · simp only [Value.slice.injEq, true_and] at e2
        obtain ⟨rfl, rfl⟩ := e2
        exact pushOver_sn O b1 b2 g1 _ 0 0 fi nx dr x w hI hP hlt hb hb2 hx0 hx1
      · simp only [Value.slice.injEq, true_and] at e2
        obtain ⟨rfl, rfl⟩ := e2
        exact pushOver_ss O b1 b2 g1 _ g2 _ fi nx dr x w hI hP hlt hb hb2 hx0 hx1
  · obtain ⟨g1, rfl, -⟩ := own_some hI h0
    obtain ⟨g2, rfl, -⟩ := own_some hP h0
    exact pushOver_some O b1 b2 n g1 ic g2 pc fi nx dr x I P w hI hP hlt hb hb2 hn hd0 hd1 hx0 hx1
structure DqJ (w : World) (iv pv : Value) (fi nx dr : Int) (p : Bool) (x : Int) (W : World) : Prop where
  s : Box5 W w.heap.size 28 iv pv (.int .i64 fi) (.int .i64 nx) (.int .i64 dr)
  o : Box2d W (w.heap.size + 1) 76 (.bool p) (.int .i64 x)
  r : Box5 W (w.heap.size + 1 + 1) 28 (.slice none 0 0) (.slice none 0 0) (.int .i64 0) (.int .i64 0) (.int .i64 0)
  b : Below w.heap.size w W
section
variable {w X Y : World} {iv pv : Value} {fi nx dr : Int} {p : Bool} {x : Int}
theorem DqJ.call (h : DqJ w iv pv fi nx dr p x X) (hb : Below X.heap.size X Y) : DqJ w iv pv fi nx dr p x Y := ⟨h.s.call hb, h.o.call hb, h.r.call hb, h.b.trans (hb.mono h.b.size)⟩
theorem DqJ.lt (h : DqJ w iv pv fi nx dr p x X) : w.heap.size + 3 ≤ X.heap.size := by have := h.r.lt; omega
theorem DqJ.setI (h : DqJ w iv pv fi nx dr p x X) (v : Value) : DqJ w v pv fi nx dr p x (X.setCell ⟨w.heap.size, 0, none⟩ v) := ⟨h.s.set0 _, h.o.other (by omega) _ _, h.r.other (by omega) _ _, h.b.setCell (Nat.le_refl _) _⟩
theorem DqJ.setP (h : DqJ w iv pv fi nx dr p x X) (v : Value) : DqJ w iv v fi nx dr p x (X.setCell ⟨w.heap.size, 1, none⟩ v) := ⟨h.s.set1 _, h.o.other (by omega) _ _, h.r.other (by omega) _ _, h.b.setCell (Nat.le_refl _) _⟩
theorem DqJ.touch {b1 : Nat} (h : DqJ w iv pv fi nx dr p x X) (ht : Touch b1 X.heap.size X Y) (hb : w.heap.size + 3 ≤ b1) : DqJ w iv pv fi nx dr p x Y :=
  ⟨touch_block h.s ht (by omega), touch_block h.o ht (by omega), touch_block h.r ht (by omega), ht.below h.b (Nat.le_refl _) (by omega)⟩
end
set_option maxRecDepth 8000 in
set_option maxHeartbeats 8000000 in
theorem dequeStep_any (k : Int) (ia : Option Addr) (n ic : Nat) (pa : Option Addr) (m pc : Nat) (fi nx dr : Int) (I P : List Int) (pp : Bool) (x : Int) (w : World) (hI : Nums .i64 w ia n ic I) (hP : Nums .i64 w pa m pc P) :
    Calls Tryz.prog 34 #[.int .i64 k, .agg #[.slice ia n ic, .slice pa m pc, .int .i64 fi, .int .i64 nx, .int .i64 dr], .agg #[.bool pp, .int .i64 x]] w (DqOut (Agg.dqCan k ⟨I, P, fi, nx, dr⟩ (pp, x)) (Agg.aDq k ⟨I, P, fi, nx, dr⟩ (pp, x)) w) := by
  obtain ⟨W, hW⟩ : ∃ W, W = ((w.alloc (.cells #[.slice ia n ic, .slice pa m pc, .int .i64 fi, .int .i64 nx, .int .i64 dr] 28)).alloc (.cells #[.bool pp, .int .i64 x] 76)).alloc (.cells #[.slice none 0 0, .slice none 0 0, .int .i64 0, .int .i64 0, .int .i64 0] 28) := ⟨_, rfl⟩
  have HJ := Lib.hid (show DqJ w (.slice ia n ic) (.slice pa m pc) fi nx dr pp x W from by
    rw [hW]
    exact ⟨((Box5.new w _ _ _ _ _ _).alloc _).alloc _, (Box2d.new1 _ _ _ (by simp)).alloc _, Box5.new1 _ _ _ _ _ _ (by simp), (((Below.refl _ _).alloc (Nat.le_refl _) _).alloc (by simp) _).alloc (by simp; omega) _⟩)
  have HIL := Lib.hid (show I.length = n from hI.1)
  have HPL := Lib.hid (show P.length = m from hP.1)
  have hV := fun w hI hP => dequeValid_any k ia n ic pa m pc fi nx dr I P w hI hP
  have HI0 := Lib.hid hI
  have HP0 := Lib.hid hP
  clear hI hP
  obtain ⟨q0, q1, q2, q3, q4⟩ := HJ.out.s.cells
  obtain ⟨p0, p1⟩ := HJ.out.o.cells
  cases hr : Agg.isOrd k
  · have hv : Agg.dqOk k ⟨I, P, fi, nx, dr⟩ = false := Agg.dqOk_not_kind hr
    have hc : Agg.dqCan k ⟨I, P, fi, nx, dr⟩ (pp, x) = false := by simp [Agg.dqCan, hv]
    rw [show Agg.aDq k ⟨I, P, fi, nx, dr⟩ (pp, x) = Agg.zeroDq by simp [Agg.aDq, hc], hc]
    have HR := Lib.hid hr
    clear hV hv hc hr
    go_enter Tryz.func34, Tryz.ntmps34
    go_upto_region 1 with (fail)
    rw [← hW]
    clear hW
    go_wp2_with fail
    refine (orderOf_not k _ HR.out).mono ?_
    rintro e w1 ⟨rfl, rfl⟩
    obtain ⟨s0, s1, s2, s3, s4⟩ := HJ.out.r.cells
    have sf := HJ.out.r.free
    go_wp2_with fail
    refine bodyPost_ret (by simp [results, Tryz.results34, go_sem, *]; try rfl) rfl ?_
    exact DqOut.zero (f6_below5 HJ.out.b (by omega) _ _ _ _ _)
  · obtain ⟨T, fl, O⟩ := ord_at hr
    have HRO := Lib.hid O.of
    cases hv : Agg.dqOk k ⟨I, P, fi, nx, dr⟩
    · have hc : Agg.dqCan k ⟨I, P, fi, nx, dr⟩ (pp, x) = false := by simp [Agg.dqCan, hv]
      rw [show Agg.aDq k ⟨I, P, fi, nx, dr⟩ (pp, x) = Agg.zeroDq by simp [Agg.aDq, hc], hc]
      rw [hv] at hV
      have HV := Lib.hid hV
      clear hV hv hc hr O
      go_enter Tryz.func34, Tryz.ntmps34
      go_upto_region 1 with (fail)
      rw [← hW]
      clear hW
      go_wp2_with fail
      refine (HRO.out _).mono ?_
      rintro e w0 ⟨rfl, rfl⟩
      go_wp2_with fail
      refine (HV.out _ (HI0.out.below HJ.out.b) (HP0.out.below HJ.out.b)).mono ?_
      rintro e w1 ⟨rfl, hb1⟩
      have HJ := Lib.hid (HJ.out.call hb1)
      clear hb1 q0 q1 q2 q3 q4 p0 p1
      obtain ⟨q0, q1, q2, q3, q4⟩ := HJ.out.s.cells
      obtain ⟨p0, p1⟩ := HJ.out.o.cells
      obtain ⟨s0, s1, s2, s3, s4⟩ := HJ.out.r.cells
      have sf := HJ.out.r.free
      go_wp2_with fail
      refine bodyPost_ret (by simp [results, Tryz.results34, go_sem, *]; try rfl) rfl ?_
      exact DqOut.zero (f6_below5 HJ.out.b (by omega) _ _ _ _ _)
    · obtain ⟨hk, hit, hL, hrr, hs, -, -, -⟩ := Agg.dqOk_parts hv
      simp only at hit hL hrr hs
      have hlen := Agg.items_len hit
      have hmn : n = m := by have := HIL.out; have := HPL.out; omega
      subst hmn
      have hn60 : n ≤ 60 := by have := HIL.out; omega
      obtain ⟨hr0, hr1, hr2, hr3, hr4, hr5⟩ := hrr
      rw [hv] at hV
      have HV := Lib.hid hV
      have hsw : IntKind.i64.wrap (nx - fi) = nx - fi := IntWalk.i64_in _ ⟨by omega, by omega⟩
      by_cases hle : dr ≤ nx
      all_goals
        by_cases hbig : nx ≤ 900000 ∧ dr ≤ 900000
        · obtain ⟨hnx, hdr⟩ := hbig
          have hnx' : ¬ (900000 < nx) := by omega
          have hdr' : ¬ (900000 < dr) := by omega
          have hC := fun w => canChange_any pp x (nx - fi) w
          cases hcan : Agg.can (pp, x) (nx - fi)
          · have hc : Agg.dqCan k ⟨I, P, fi, nx, dr⟩ (pp, x) = false := by simp [Agg.dqCan, hcan]
            rw [show Agg.aDq k ⟨I, P, fi, nx, dr⟩ (pp, x) = Agg.zeroDq by simp [Agg.aDq, hc], hc]
            rw [hcan] at hC
            have HC := Lib.hid hC
            clear hV hc hcan hC hv O
            go_enter Tryz.func34, Tryz.ntmps34
            go_upto_region 1 with (fail)
            rw [← hW]
            clear hW
            go_wp2_with fail
            refine (HRO.out _).mono ?_
            rintro e w0 ⟨rfl, rfl⟩
            go_wp2_with fail
            refine (HV.out _ (HI0.out.below HJ.out.b) (HP0.out.below HJ.out.b)).mono ?_
            rintro e w1 ⟨rfl, hb1⟩
            have HJ := Lib.hid (HJ.out.call hb1)
            clear hb1 q0 q1 q2 q3 q4 p0 p1
            obtain ⟨q0, q1, q2, q3, q4⟩ := HJ.out.s.cells
            obtain ⟨p0, p1⟩ := HJ.out.o.cells
            go_wp2_with fail
            refine (HC.out _).mono ?_
            rintro e w2 ⟨rfl, hb2⟩
            have HJ := Lib.hid (HJ.out.call hb2)
            clear hb2 q0 q1 q2 q3 q4 p0 p1
            obtain ⟨q0, q1, q2, q3, q4⟩ := HJ.out.s.cells
            obtain ⟨p0, p1⟩ := HJ.out.o.cells
            obtain ⟨s0, s1, s2, s3, s4⟩ := HJ.out.r.cells
            have sf := HJ.out.r.free
            go_wp2_with fail
            refine bodyPost_ret (by simp [results, Tryz.results34, go_sem, *]; try rfl) rfl ?_
            exact DqOut.zero (f6_below5 HJ.out.b (by omega) _ _ _ _ _)
          · have hc : Agg.dqCan k ⟨I, P, fi, nx, dr⟩ (pp, x) = true := by simp [Agg.dqCan, hcan, hv, hnx, hdr]
            rw [hcan] at hC
            have HC := Lib.hid hC
            rw [hc, show Agg.aDq k ⟨I, P, fi, nx, dr⟩ (pp, x) = Agg.stepD k ⟨I, P, fi, nx, dr⟩ (pp, x) by simp [Agg.aDq, hc]]
            have HO := Lib.hid O
            rcases Bool.eq_false_or_eq_true pp with hpp | hpp
            rotate_left
            · obtain ⟨hx0, hpos⟩ := Agg.can_pop (show Agg.can (false, x) (nx - fi) = true by rw [← hpp]; exact hcan)
              have hn0 := Agg.dqOk_some hv (show 0 < nx - fi from hpos)
              simp only [HIL.out] at hn0
              rw [show Agg.stepD k ⟨I, P, fi, nx, dr⟩ (pp, x) = Agg.popD ⟨I, P, fi, nx, dr⟩ by rw [hpp]; rfl]
              obtain ⟨S, hS⟩ : ∃ S, S = Agg.popD ⟨I, P, fi, nx, dr⟩ := ⟨_, rfl⟩
              rw [← hS]
              have HS := Lib.hid hS
              clear hS
              have HPP := Lib.hid hpp
              clear hV hc hcan hC hv O hx0 hpp
              go_enter Tryz.func34, Tryz.ntmps34
              go_upto_region 1 with (fail)
              rw [← hW]
              clear hW
              go_wp2_with fail
              refine (HRO.out _).mono ?_
              rintro e w0 ⟨rfl, rfl⟩
              go_wp2_with fail
              refine (HV.out _ (HI0.out.below HJ.out.b) (HP0.out.below HJ.out.b)).mono ?_
              rintro e w1 ⟨rfl, hb1⟩
              have HJ := Lib.hid (HJ.out.call hb1)
              clear hb1 q0 q1 q2 q3 q4 p0 p1
              obtain ⟨q0, q1, q2, q3, q4⟩ := HJ.out.s.cells
              obtain ⟨p0, p1⟩ := HJ.out.o.cells
              go_wp2_with fail
              refine (HC.out _).mono ?_
              rintro e w2 ⟨rfl, hb2⟩
              have HJ := Lib.hid (HJ.out.call hb2)
              clear hb2 q0 q1 q2 q3 q4 p0 p1
              obtain ⟨q0, q1, q2, q3, q4⟩ := HJ.out.s.cells
              obtain ⟨p0, p1⟩ := HJ.out.o.cells
              go_wp2_with fail
              refine (clone_any ia n ic I _ (HI0.out.below HJ.out.b) (by omega)).mono ?_
              rintro e w4 ⟨v4, m4, rfl, ho4, hb4⟩
              obtain rfl : n = m4 := by have h := ho4.1; have := HIL.out; simp at h; omega
              obtain ⟨ja, jc, rfl⟩ := slice_own ho4
              obtain ⟨b1, hb1e⟩ : ∃ b1, b1 = w2.heap.size := ⟨_, rfl⟩
              rw [← hb1e] at ho4
              have hb13 : w.heap.size + 3 ≤ b1 := by rw [hb1e]; exact HJ.out.lt
              have hb1l : b1 ≤ w4.heap.size := by rw [hb1e]; exact hb4.size
              have HJ := Lib.hid (HJ.out.call hb4)
              have f0 := HJ.out.s.free
              clear hb4 hb1e q0 q1 q2 q3 q4 p0 p1
              obtain ⟨q0, q1, q2, q3, q4⟩ := HJ.out.s.cells
              obtain ⟨X4, hX4⟩ : ∃ X4, X4 = w4.setCell ⟨w.heap.size, 0, none⟩ (.slice ja n jc) := ⟨_, rfl⟩
              have HGI := Lib.hid (show X4.ownsRow b1 3 1 (.slice ja n jc) n (I.map (Value.int .i64)) from by rw [hX4]; exact own_far ho4 (fun g hg => by have := (ho4.lt g hg).1; omega))
              have hlg : ∀ g, (Value.slice ja n jc).ownBlock = some g → g < X4.heap.size := fun g hg => (HGI.out.lt g hg).2
              have HLG := Lib.hid hlg
              have hX4s : b1 ≤ X4.heap.size := by rw [hX4]; simpa [World.setCell] using hb1l
              go_upto_region 5 with (fail)
              have HJ := Lib.hid (show DqJ w (.slice ja n jc) (.slice pa n pc) fi nx dr pp x X4 from by rw [hX4]; exact HJ.out.setI _)
              rw [← hX4]
              clear hX4 f0 ho4 hlg q0 q1 q2 q3 q4
              obtain ⟨q0, q1, q2, q3, q4⟩ := HJ.out.s.cells
              go_wp2_with fail
              refine (clone_any pa n pc P _ (HP0.out.below HJ.out.b) (by omega)).mono ?_
              rintro e w5 ⟨v5, m5, rfl, ho5, hb5⟩
              obtain rfl : n = m5 := by have h := ho5.1; have := HPL.out; simp at h; omega
              obtain ⟨qa, qc, rfl⟩ := slice_own ho5
              obtain ⟨b2, hb2e⟩ : ∃ b2, b2 = X4.heap.size := ⟨_, rfl⟩
              rw [← hb2e] at ho5
              have hb12 : b1 ≤ b2 := by omega
              have hb2l : b2 ≤ w5.heap.size := by rw [hb2e]; exact hb5.size
              have HLG := Lib.hid (fun g (hg : (Value.slice ja n jc).ownBlock = some g) => show g < b2 from by rw [hb2e]; exact HLG.out g hg)
              have HGI := Lib.hid (HGI.out.kept (Below.grownNone hb5 none) (by cases hv : (Value.slice ja n jc).ownBlock <;> simp))
              have HJ := Lib.hid (HJ.out.call hb5)
              have f1 := HJ.out.s.free
              clear hb5 hb2e q0 q1 q2 q3 q4 hX4s
              obtain ⟨q0, q1, q2, q3, q4⟩ := HJ.out.s.cells
              obtain ⟨X5, hX5⟩ : ∃ X5, X5 = w5.setCell ⟨w.heap.size, 1, none⟩ (.slice qa n qc) := ⟨_, rfl⟩
              have HGI := Lib.hid (show X5.ownsRow b1 3 1 (.slice ja n jc) n (I.map (Value.int .i64)) from by rw [hX5]; exact own_far HGI.out (fun g hg => by have := (HGI.out.lt g hg).1; omega))
              have HGP := Lib.hid (show X5.ownsRow b2 3 1 (.slice qa n qc) n (P.map (Value.int .i64)) from by rw [hX5]; exact own_far ho5 (fun g hg => by have := (ho5.lt g hg).1; omega))
              have hX5s : b2 ≤ X5.heap.size := by rw [hX5]; simpa [World.setCell] using hb2l
              go_upto_region 6 with (fail)
              have HJ := Lib.hid (show DqJ w (.slice ja n jc) (.slice qa n qc) fi nx dr pp x X5 from by rw [hX5]; exact HJ.out.setP _)
              rw [← hX5]
              clear hX5 f1 ho5 q0 q1 q2 q3 q4
              obtain ⟨q0, q1, q2, q3, q4⟩ := HJ.out.s.cells
              obtain ⟨p0, p1⟩ := HJ.out.o.cells
              have hpp := HPP.out
              subst hpp
              go_wp2_with fail
              refine (takePlace_any b1 b2 n ja jc qa qc fi nx dr I P _ HGI.out HGP.out HLG.out hb12 hX5s hn0 hn60 hr0 hr1).mono ?_
              rintro e w7 ⟨v7, rfl, hd7, hb7⟩
              rw [← HS.out] at hd7
              have HJ := Lib.hid (HJ.out.call hb7)
              obtain ⟨ia7, ic7, pa7, pc7, rfl, -, -⟩ := id hd7.read
              have hb7s : b1 ≤ w7.heap.size := by have := hb7.size; omega
              have HD := Lib.hid hd7
              clear hb7 hd7 q0 q1 q2 q3 q4 p0 p1
              obtain ⟨s0, s1, s2, s3, s4⟩ := HJ.out.r.cells
              have sf := HJ.out.r.free
              go_wp2_with fail
              refine bodyPost_ret (by simp [results, Tryz.results34, go_sem, *]; try rfl) rfl ?_
              have hbf := f6_below5 (c := w.heap.size + 1 + 1) HJ.out.b (by omega) (.slice ia7 S.items.length ic7) (.slice pa7 S.places.length pc7) (.int .i64 S.first) (.int .i64 S.next) (.int .i64 S.drops)
              exact ⟨_, rfl, (HD.out.set5 (.inl (by omega)) _ _ _ _ _).wide (by omega) (by rw [f6_size5]; exact Nat.le_refl _) (by rw [f6_size5]; exact Nat.le_refl _), hbf⟩
            · rw [show Agg.stepD k ⟨I, P, fi, nx, dr⟩ (pp, x) = Agg.pushD k ⟨I, P, fi, nx, dr⟩ x by rw [hpp]; rfl]
              obtain ⟨S, hS⟩ : ∃ S, S = Agg.pushD k ⟨I, P, fi, nx, dr⟩ x := ⟨_, rfl⟩
              rw [← hS]
              have HS := Lib.hid hS
              clear hS
              have HPP := Lib.hid hpp
              clear hV hc hcan hC hv O hpp
              go_enter Tryz.func34, Tryz.ntmps34
              go_upto_region 1 with (fail)
              rw [← hW]
              clear hW
              go_wp2_with fail
              refine (HRO.out _).mono ?_
              rintro e w0 ⟨rfl, rfl⟩
              go_wp2_with fail
              refine (HV.out _ (HI0.out.below HJ.out.b) (HP0.out.below HJ.out.b)).mono ?_
              rintro e w1 ⟨rfl, hb1⟩
              have HJ := Lib.hid (HJ.out.call hb1)
              clear hb1 q0 q1 q2 q3 q4 p0 p1
              obtain ⟨q0, q1, q2, q3, q4⟩ := HJ.out.s.cells
              obtain ⟨p0, p1⟩ := HJ.out.o.cells
              go_wp2_with fail
              refine (HC.out _).mono ?_
              rintro e w2 ⟨rfl, hb2⟩
              have HJ := Lib.hid (HJ.out.call hb2)
              clear hb2 q0 q1 q2 q3 q4 p0 p1
              obtain ⟨q0, q1, q2, q3, q4⟩ := HJ.out.s.cells
              obtain ⟨p0, p1⟩ := HJ.out.o.cells
              go_wp2_with fail
              refine (clone_any ia n ic I _ (HI0.out.below HJ.out.b) (by omega)).mono ?_
              rintro e w4 ⟨v4, m4, rfl, ho4, hb4⟩
              obtain rfl : n = m4 := by have h := ho4.1; have := HIL.out; simp at h; omega
              obtain ⟨ja, jc, rfl⟩ := slice_own ho4
              obtain ⟨b1, hb1e⟩ : ∃ b1, b1 = w2.heap.size := ⟨_, rfl⟩
              rw [← hb1e] at ho4
              have hb13 : w.heap.size + 3 ≤ b1 := by rw [hb1e]; exact HJ.out.lt
              have hb1l : b1 ≤ w4.heap.size := by rw [hb1e]; exact hb4.size
              have HJ := Lib.hid (HJ.out.call hb4)
              have f0 := HJ.out.s.free
              clear hb4 hb1e q0 q1 q2 q3 q4 p0 p1
              obtain ⟨q0, q1, q2, q3, q4⟩ := HJ.out.s.cells
              obtain ⟨X4, hX4⟩ : ∃ X4, X4 = w4.setCell ⟨w.heap.size, 0, none⟩ (.slice ja n jc) := ⟨_, rfl⟩
              have HGI := Lib.hid (show X4.ownsRow b1 3 1 (.slice ja n jc) n (I.map (Value.int .i64)) from by rw [hX4]; exact own_far ho4 (fun g hg => by have := (ho4.lt g hg).1; omega))
              have hlg : ∀ g, (Value.slice ja n jc).ownBlock = some g → g < X4.heap.size := fun g hg => (HGI.out.lt g hg).2
              have HLG := Lib.hid hlg
              have hX4s : b1 ≤ X4.heap.size := by rw [hX4]; simpa [World.setCell] using hb1l
              go_upto_region 5 with (fail)
              have HJ := Lib.hid (show DqJ w (.slice ja n jc) (.slice pa n pc) fi nx dr pp x X4 from by rw [hX4]; exact HJ.out.setI _)
              rw [← hX4]
              clear hX4 f0 ho4 hlg q0 q1 q2 q3 q4
              obtain ⟨q0, q1, q2, q3, q4⟩ := HJ.out.s.cells
              go_wp2_with fail
              refine (clone_any pa n pc P _ (HP0.out.below HJ.out.b) (by omega)).mono ?_
              rintro e w5 ⟨v5, m5, rfl, ho5, hb5⟩
              obtain rfl : n = m5 := by have h := ho5.1; have := HPL.out; simp at h; omega
              obtain ⟨qa, qc, rfl⟩ := slice_own ho5
              obtain ⟨b2, hb2e⟩ : ∃ b2, b2 = X4.heap.size := ⟨_, rfl⟩
              rw [← hb2e] at ho5
              have hb12 : b1 ≤ b2 := by omega
              have hb2l : b2 ≤ w5.heap.size := by rw [hb2e]; exact hb5.size
              have HLG := Lib.hid (fun g (hg : (Value.slice ja n jc).ownBlock = some g) => show g < b2 from by rw [hb2e]; exact HLG.out g hg)
              have HGI := Lib.hid (HGI.out.kept (Below.grownNone hb5 none) (by cases hv : (Value.slice ja n jc).ownBlock <;> simp))
              have HJ := Lib.hid (HJ.out.call hb5)
              have f1 := HJ.out.s.free
              clear hb5 hb2e q0 q1 q2 q3 q4 hX4s
              obtain ⟨q0, q1, q2, q3, q4⟩ := HJ.out.s.cells
              obtain ⟨X5, hX5⟩ : ∃ X5, X5 = w5.setCell ⟨w.heap.size, 1, none⟩ (.slice qa n qc) := ⟨_, rfl⟩
              have HGI := Lib.hid (show X5.ownsRow b1 3 1 (.slice ja n jc) n (I.map (Value.int .i64)) from by rw [hX5]; exact own_far HGI.out (fun g hg => by have := (HGI.out.lt g hg).1; omega))
              have HGP := Lib.hid (show X5.ownsRow b2 3 1 (.slice qa n qc) n (P.map (Value.int .i64)) from by rw [hX5]; exact own_far ho5 (fun g hg => by have := (ho5.lt g hg).1; omega))
              have hX5s : b2 ≤ X5.heap.size := by rw [hX5]; simpa [World.setCell] using hb2l
              go_upto_region 6 with (fail)
              have HJ := Lib.hid (show DqJ w (.slice ja n jc) (.slice qa n qc) fi nx dr pp x X5 from by rw [hX5]; exact HJ.out.setP _)
              rw [← hX5]
              clear hX5 f1 ho5 q0 q1 q2 q3 q4
              obtain ⟨q0, q1, q2, q3, q4⟩ := HJ.out.s.cells
              obtain ⟨p0, p1⟩ := HJ.out.o.cells
              have hpp := HPP.out
              subst hpp
              go_wp2_with fail
              refine (pushOver_all HO.out b1 b2 n ja jc qa qc fi nx dr x I P _ HGI.out HGP.out HLG.out hb12 hX5s hn60 hr4 hdr hr2 hnx).mono ?_
              rintro e w7 ⟨v7, rfl, hd7, ht7⟩
              rw [← HS.out] at hd7
              have HJ := Lib.hid (HJ.out.touch ht7 hb13)
              obtain ⟨ia7, ic7, pa7, pc7, rfl, -, -⟩ := id hd7.read
              have hb7s : b1 ≤ w7.heap.size := by have := ht7.2.2.2.1; omega
              have HD := Lib.hid hd7
              clear ht7 hd7 q0 q1 q2 q3 q4 p0 p1
              obtain ⟨s0, s1, s2, s3, s4⟩ := HJ.out.r.cells
              have sf := HJ.out.r.free
              go_wp2_with fail
              refine bodyPost_ret (by simp [results, Tryz.results34, go_sem, *]; try rfl) rfl ?_
              have hbf := f6_below5 (c := w.heap.size + 1 + 1) HJ.out.b (by omega) (.slice ia7 S.items.length ic7) (.slice pa7 S.places.length pc7) (.int .i64 S.first) (.int .i64 S.next) (.int .i64 S.drops)
              exact ⟨_, rfl, (HD.out.set5 (.inl (by omega)) _ _ _ _ _).wide (by omega) (by rw [f6_size5]; exact Nat.le_refl _) (by rw [f6_size5]; exact Nat.le_refl _), hbf⟩
        · have hc : Agg.dqCan k ⟨I, P, fi, nx, dr⟩ (pp, x) = false := by
            simp only [Agg.dqCan, Bool.and_eq_false_iff, decide_eq_false_iff_not]
            by_cases h : nx ≤ 900000
            · exact .inl (.inr (fun h2 => hbig ⟨h, h2⟩))
            · exact .inl (.inl (.inr h))
          rw [show Agg.aDq k ⟨I, P, fi, nx, dr⟩ (pp, x) = Agg.zeroDq by simp [Agg.aDq, hc], hc]
          first
            | have hmx : 900000 < nx := by omega
            | have hmx : 900000 < dr := by omega
          clear hV hc hv O
          go_enter Tryz.func34, Tryz.ntmps34
          go_upto_region 1 with (fail)
          rw [← hW]
          clear hW
          go_wp2_with fail
          refine (HRO.out _).mono ?_
          rintro e w0 ⟨rfl, rfl⟩
          go_wp2_with fail
          refine (HV.out _ (HI0.out.below HJ.out.b) (HP0.out.below HJ.out.b)).mono ?_
          rintro e w1 ⟨rfl, hb1⟩
          have HJ := Lib.hid (HJ.out.call hb1)
          clear hb1 q0 q1 q2 q3 q4 p0 p1
          obtain ⟨q0, q1, q2, q3, q4⟩ := HJ.out.s.cells
          obtain ⟨p0, p1⟩ := HJ.out.o.cells
          obtain ⟨s0, s1, s2, s3, s4⟩ := HJ.out.r.cells
          have sf := HJ.out.r.free
          go_wp2_with fail
          refine bodyPost_ret (by simp [results, Tryz.results34, go_sem, *]; try rfl) rfl ?_
          exact DqOut.zero (f6_below5 HJ.out.b (by omega) _ _ _ _ _)
end Go.Proofs.YtolgclajlklmaaaGreat
