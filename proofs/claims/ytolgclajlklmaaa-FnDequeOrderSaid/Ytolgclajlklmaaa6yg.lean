/-
  The model's change of a deque itself: an item goes; a change that can't be.
-/
import Derived.Test.Ytolgclajlklmaaa6yf
namespace Go.Proofs.Ytolgclajlklmaaa
set_option linter.unusedSimpArgs false
set_option linter.unusedVariables false
open Go.RowKit
theorem own_tail_nums {w : World} {base n c g : Nat} {l : List Int} (h : w.ownsRow base 3 1 (.slice (some ⟨g, 0, none⟩) n c) n (l.map (Value.int .i64))) (hb : base ≤ w.heap.size) (hn : 0 < n) :
    (c = 1 → Nums .i64 w (some ⟨g, 0, none⟩) 0 0 l.tail) ∧ (c ≠ 1 → Nums .i64 w (some ⟨g, 1, none⟩) (n - 1) (c - 1) l.tail) := by
  obtain ⟨h1, h2, h3, h4⟩ := nums_own h hb
  have hlt : l.tail.length = n - 1 := by simp [h1]
  refine ⟨fun e => ⟨by omega, Nat.le_refl _, by simp [maxLen], .inl rfl⟩, fun e => ⟨hlt, by omega, by omega, ?_⟩⟩
  rcases h4 with h4 | ⟨b, off, e1, hlt2, hc⟩
  · omega
  · simp only [Option.some.injEq, Addr.mk.injEq, and_true] at e1
    obtain ⟨rfl, rfl⟩ := e1
    refine .inr ⟨g, 1, rfl, hlt2, fun i hi => ?_⟩
    have := hc (i + 1) (by omega)
    rw [show 1 + i = 0 + (i + 1) by omega, this]
    simp
theorem nums_far {w : World} {a : Option Addr} {n c d o : Nat} {u : Value} {l : List Int} (h : Nums .i64 w a n c l) (hd : ∀ b off, a = some ⟨b, off, none⟩ → b ≠ d) : Nums .i64 (w.setCell ⟨d, o, none⟩ u) a n c l := by
  obtain ⟨h1, h2, h3, h4⟩ := h
  refine ⟨h1, h2, h3, ?_⟩
  rcases h4 with h4 | ⟨b, off, e, hb, hc⟩
  · exact .inl h4
  · exact .inr ⟨b, off, e, by simpa [World.setCell] using hb, fun i hi => (World.cell?_of_block (Below.heap_setCell _ _ _ _ (by simpa using hd b off e))).trans (hc i hi)⟩
set_option maxRecDepth 8000 in
set_option maxHeartbeats 4000000 in
theorem s_l6Deque_pop (k : Int) (ia : Option Addr) (n ic : Nat) (pa : Option Addr) (pc : Nat) (fi nx dr : Int) (I P : List Int) (w : World) (hI : Nums .i64 w ia n ic I) (hP : Nums .i64 w pa n pc P) (hn : n ≤ 60) (hn0 : 0 < n) (hs0 : 0 < nx - fi) (hf0 : 0 ≤ fi) (hf1 : fi ≤ 1000000) (hx0 : 0 ≤ nx) (hx1 : nx ≤ 1000000) :
    Calls Try.prog 51 #[.int .i64 k, .agg #[.slice ia n ic, .slice pa n pc, .int .i64 fi, .int .i64 nx, .int .i64 dr], .agg #[.bool false, .int .i64 0]] w (L6Dq (Agg.popD ⟨I, P, fi, nx, dr⟩) w) := by
  obtain ⟨x, hx⟩ : ∃ x : Int, x = 0 := ⟨_, rfl⟩
  rw [← hx]
  obtain ⟨pp, hpp⟩ : ∃ pp, pp = false := ⟨_, rfl⟩
  rw [← hpp]
  have HPPP := Lib.hid hpp
  have HX := Lib.hid hx
  clear hpp hx
  obtain ⟨i0, hi, hz0, hz1, hz2⟩ := info_parts infoInt
  have HIL := Lib.hid (show I.length = n from hI.1)
  have HPL := Lib.hid (show P.length = n from hP.1)
  have HI := Lib.hid hI
  have HP := Lib.hid hP
  obtain ⟨W, hW⟩ : ∃ W, W = ((w.alloc (.cells #[.slice ia n ic, .slice pa n pc, .int .i64 fi, .int .i64 nx, .int .i64 dr] 26)).alloc (.cells #[.bool pp, .int .i64 x] 40)).alloc (.cells #[.slice none 0 0, .slice none 0 0, .int .i64 0, .int .i64 0, .int .i64 0] 26) := ⟨_, rfl⟩
  have HJ := Lib.hid (show L6St w ia n ic pa pc fi nx dr pp x W from by
    rw [hW]
    exact ⟨((Box5.new w _ _ _ _ _ _).alloc _).alloc _, (Box2d.new1 _ _ _ (by simp)).alloc _, Box5.new1 _ _ _ _ _ _ (by simp), (((Below.refl _ _).alloc (Nat.le_refl _) _).alloc (by simp) _).alloc (by simp; omega) _⟩)
  clear hI hP
  go_enter Try.func51, Try.ntmps51
  go_upto_region 1 with (fail)
  rw [← hW]
  clear hW
  have hWl := HJ.out.lt
  obtain ⟨W1, hW1⟩ : ∃ W1, W1 = W.alloc (.cells #[.slice ia n ic, .slice pa n pc, .int .i64 fi, .int .i64 nx, .int .i64 dr] 26) := ⟨_, rfl⟩
  have HJ1 := Lib.hid (show L6St w ia n ic pa pc fi nx dr pp x W1 from by rw [hW1]; exact HJ.out.alloc _)
  have HU1 := Lib.hid (show Box5 W1 W.heap.size 26 (.slice ia n ic) (.slice pa n pc) (.int .i64 fi) (.int .i64 nx) (.int .i64 dr) from by rw [hW1]; exact Box5.new W _ _ _ _ _ _)
  obtain ⟨q0, q1, q2, q3, q4⟩ := HJ.out.d.cells
  go_upto_region 2 with (fail)
  rw [← hW1]
  clear hW1 q0 q1 q2 q3 q4
  obtain ⟨o, ho⟩ : ∃ o, o = W.heap.size := ⟨_, rfl⟩
  rw [← ho] at HU1 hWl ⊢
  clear ho HJ
  obtain ⟨q0, q1, q2, q3, q4⟩ := HJ1.out.d.cells
  have hla : w.heap.size < W1.heap.size := by have := HJ1.out.lt; omega
  go_upto_region 3 with (at_builtin; go_must (refine wpList_append_copy rfl (.tmp 10) (.tmp 12) 24 rfl 3 i0 (.int .i64 0) 1 8 Try.underlying24 hi hz0 hz1 hz2 rfl (by decide) W1.heap.size rfl (heap_alloc_new W1 _) ia n ic (I.map (Value.int .i64)) rfl (Nums.src (HI.out.below (HJ1.out.b.alloc HJ1.out.b.size _))) (by unfold maxLen; omega) (by omega) ?_); go_loud (intro v2 w2 hown2 hgrow2; obtain ⟨ga, gc, rfl⟩ := slice_own hown2; have HO2 := Lib.hid hown2; have HJ2 := Lib.hid ((HJ1.out.alloc (.cells #[] 3)).grown hgrow2 (fun g e => by have := HJ1.out.lt; simp only [Option.some.injEq] at e; omega)); have HU2 := Lib.hid ((HU1.out.alloc (.cells #[] 3)).grown hgrow2 (fun e => by have := HU1.out.lt; simp only [Option.some.injEq] at e; omega)); have hs2 := hgrow2.size; simp at hs2; obtain ⟨u0, u1, u2, u3, u4⟩ := HU2.out.cells; have uf := HU2.out.free; clear hown2 hgrow2))
  obtain ⟨X2, hX2⟩ : ∃ X2, X2 = w2.setCell ⟨o, 0, none⟩ (.slice ga n gc) := ⟨_, rfl⟩
  have HJ3 := Lib.hid (show L6St w ia n ic pa pc fi nx dr pp x X2 from by rw [hX2]; exact HJ2.out.set hWl)
  have HU3 := Lib.hid (show Box5 X2 o 26 (.slice ga n gc) (.slice pa n pc) (.int .i64 fi) (.int .i64 nx) (.int .i64 dr) from by rw [hX2]; exact HU2.out.set0 _)
  have hWX : W1.heap.size < X2.heap.size := by rw [hX2]; simp only [World.setCell, Array.size_modify]; omega
  have HO3 := Lib.hid (show X2.ownsRow W1.heap.size 3 1 (.slice ga n gc) n (I.map (Value.int .i64)) from by rw [hX2]; exact own_far HO2.out (fun g hg => by have := (HO2.out.lt g hg).1; have := HU1.out.lt; omega))
  rw [← hX2]
  clear hX2 q0 q1 q2 q3 q4 u0 u1 u2 u3 u4 uf HJ2 HU2 HO2
  obtain ⟨q0, q1, q2, q3, q4⟩ := HJ3.out.d.cells
  have hlb : w.heap.size < X2.heap.size := by have := HJ3.out.lt; omega
  go_upto_region 4 with (at_builtin; go_must (refine wpList_append_copy rfl (.tmp 15) (.tmp 17) 24 rfl 3 i0 (.int .i64 0) 1 8 Try.underlying24 hi hz0 hz1 hz2 rfl (by decide) X2.heap.size rfl (heap_alloc_new X2 _) pa n pc (P.map (Value.int .i64)) rfl (Nums.src (HP.out.below (HJ3.out.b.alloc HJ3.out.b.size _))) (by unfold maxLen; omega) (by omega) ?_); go_loud (intro v4 w4 hown4 hgrow4; obtain ⟨qa, qc, rfl⟩ := slice_own hown4; have HO4 := Lib.hid hown4; have HJ4 := Lib.hid ((HJ3.out.alloc (.cells #[] 3)).grown hgrow4 (fun g e => by have := HJ3.out.lt; simp only [Option.some.injEq] at e; omega)); have HU4 := Lib.hid ((HU3.out.alloc (.cells #[] 3)).grown hgrow4 (fun e => by have := HU3.out.lt; simp only [Option.some.injEq] at e; omega)); have HG4 := Lib.hid ((HO3.out.alloc (.cells #[] 3)).kept hgrow4 (row_newd HO3.out (Nat.le_refl _))); have HGL := Lib.hid (fun g (hg : (Value.slice ga n gc).ownBlock = some g) => (HO3.out.lt g hg)); have hs4 := hgrow4.size; simp at hs4; obtain ⟨u0, u1, u2, u3, u4⟩ := HU4.out.cells; have uf := HU4.out.free; clear hown4 hgrow4))
  obtain ⟨X4, hX4⟩ : ∃ X4, X4 = w4.setCell ⟨o, 1, none⟩ (.slice qa n qc) := ⟨_, rfl⟩
  have HJ5 := Lib.hid (show L6St w ia n ic pa pc fi nx dr pp x X4 from by rw [hX4]; exact HJ4.out.set hWl)
  have HU5 := Lib.hid (show Box5 X4 o 26 (.slice ga n gc) (.slice qa n qc) (.int .i64 fi) (.int .i64 nx) (.int .i64 dr) from by rw [hX4]; exact HU4.out.set1 _)
  have hoW := HU1.out.lt
  have hoX := HU3.out.lt
  have HG5 := Lib.hid (show X4.ownsRow W1.heap.size 3 1 (.slice ga n gc) n (I.map (Value.int .i64)) from by rw [hX4]; exact own_far HG4.out (fun g hg => by have := (HGL.out g hg).1; omega))
  have HQ5 := Lib.hid (show X4.ownsRow X2.heap.size 3 1 (.slice qa n qc) n (P.map (Value.int .i64)) from by rw [hX4]; exact own_far HO4.out (fun g hg => by have := (HO4.out.lt g hg).1; omega))
  have hX4s : X2.heap.size < X4.heap.size := by rw [hX4]; simp only [World.setCell, Array.size_modify]; omega
  rw [← hX4]
  clear hX4 q0 q1 q2 q3 q4 u0 u1 u2 u3 u4 uf HJ4 HU4 HO4 HG4 HJ3 HU3 HO3 HJ1 HU1
  obtain rfl : pp = false := HPPP.out
  obtain rfl : x = 0 := HX.out
  obtain ⟨p0, p1⟩ := HJ5.out.o.cells
  obtain ⟨q0, q1, q2, q3, q4⟩ := HJ5.out.d.cells
  have hne : ¬ (fi = nx) := by omega
  have hww : IntKind.i64.wrap (fi + 1) = fi + 1 := IntWalk.i64_in _ ⟨by omega, by omega⟩
  obtain ⟨gg, hgg, -, hgs, hgc, hgm⟩ := own_some6 HG5.out hn0
  obtain ⟨gq, hgq, -, hqs, hqc, hqm⟩ := own_some6 HQ5.out hn0
  subst hgg
  subst hgq
  have HT1 := Lib.hid (own_tail_nums HG5.out (by omega) hn0)
  have HT2 := Lib.hid (own_tail_nums HQ5.out (by omega) hn0)
  have hN2 := nums_own HQ5.out (by omega)
  rcases hN2.2.2.2 with h4 | ⟨ib, ioff, eib, hib, hics⟩
  · omega
  · simp only [Option.some.injEq, Addr.mk.injEq, and_true] at eib
    obtain ⟨rfl, rfl⟩ := eib
    have hc0 := hics 0 hn0
    rw [Nat.zero_add] at hc0
    clear hics hN2
    obtain ⟨y, hy⟩ : ∃ y, y = P[0]?.getD 0 := ⟨_, rfl⟩
    rw [← hy] at hc0
    have hpop : (if y = fi then (⟨I.tail, P.tail, fi + 1, nx, dr⟩ : Agg.Dq) else ⟨I, P, fi + 1, nx, dr⟩) = Agg.popD ⟨I, P, fi, nx, dr⟩ := by rw [hy]; rfl
    have HPOP := Lib.hid hpop
    clear hpop hy
    obtain ⟨u0, u1, u2, u3, u4⟩ := HU5.out.cells
    have h0n : (0 : Int) < (n : Int) := by omega
    have h1n : (1 : Int) ≤ (n : Int) := by omega
    have hnc1 : (n : Int) ≤ (gc : Int) := by omega
    have hnc2 : (n : Int) ≤ (qc : Int) := by omega
    have hgw1 : W1.heap.size ≤ gg := (HG5.out.lt gg rfl).1
    have hgw2 : X2.heap.size ≤ gq := (HQ5.out.lt gq rfl).1
    go_wp2_with fail
    refine wp_region_held_drew (S := (fun X => X.cell? ⟨o, 1, none⟩ = some (.slice (some ⟨gq, 0, none⟩) n qc) ∧ X.cell? ⟨gq, 0, none⟩ = some (.int .i64 y) ∧ X.cell? ⟨w.heap.size, 2, none⟩ = some (.int .i64 fi))) (by kernel_rfl) (by refine ⟨?_, ?_, ?_⟩ <;> assumption) (fun hHeld => ?_)
    first | (refine wpAnyH_take (i := 0) (v := ?_) rfl (by kernel_rfl) (by kernel_rfl) (by kernel_rfl) (fun _ _ _ h => h) (Or.inl ⟨by rfl, ?_⟩) (by assumption) ?_; rotate_left; (intro X hSw; (try dsimp only at hSw); go_simp; (try with_reducible rfl)); (try simp only [Act.put, List.setIfInBounds_toArray, List.set_cons_zero, List.set_cons_succ, List.getElem_toArray, List.getElem_cons_zero, List.getElem_cons_succ])) | fail "take 0"
    first | (refine wpAnyH_take (i := 1) (v := ?_) rfl (by kernel_rfl) (by kernel_rfl) (by kernel_rfl) (fun _ _ _ h => h) (Or.inl ⟨by rfl, ?_⟩) (by assumption) ?_; rotate_left; (intro X hSw; (try dsimp only at hSw); go_simp; (try with_reducible rfl)); (try simp only [Act.put, List.setIfInBounds_toArray, List.set_cons_zero, List.set_cons_succ, List.getElem_toArray, List.getElem_cons_zero, List.getElem_cons_succ])) | fail "take 1"
    first | (refine wpAnyH_take (i := 2) (v := ?_) rfl (by kernel_rfl) (by kernel_rfl) (by kernel_rfl) (fun _ _ _ h => h) (Or.inl ⟨by rfl, ?_⟩) (by assumption) ?_; rotate_left; (intro X hSw; (try dsimp only at hSw); go_simp; (try with_reducible rfl)); (try simp only [Act.put, List.setIfInBounds_toArray, List.set_cons_zero, List.set_cons_succ, List.getElem_toArray, List.getElem_cons_zero, List.getElem_cons_succ])) | fail "take 2"
    first | (refine wpAnyH_take (i := 3) (v := ?_) rfl (by kernel_rfl) (by kernel_rfl) (by kernel_rfl) (fun _ _ _ h => h) (Or.inl ⟨by rfl, ?_⟩) (by assumption) ?_; rotate_left; (intro X hSw; (try dsimp only at hSw); go_simp; (try with_reducible rfl)); (try simp only [Act.put, List.setIfInBounds_toArray, List.set_cons_zero, List.set_cons_succ, List.getElem_toArray, List.getElem_cons_zero, List.getElem_cons_succ])) | fail "take 3"
    first | (refine wpAnyH_take (i := 4) (v := ?_) rfl (by kernel_rfl) (by kernel_rfl) (by kernel_rfl) (fun _ _ _ h => h) (Or.inl ⟨by rfl, ?_⟩) (by assumption) ?_; rotate_left; (intro X hSw; (try dsimp only at hSw); go_simp; (try with_reducible rfl)); (try simp only [Act.put, List.setIfInBounds_toArray, List.set_cons_zero, List.set_cons_succ, List.getElem_toArray, List.getElem_cons_zero, List.getElem_cons_succ])) | fail "take 4"
    first | (refine wpAnyH_take (i := 5) (v := ?_) rfl (by kernel_rfl) (by kernel_rfl) (by kernel_rfl) (fun _ _ _ h => h) (Or.inl ⟨by rfl, ?_⟩) (by assumption) ?_; rotate_left; (intro X hSw; (try dsimp only at hSw); go_simp; (try with_reducible rfl)); (try simp only [Act.put, List.setIfInBounds_toArray, List.set_cons_zero, List.set_cons_succ, List.getElem_toArray, List.getElem_cons_zero, List.getElem_cons_succ])) | fail "take 5"
    first | (refine wpAnyH_take (i := 6) (v := ?_) rfl (by kernel_rfl) (by kernel_rfl) (by kernel_rfl) (fun _ _ _ h => h) (Or.inl ⟨by rfl, ?_⟩) (by assumption) ?_; rotate_left; (intro X hSw; (try dsimp only at hSw); go_simp; (try with_reducible rfl)); (try simp only [Act.put, List.setIfInBounds_toArray, List.set_cons_zero, List.set_cons_succ, List.getElem_toArray, List.getElem_cons_zero, List.getElem_cons_succ])) | fail "take 6"
    refine wpAnyH_done (by kernel_rfl) ?_ _
    obtain ⟨X6, hX6⟩ : ∃ X6, X6 = X4.drew := ⟨_, rfl⟩
    have HJ6 := Lib.hid (show L6St w ia n ic pa pc fi nx dr false 0 X6 from by rw [hX6]; exact HJ5.out.drew)
    have HU6 := Lib.hid (show Box5 X6 o 26 (.slice (some ⟨gg, 0, none⟩) n gc) (.slice (some ⟨gq, 0, none⟩) n qc) (.int .i64 fi) (.int .i64 nx) (.int .i64 dr) from by rw [hX6]; exact HU5.out)
    have HT1 := Lib.hid (show (gc = 1 → Nums .i64 X6 (some ⟨gg, 0, none⟩) 0 0 I.tail) ∧ (gc ≠ 1 → Nums .i64 X6 (some ⟨gg, 1, none⟩) (n - 1) (gc - 1) I.tail) from by rw [hX6]; exact HT1.out)
    have HT2 := Lib.hid (show (qc = 1 → Nums .i64 X6 (some ⟨gq, 0, none⟩) 0 0 P.tail) ∧ (qc ≠ 1 → Nums .i64 X6 (some ⟨gq, 1, none⟩) (n - 1) (qc - 1) P.tail) from by rw [hX6]; exact HT2.out)
    have HNI := Lib.hid (show Nums .i64 X6 (some ⟨gg, 0, none⟩) n gc I from by rw [hX6]; show Nums .i64 X4 _ _ _ _; exact nums_own HG5.out (by omega))
    have HNP := Lib.hid (show Nums .i64 X6 (some ⟨gq, 0, none⟩) n qc P from by rw [hX6]; show Nums .i64 X4 _ _ _ _; exact nums_own HQ5.out (by omega))
    rw [← hX6]
    clear hX6 p0 p1 q0 q1 q2 q3 q4 u0 u1 u2 u3 u4 hc0 hHeld hib HJ5 HU5 HG5 HQ5
    by_cases hyf : y = fi
    · have hpp := HPOP.out
      rw [if_pos hyf] at hpp
      have HPOP := Lib.hid hpp
      clear hpp
      by_cases hc1 : gc = 1
      · subst hc1
        by_cases hc2 : qc = 1
        · subst hc2
          obtain ⟨s0, s1, s2, s3, s4⟩ := HJ6.out.r.cells
          have sf := HJ6.out.r.free
          obtain ⟨q0, q1, q2, q3, q4⟩ := HJ6.out.d.cells
          obtain ⟨u0, u1, u2, u3, u4⟩ := HU6.out.cells
          have uf := HU6.out.free
          have hne1 : o ≠ w.heap.size + 1 + 1 := by omega
          have hne2 : w.heap.size + 1 + 1 ≠ o := by omega
          have hne3 : w.heap.size ≠ o := by omega
          go_wp2_with fail
          refine bodyPost_ret (by simp [results, Try.results51, go_sem, *]; try rfl) rfl ?_
          rw [← HPOP.out]
          have m1 := HT1.out.1 (by first | rfl | trivial)
          have m2 := HT2.out.1 (by first | rfl | trivial)
          have nom1 : ∀ b off, (some ⟨gg, 0, none⟩ : Option Addr) = some ⟨b, off, none⟩ → b ≠ o := fun b off e => by simp at e; omega
          have nrm1 : ∀ b off, (some ⟨gg, 0, none⟩ : Option Addr) = some ⟨b, off, none⟩ → b ≠ w.heap.size + 1 + 1 := fun b off e => by simp at e; omega
          have nom2 : ∀ b off, (some ⟨gq, 0, none⟩ : Option Addr) = some ⟨b, off, none⟩ → b ≠ o := fun b off e => by simp at e; omega
          have nrm2 : ∀ b off, (some ⟨gq, 0, none⟩ : Option Addr) = some ⟨b, off, none⟩ → b ≠ w.heap.size + 1 + 1 := fun b off e => by simp at e; omega
          have km1 := nums_far (o := 4) (u := .int .i64 dr) (nums_far (o := 3) (u := .int .i64 nx) (nums_far (o := 2) (u := .int .i64 (fi + 1)) (nums_far (o := 1) (u := .slice (some ⟨gq, 0, none⟩) 0 0) (nums_far (o := 0) (u := .slice (some ⟨gg, 0, none⟩) 0 0) (nums_far (o := 2) (u := .int .i64 (fi + 1)) (nums_far (o := 1) (u := .slice (some ⟨gq, 0, none⟩) 0 0) (nums_far (o := 0) (u := .slice (some ⟨gg, 0, none⟩) 0 0) m1 nom1) nom1) nom1) nrm1) nrm1) nrm1) nrm1) nrm1
          have km2 := nums_far (o := 4) (u := .int .i64 dr) (nums_far (o := 3) (u := .int .i64 nx) (nums_far (o := 2) (u := .int .i64 (fi + 1)) (nums_far (o := 1) (u := .slice (some ⟨gq, 0, none⟩) 0 0) (nums_far (o := 0) (u := .slice (some ⟨gg, 0, none⟩) 0 0) (nums_far (o := 2) (u := .int .i64 (fi + 1)) (nums_far (o := 1) (u := .slice (some ⟨gq, 0, none⟩) 0 0) (nums_far (o := 0) (u := .slice (some ⟨gg, 0, none⟩) 0 0) m2 nom2) nom2) nom2) nrm2) nrm2) nrm2) nrm2) nrm2
          have hbb := f6_below5 (c := w.heap.size + 1 + 1) (((HJ6.out.b.setCell (p := ⟨o, 0, none⟩) (show w.heap.size ≤ o by omega) (.slice (some ⟨gg, 0, none⟩) 0 0)).setCell (p := ⟨o, 1, none⟩) (show w.heap.size ≤ o by omega) (.slice (some ⟨gq, 0, none⟩) 0 0)).setCell (p := ⟨o, 2, none⟩) (show w.heap.size ≤ o by omega) (.int .i64 (fi + 1))) (by omega) (.slice (some ⟨gg, 0, none⟩) 0 0) (.slice (some ⟨gq, 0, none⟩) 0 0) (.int .i64 (fi + 1)) (.int .i64 nx) (.int .i64 dr)
          have l1 : I.tail.length = 0 := km1.1
          have l2 : P.tail.length = 0 := km2.1
          refine ⟨some ⟨gg, 0, none⟩, 0, some ⟨gq, 0, none⟩, 0, by simp only [l1, l2], ?_, ?_, ⟨fun b off e => by simp at e; omega, fun b off e => by simp at e; omega⟩, hbb⟩
          · rw [l1]; exact km1
          · rw [l2]; exact km2
        · have hd2 : (1 : Int) < (qc : Int) := by omega
          have he2 : ¬ (1 : Int) = (qc : Int) := by omega
          obtain ⟨s0, s1, s2, s3, s4⟩ := HJ6.out.r.cells
          have sf := HJ6.out.r.free
          obtain ⟨q0, q1, q2, q3, q4⟩ := HJ6.out.d.cells
          obtain ⟨u0, u1, u2, u3, u4⟩ := HU6.out.cells
          have uf := HU6.out.free
          have hne1 : o ≠ w.heap.size + 1 + 1 := by omega
          have hne2 : w.heap.size + 1 + 1 ≠ o := by omega
          have hne3 : w.heap.size ≠ o := by omega
          go_wp2_with fail
          refine bodyPost_ret (by simp [results, Try.results51, go_sem, *]; try rfl) rfl ?_
          rw [← HPOP.out]
          have m1 := HT1.out.1 (by first | rfl | trivial)
          have m2 := HT2.out.2 hc2
          rw [show n - 1 = 0 by omega] at m2
          have nom1 : ∀ b off, (some ⟨gg, 0, none⟩ : Option Addr) = some ⟨b, off, none⟩ → b ≠ o := fun b off e => by simp at e; omega
          have nrm1 : ∀ b off, (some ⟨gg, 0, none⟩ : Option Addr) = some ⟨b, off, none⟩ → b ≠ w.heap.size + 1 + 1 := fun b off e => by simp at e; omega
          have nom2 : ∀ b off, (some ⟨gq, 1, none⟩ : Option Addr) = some ⟨b, off, none⟩ → b ≠ o := fun b off e => by simp at e; omega
          have nrm2 : ∀ b off, (some ⟨gq, 1, none⟩ : Option Addr) = some ⟨b, off, none⟩ → b ≠ w.heap.size + 1 + 1 := fun b off e => by simp at e; omega
          have km1 := nums_far (o := 4) (u := .int .i64 dr) (nums_far (o := 3) (u := .int .i64 nx) (nums_far (o := 2) (u := .int .i64 (fi + 1)) (nums_far (o := 1) (u := .slice (some ⟨gq, 1, none⟩) 0 (qc - 1)) (nums_far (o := 0) (u := .slice (some ⟨gg, 0, none⟩) 0 0) (nums_far (o := 2) (u := .int .i64 (fi + 1)) (nums_far (o := 1) (u := .slice (some ⟨gq, 1, none⟩) 0 (qc - 1)) (nums_far (o := 0) (u := .slice (some ⟨gg, 0, none⟩) 0 0) m1 nom1) nom1) nom1) nrm1) nrm1) nrm1) nrm1) nrm1
          have km2 := nums_far (o := 4) (u := .int .i64 dr) (nums_far (o := 3) (u := .int .i64 nx) (nums_far (o := 2) (u := .int .i64 (fi + 1)) (nums_far (o := 1) (u := .slice (some ⟨gq, 1, none⟩) 0 (qc - 1)) (nums_far (o := 0) (u := .slice (some ⟨gg, 0, none⟩) 0 0) (nums_far (o := 2) (u := .int .i64 (fi + 1)) (nums_far (o := 1) (u := .slice (some ⟨gq, 1, none⟩) 0 (qc - 1)) (nums_far (o := 0) (u := .slice (some ⟨gg, 0, none⟩) 0 0) m2 nom2) nom2) nom2) nrm2) nrm2) nrm2) nrm2) nrm2
          have hbb := f6_below5 (c := w.heap.size + 1 + 1) (((HJ6.out.b.setCell (p := ⟨o, 0, none⟩) (show w.heap.size ≤ o by omega) (.slice (some ⟨gg, 0, none⟩) 0 0)).setCell (p := ⟨o, 1, none⟩) (show w.heap.size ≤ o by omega) (.slice (some ⟨gq, 1, none⟩) 0 (qc - 1))).setCell (p := ⟨o, 2, none⟩) (show w.heap.size ≤ o by omega) (.int .i64 (fi + 1))) (by omega) (.slice (some ⟨gg, 0, none⟩) 0 0) (.slice (some ⟨gq, 1, none⟩) 0 (qc - 1)) (.int .i64 (fi + 1)) (.int .i64 nx) (.int .i64 dr)
          have l1 : I.tail.length = 0 := km1.1
          have l2 : P.tail.length = 0 := km2.1
          refine ⟨some ⟨gg, 0, none⟩, 0, some ⟨gq, 1, none⟩, qc - 1, by simp only [l1, l2], ?_, ?_, ⟨fun b off e => by simp at e; omega, fun b off e => by simp at e; omega⟩, hbb⟩
          · rw [l1]; exact km1
          · rw [l2]; exact km2
      · have hd1 : (1 : Int) < (gc : Int) := by omega
        have he1 : ¬ (1 : Int) = (gc : Int) := by omega
        by_cases hc2 : qc = 1
        · subst hc2
          obtain ⟨s0, s1, s2, s3, s4⟩ := HJ6.out.r.cells
          have sf := HJ6.out.r.free
          obtain ⟨q0, q1, q2, q3, q4⟩ := HJ6.out.d.cells
          obtain ⟨u0, u1, u2, u3, u4⟩ := HU6.out.cells
          have uf := HU6.out.free
          have hne1 : o ≠ w.heap.size + 1 + 1 := by omega
          have hne2 : w.heap.size + 1 + 1 ≠ o := by omega
          have hne3 : w.heap.size ≠ o := by omega
          go_wp2_with fail
          refine bodyPost_ret (by simp [results, Try.results51, go_sem, *]; try rfl) rfl ?_
          rw [← HPOP.out]
          have m1 := HT1.out.2 hc1
          rw [show n - 1 = 0 by omega] at m1
          have m2 := HT2.out.1 (by first | rfl | trivial)
          have nom1 : ∀ b off, (some ⟨gg, 1, none⟩ : Option Addr) = some ⟨b, off, none⟩ → b ≠ o := fun b off e => by simp at e; omega
          have nrm1 : ∀ b off, (some ⟨gg, 1, none⟩ : Option Addr) = some ⟨b, off, none⟩ → b ≠ w.heap.size + 1 + 1 := fun b off e => by simp at e; omega
          have nom2 : ∀ b off, (some ⟨gq, 0, none⟩ : Option Addr) = some ⟨b, off, none⟩ → b ≠ o := fun b off e => by simp at e; omega
          have nrm2 : ∀ b off, (some ⟨gq, 0, none⟩ : Option Addr) = some ⟨b, off, none⟩ → b ≠ w.heap.size + 1 + 1 := fun b off e => by simp at e; omega
          have km1 := nums_far (o := 4) (u := .int .i64 dr) (nums_far (o := 3) (u := .int .i64 nx) (nums_far (o := 2) (u := .int .i64 (fi + 1)) (nums_far (o := 1) (u := .slice (some ⟨gq, 0, none⟩) 0 0) (nums_far (o := 0) (u := .slice (some ⟨gg, 1, none⟩) 0 (gc - 1)) (nums_far (o := 2) (u := .int .i64 (fi + 1)) (nums_far (o := 1) (u := .slice (some ⟨gq, 0, none⟩) 0 0) (nums_far (o := 0) (u := .slice (some ⟨gg, 1, none⟩) 0 (gc - 1)) m1 nom1) nom1) nom1) nrm1) nrm1) nrm1) nrm1) nrm1
          have km2 := nums_far (o := 4) (u := .int .i64 dr) (nums_far (o := 3) (u := .int .i64 nx) (nums_far (o := 2) (u := .int .i64 (fi + 1)) (nums_far (o := 1) (u := .slice (some ⟨gq, 0, none⟩) 0 0) (nums_far (o := 0) (u := .slice (some ⟨gg, 1, none⟩) 0 (gc - 1)) (nums_far (o := 2) (u := .int .i64 (fi + 1)) (nums_far (o := 1) (u := .slice (some ⟨gq, 0, none⟩) 0 0) (nums_far (o := 0) (u := .slice (some ⟨gg, 1, none⟩) 0 (gc - 1)) m2 nom2) nom2) nom2) nrm2) nrm2) nrm2) nrm2) nrm2
          have hbb := f6_below5 (c := w.heap.size + 1 + 1) (((HJ6.out.b.setCell (p := ⟨o, 0, none⟩) (show w.heap.size ≤ o by omega) (.slice (some ⟨gg, 1, none⟩) 0 (gc - 1))).setCell (p := ⟨o, 1, none⟩) (show w.heap.size ≤ o by omega) (.slice (some ⟨gq, 0, none⟩) 0 0)).setCell (p := ⟨o, 2, none⟩) (show w.heap.size ≤ o by omega) (.int .i64 (fi + 1))) (by omega) (.slice (some ⟨gg, 1, none⟩) 0 (gc - 1)) (.slice (some ⟨gq, 0, none⟩) 0 0) (.int .i64 (fi + 1)) (.int .i64 nx) (.int .i64 dr)
          have l1 : I.tail.length = 0 := km1.1
          have l2 : P.tail.length = 0 := km2.1
          refine ⟨some ⟨gg, 1, none⟩, gc - 1, some ⟨gq, 0, none⟩, 0, by simp only [l1, l2], ?_, ?_, ⟨fun b off e => by simp at e; omega, fun b off e => by simp at e; omega⟩, hbb⟩
          · rw [l1]; exact km1
          · rw [l2]; exact km2
        · have hd2 : (1 : Int) < (qc : Int) := by omega
          have he2 : ¬ (1 : Int) = (qc : Int) := by omega
          obtain ⟨s0, s1, s2, s3, s4⟩ := HJ6.out.r.cells
          have sf := HJ6.out.r.free
          obtain ⟨q0, q1, q2, q3, q4⟩ := HJ6.out.d.cells
          obtain ⟨u0, u1, u2, u3, u4⟩ := HU6.out.cells
          have uf := HU6.out.free
          have hne1 : o ≠ w.heap.size + 1 + 1 := by omega
          have hne2 : w.heap.size + 1 + 1 ≠ o := by omega
          have hne3 : w.heap.size ≠ o := by omega
          go_wp2_with fail
          refine bodyPost_ret (by simp [results, Try.results51, go_sem, *]; try rfl) rfl ?_
          rw [← HPOP.out]
          have m1 := HT1.out.2 hc1
          have m2 := HT2.out.2 hc2
          have nom1 : ∀ b off, (some ⟨gg, 1, none⟩ : Option Addr) = some ⟨b, off, none⟩ → b ≠ o := fun b off e => by simp at e; omega
          have nrm1 : ∀ b off, (some ⟨gg, 1, none⟩ : Option Addr) = some ⟨b, off, none⟩ → b ≠ w.heap.size + 1 + 1 := fun b off e => by simp at e; omega
          have nom2 : ∀ b off, (some ⟨gq, 1, none⟩ : Option Addr) = some ⟨b, off, none⟩ → b ≠ o := fun b off e => by simp at e; omega
          have nrm2 : ∀ b off, (some ⟨gq, 1, none⟩ : Option Addr) = some ⟨b, off, none⟩ → b ≠ w.heap.size + 1 + 1 := fun b off e => by simp at e; omega
          have km1 := nums_far (o := 4) (u := .int .i64 dr) (nums_far (o := 3) (u := .int .i64 nx) (nums_far (o := 2) (u := .int .i64 (fi + 1)) (nums_far (o := 1) (u := .slice (some ⟨gq, 1, none⟩) (n - 1) (qc - 1)) (nums_far (o := 0) (u := .slice (some ⟨gg, 1, none⟩) (n - 1) (gc - 1)) (nums_far (o := 2) (u := .int .i64 (fi + 1)) (nums_far (o := 1) (u := .slice (some ⟨gq, 1, none⟩) (n - 1) (qc - 1)) (nums_far (o := 0) (u := .slice (some ⟨gg, 1, none⟩) (n - 1) (gc - 1)) m1 nom1) nom1) nom1) nrm1) nrm1) nrm1) nrm1) nrm1
          have km2 := nums_far (o := 4) (u := .int .i64 dr) (nums_far (o := 3) (u := .int .i64 nx) (nums_far (o := 2) (u := .int .i64 (fi + 1)) (nums_far (o := 1) (u := .slice (some ⟨gq, 1, none⟩) (n - 1) (qc - 1)) (nums_far (o := 0) (u := .slice (some ⟨gg, 1, none⟩) (n - 1) (gc - 1)) (nums_far (o := 2) (u := .int .i64 (fi + 1)) (nums_far (o := 1) (u := .slice (some ⟨gq, 1, none⟩) (n - 1) (qc - 1)) (nums_far (o := 0) (u := .slice (some ⟨gg, 1, none⟩) (n - 1) (gc - 1)) m2 nom2) nom2) nom2) nrm2) nrm2) nrm2) nrm2) nrm2
          have hbb := f6_below5 (c := w.heap.size + 1 + 1) (((HJ6.out.b.setCell (p := ⟨o, 0, none⟩) (show w.heap.size ≤ o by omega) (.slice (some ⟨gg, 1, none⟩) (n - 1) (gc - 1))).setCell (p := ⟨o, 1, none⟩) (show w.heap.size ≤ o by omega) (.slice (some ⟨gq, 1, none⟩) (n - 1) (qc - 1))).setCell (p := ⟨o, 2, none⟩) (show w.heap.size ≤ o by omega) (.int .i64 (fi + 1))) (by omega) (.slice (some ⟨gg, 1, none⟩) (n - 1) (gc - 1)) (.slice (some ⟨gq, 1, none⟩) (n - 1) (qc - 1)) (.int .i64 (fi + 1)) (.int .i64 nx) (.int .i64 dr)
          have l1 : I.tail.length = n - 1 := km1.1
          have l2 : P.tail.length = n - 1 := km2.1
          refine ⟨some ⟨gg, 1, none⟩, gc - 1, some ⟨gq, 1, none⟩, qc - 1, by simp only [l1, l2], ?_, ?_, ⟨fun b off e => by simp at e; omega, fun b off e => by simp at e; omega⟩, hbb⟩
          · rw [l1]; exact km1
          · rw [l2]; exact km2
    · have hpp := HPOP.out
      rw [if_neg hyf] at hpp
      have HPOP := Lib.hid hpp
      clear hpp
      obtain ⟨s0, s1, s2, s3, s4⟩ := HJ6.out.r.cells
      have sf := HJ6.out.r.free
      obtain ⟨q0, q1, q2, q3, q4⟩ := HJ6.out.d.cells
      obtain ⟨u0, u1, u2, u3, u4⟩ := HU6.out.cells
      have uf := HU6.out.free
      have hne1 : o ≠ w.heap.size + 1 + 1 := by omega
      have hne2 : w.heap.size + 1 + 1 ≠ o := by omega
      have hne3 : w.heap.size ≠ o := by omega
      go_wp2_with fail
      refine bodyPost_ret (by simp [results, Try.results51, go_sem, *]; try rfl) rfl ?_
      rw [← HPOP.out]
      have no1 : ∀ b off, (some ⟨gg, 0, none⟩ : Option Addr) = some ⟨b, off, none⟩ → b ≠ o := fun b off e => by simp at e; omega
      have nr1 : ∀ b off, (some ⟨gg, 0, none⟩ : Option Addr) = some ⟨b, off, none⟩ → b ≠ w.heap.size + 1 + 1 := fun b off e => by simp at e; omega
      have no2 : ∀ b off, (some ⟨gq, 0, none⟩ : Option Addr) = some ⟨b, off, none⟩ → b ≠ o := fun b off e => by simp at e; omega
      have nr2 : ∀ b off, (some ⟨gq, 0, none⟩ : Option Addr) = some ⟨b, off, none⟩ → b ≠ w.heap.size + 1 + 1 := fun b off e => by simp at e; omega
      have km1 := nums_far (o := 4) (u := .int .i64 dr) (nums_far (o := 3) (u := .int .i64 nx) (nums_far (o := 2) (u := .int .i64 (fi + 1)) (nums_far (o := 1) (u := .slice (some ⟨gq, 0, none⟩) n qc) (nums_far (o := 0) (u := .slice (some ⟨gg, 0, none⟩) n gc) (nums_far (o := 2) (u := .int .i64 (fi + 1)) HNI.out no1) nr1) nr1) nr1) nr1) nr1
      have km2 := nums_far (o := 4) (u := .int .i64 dr) (nums_far (o := 3) (u := .int .i64 nx) (nums_far (o := 2) (u := .int .i64 (fi + 1)) (nums_far (o := 1) (u := .slice (some ⟨gq, 0, none⟩) n qc) (nums_far (o := 0) (u := .slice (some ⟨gg, 0, none⟩) n gc) (nums_far (o := 2) (u := .int .i64 (fi + 1)) HNP.out no2) nr2) nr2) nr2) nr2) nr2
      have hbb := f6_below5 (c := w.heap.size + 1 + 1) (HJ6.out.b.setCell (p := ⟨o, 2, none⟩) (show w.heap.size ≤ o by omega) (.int .i64 (fi + 1))) (by omega) (.slice (some ⟨gg, 0, none⟩) n gc) (.slice (some ⟨gq, 0, none⟩) n qc) (.int .i64 (fi + 1)) (.int .i64 nx) (.int .i64 dr)
      refine ⟨some ⟨gg, 0, none⟩, gc, some ⟨gq, 0, none⟩, qc, by simp only [HIL.out, HPL.out], ?_, ?_, ⟨fun b off e => by simp at e; omega, fun b off e => by simp at e; omega⟩, hbb⟩
      · rw [HIL.out]; exact km1
      · rw [HPL.out]; exact km2
end Go.Proofs.Ytolgclajlklmaaa
