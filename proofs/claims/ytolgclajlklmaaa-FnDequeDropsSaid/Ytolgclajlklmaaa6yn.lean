/-
  The model's change of a deque itself: one that can't be.
-/
import Derived.Test.Ytolgclajlklmaaa6yf
namespace Go.Proofs.Ytolgclajlklmaaa
set_option linter.unusedSimpArgs false
set_option linter.unusedVariables false
open Go.RowKit
set_option maxRecDepth 8000 in
set_option maxHeartbeats 4000000 in
theorem s_l6Deque_not (k : Int) (ia : Option Addr) (n ic : Nat) (pa : Option Addr) (pc : Nat) (fi nx dr : Int) (I P : List Int) (pp : Bool) (x : Int) (w : World) (hI : Nums .i64 w ia n ic I) (hP : Nums .i64 w pa n pc P) (hn : n ≤ 60) (hcan : Agg.can (pp, x) (nx - fi) = false) (hs0 : 0 ≤ nx - fi) (hf0 : 0 ≤ fi) (hf1 : fi ≤ 1000000) (hx0 : 0 ≤ nx) (hx1 : nx ≤ 1000000) :
    Calls Try.prog 51 #[.int .i64 k, .agg #[.slice ia n ic, .slice pa n pc, .int .i64 fi, .int .i64 nx, .int .i64 dr], .agg #[.bool pp, .int .i64 x]] w fun e w' => e = .returned (.tuple #[.agg #[.slice ia n ic, .slice pa n pc, .int .i64 fi, .int .i64 nx, .int .i64 dr], .bool false]) ∧ Below w.heap.size w w' := by
  have HCAN := Lib.hid hcan
  clear hcan
  obtain ⟨i0, hi, hz0, hz1, hz2⟩ := info_parts infoInt
  have HIL := Lib.hid (show I.length = n from hI.1)
  have HPL := Lib.hid (show P.length = n from hP.1)
  have HI := Lib.hid hI
  have HP := Lib.hid hP
  obtain ⟨W, hW⟩ : ∃ W, W = ((w.alloc (.cells #[.slice ia n ic, .slice pa n pc, .int .i64 fi, .int .i64 nx, .int .i64 dr] 26)).alloc (.cells #[.bool pp, .int .i64 x] 40)).alloc (.cells #[.slice none 0 0, .slice none 0 0, .int .i64 0, .int .i64 0, .int .i64 0] 26) := ⟨_, rfl⟩
  have HJ := Lib.hid (show L6St w ia n ic pa pc fi nx dr pp x W from by
    rw [hW]
    exact ⟨((Box5.new w _ _ _ _ _ _).alloc _).alloc _, (Box2d.new1 _ _ _ (by simp)).alloc _, Box5.new1 _ _ _ _ _ _ (by simp), (((Below.refl _ _).alloc (Nat.le_refl _) _).alloc (by simp) _).alloc (by simp; omega) _⟩)
  clear hI hP
  go_enter Try.func51, Try.ntmps51
  go_upto_region 1 with (fail)
  rw [← hW]
  clear hW
  have hWl := HJ.out.lt
  obtain ⟨W1, hW1⟩ : ∃ W1, W1 = W.alloc (.cells #[.slice ia n ic, .slice pa n pc, .int .i64 fi, .int .i64 nx, .int .i64 dr] 26) := ⟨_, rfl⟩
  have HJ1 := Lib.hid (show L6St w ia n ic pa pc fi nx dr pp x W1 from by rw [hW1]; exact HJ.out.alloc _)
  have HU1 := Lib.hid (show Box5 W1 W.heap.size 26 (.slice ia n ic) (.slice pa n pc) (.int .i64 fi) (.int .i64 nx) (.int .i64 dr) from by rw [hW1]; exact Box5.new W _ _ _ _ _ _)
  obtain ⟨q0, q1, q2, q3, q4⟩ := HJ.out.d.cells
  go_upto_region 2 with (fail)
  rw [← hW1]
  clear hW1 q0 q1 q2 q3 q4
  obtain ⟨o, ho⟩ : ∃ o, o = W.heap.size := ⟨_, rfl⟩
  rw [← ho] at HU1 hWl ⊢
  clear ho HJ
  obtain ⟨q0, q1, q2, q3, q4⟩ := HJ1.out.d.cells
  have hla : w.heap.size < W1.heap.size := by have := HJ1.out.lt; omega
  go_upto_region 3 with (at_builtin; go_must (refine wpList_append_copy rfl (.tmp 10) (.tmp 12) 24 rfl 3 i0 (.int .i64 0) 1 8 Try.underlying24 hi hz0 hz1 hz2 rfl (by decide) W1.heap.size rfl (heap_alloc_new W1 _) ia n ic (I.map (Value.int .i64)) rfl (Nums.src (HI.out.below (HJ1.out.b.alloc HJ1.out.b.size _))) (by unfold maxLen; omega) (by omega) ?_); go_loud (intro v2 w2 hown2 hgrow2; obtain ⟨ga, gc, rfl⟩ := slice_own hown2; have HO2 := Lib.hid hown2; have HJ2 := Lib.hid ((HJ1.out.alloc (.cells #[] 3)).grown hgrow2 (fun g e => by have := HJ1.out.lt; simp only [Option.some.injEq] at e; omega)); have HU2 := Lib.hid ((HU1.out.alloc (.cells #[] 3)).grown hgrow2 (fun e => by have := HU1.out.lt; simp only [Option.some.injEq] at e; omega)); have hs2 := hgrow2.size; simp at hs2; obtain ⟨u0, u1, u2, u3, u4⟩ := HU2.out.cells; have uf := HU2.out.free; clear hown2 hgrow2))
  obtain ⟨X2, hX2⟩ : ∃ X2, X2 = w2.setCell ⟨o, 0, none⟩ (.slice ga n gc) := ⟨_, rfl⟩
  have HJ3 := Lib.hid (show L6St w ia n ic pa pc fi nx dr pp x X2 from by rw [hX2]; exact HJ2.out.set hWl)
  have HU3 := Lib.hid (show Box5 X2 o 26 (.slice ga n gc) (.slice pa n pc) (.int .i64 fi) (.int .i64 nx) (.int .i64 dr) from by rw [hX2]; exact HU2.out.set0 _)
  have hWX : W1.heap.size < X2.heap.size := by rw [hX2]; simp only [World.setCell, Array.size_modify]; omega
  have HO3 := Lib.hid (show X2.ownsRow W1.heap.size 3 1 (.slice ga n gc) n (I.map (Value.int .i64)) from by rw [hX2]; exact own_far HO2.out (fun g hg => by have := (HO2.out.lt g hg).1; have := HU1.out.lt; omega))
  rw [← hX2]
  clear hX2 q0 q1 q2 q3 q4 u0 u1 u2 u3 u4 uf HJ2 HU2 HO2
  obtain ⟨q0, q1, q2, q3, q4⟩ := HJ3.out.d.cells
  have hlb : w.heap.size < X2.heap.size := by have := HJ3.out.lt; omega
  go_upto_region 4 with (at_builtin; go_must (refine wpList_append_copy rfl (.tmp 15) (.tmp 17) 24 rfl 3 i0 (.int .i64 0) 1 8 Try.underlying24 hi hz0 hz1 hz2 rfl (by decide) X2.heap.size rfl (heap_alloc_new X2 _) pa n pc (P.map (Value.int .i64)) rfl (Nums.src (HP.out.below (HJ3.out.b.alloc HJ3.out.b.size _))) (by unfold maxLen; omega) (by omega) ?_); go_loud (intro v4 w4 hown4 hgrow4; obtain ⟨qa, qc, rfl⟩ := slice_own hown4; have HO4 := Lib.hid hown4; have HJ4 := Lib.hid ((HJ3.out.alloc (.cells #[] 3)).grown hgrow4 (fun g e => by have := HJ3.out.lt; simp only [Option.some.injEq] at e; omega)); have HU4 := Lib.hid ((HU3.out.alloc (.cells #[] 3)).grown hgrow4 (fun e => by have := HU3.out.lt; simp only [Option.some.injEq] at e; omega)); have HG4 := Lib.hid ((HO3.out.alloc (.cells #[] 3)).kept hgrow4 (row_newd HO3.out (Nat.le_refl _))); have HGL := Lib.hid (fun g (hg : (Value.slice ga n gc).ownBlock = some g) => (HO3.out.lt g hg)); have hs4 := hgrow4.size; simp at hs4; obtain ⟨u0, u1, u2, u3, u4⟩ := HU4.out.cells; have uf := HU4.out.free; clear hown4 hgrow4))
  obtain ⟨X4, hX4⟩ : ∃ X4, X4 = w4.setCell ⟨o, 1, none⟩ (.slice qa n qc) := ⟨_, rfl⟩
  have HJ5 := Lib.hid (show L6St w ia n ic pa pc fi nx dr pp x X4 from by rw [hX4]; exact HJ4.out.set hWl)
  have HU5 := Lib.hid (show Box5 X4 o 26 (.slice ga n gc) (.slice qa n qc) (.int .i64 fi) (.int .i64 nx) (.int .i64 dr) from by rw [hX4]; exact HU4.out.set1 _)
  have hoW := HU1.out.lt
  have hoX := HU3.out.lt
  have HG5 := Lib.hid (show X4.ownsRow W1.heap.size 3 1 (.slice ga n gc) n (I.map (Value.int .i64)) from by rw [hX4]; exact own_far HG4.out (fun g hg => by have := (HGL.out g hg).1; omega))
  have HQ5 := Lib.hid (show X4.ownsRow X2.heap.size 3 1 (.slice qa n qc) n (P.map (Value.int .i64)) from by rw [hX4]; exact own_far HO4.out (fun g hg => by have := (HO4.out.lt g hg).1; omega))
  have hX4s : X2.heap.size < X4.heap.size := by rw [hX4]; simp only [World.setCell, Array.size_modify]; omega
  rw [← hX4]
  clear hX4 q0 q1 q2 q3 q4 u0 u1 u2 u3 u4 uf HJ4 HU4 HO4 HG4 HJ3 HU3 HO3 HJ1 HU1
  obtain ⟨p0, p1⟩ := HJ5.out.o.cells
  obtain ⟨q0, q1, q2, q3, q4⟩ := HJ5.out.d.cells
  obtain ⟨u0, u1, u2, u3, u4⟩ := HU5.out.cells
  obtain ⟨s0, s1, s2, s3, s4⟩ := HJ5.out.r.cells
  have hsw : IntKind.i64.wrap (nx - fi) = nx - fi := IntWalk.i64_in _ ⟨by omega, by omega⟩
  cases pp
  · by_cases hx0' : x = 0
    · have he : fi = nx := by have h := HCAN.out; simp [Agg.can, Agg.opOk, hx0'] at h; omega
      subst he
      subst hx0'
      have sf := HJ5.out.r.free
      go_wp2_with fail
      refine bodyPost_ret (by simp [results, Try.results51, go_sem, *]; try rfl) rfl ?_
      exact ⟨rfl, f6_below5 HJ5.out.b (by omega) _ _ _ _ _⟩
    · skip
      have sf := HJ5.out.r.free
      go_wp2_with fail
      refine bodyPost_ret (by simp [results, Try.results51, go_sem, *]; try rfl) rfl ?_
      exact ⟨rfl, f6_below5 HJ5.out.b (by omega) _ _ _ _ _⟩
  · cases hxi : Agg.isItem x
    · have HXI := Lib.hid hxi
      clear hxi
      go_wp2_with fail
      refine (s_in_item _ _).mono ?_
      rintro e wk ⟨rfl, rfl⟩
      rw [HXI.out]
      have sf := HJ5.out.r.free
      go_wp2_with fail
      refine bodyPost_ret (by simp [results, Try.results51, go_sem, *]; try rfl) rfl ?_
      exact ⟨rfl, f6_below5 HJ5.out.b (by omega) _ _ _ _ _⟩
    · have hge : 60 ≤ nx - fi := by have h := HCAN.out; simp [Agg.can, Agg.opOk, hxi] at h; omega
      have HXI := Lib.hid hxi
      clear hxi
      go_wp2_with fail
      refine (s_in_item _ _).mono ?_
      rintro e wk ⟨rfl, rfl⟩
      rw [HXI.out]
      have sf := HJ5.out.r.free
      go_wp2_with fail
      refine bodyPost_ret (by simp [results, Try.results51, go_sem, *]; try rfl) rfl ?_
      exact ⟨rfl, f6_below5 HJ5.out.b (by omega) _ _ _ _ _⟩
end Go.Proofs.Ytolgclajlklmaaa
