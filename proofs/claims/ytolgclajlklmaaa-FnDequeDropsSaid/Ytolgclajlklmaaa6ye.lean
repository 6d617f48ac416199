/-
  The model's change of a deque: copies, the change itself.
-/
import Derived.Test.Ytolgclajlklmaaa6fx
import Derived.Test.Ytolgclajlklmaaa6yc
import Derived.Test.YtolgclajlklmaaaRw
namespace Go.Proofs.Ytolgclajlklmaaa
set_option linter.unusedSimpArgs false
set_option linter.unusedVariables false
open Go.RowKit
theorem new_atd {Y : World} {g : Nat} {o : Obj} (hg : g = Y.heap.size) : (Y.alloc o).heap[g]? = some o := by subst hg; exact heap_alloc_new Y o
theorem ownsRow_low {w : World} {base e size n d o : Nat} {v u : Value} {xs : List Value} (h : w.ownsRow base e size v n xs) (hd : d < base) : (w.setCell ⟨d, o, none⟩ u).ownsRow base e size v n xs := own_far h (fun g hg => by have := (h.lt g hg).1; omega)
theorem row_newd {w : World} {base e size n g : Nat} {v : Value} {xs : List Value} (h : w.ownsRow base e size v n xs) (hg : w.heap.size ≤ g) : v.ownBlock = none ∨ v.ownBlock ≠ some g := by
  cases hv : v.ownBlock with
  | none => exact .inl rfl
  | some k => exact .inr (fun e => by have := (h.lt k hv).2; cases e; omega)
set_option maxRecDepth 8000 in
set_option maxHeartbeats 4000000 in
theorem s_l6Copy_any (ia : Option Addr) (n ic : Nat) (pa : Option Addr) (m pc : Nat) (fi nx dr : Int) (I P : List Int) (w : World) (hI : Nums .i64 w ia n ic I) (hP : Nums .i64 w pa m pc P) (h1 : n ≤ 1048576) (h2 : m ≤ 1048576) :
    Calls Try.prog 53 #[.agg #[.slice ia n ic, .slice pa m pc, .int .i64 fi, .int .i64 nx, .int .i64 dr]] w (MadeDq ⟨I, P, fi, nx, dr⟩ w) := by
  obtain ⟨j0, hj, hy0, hy1, hy2⟩ := info_parts infoInt
  have HIL := Lib.hid (show I.length = n from hI.1)
  have HPL := Lib.hid (show P.length = m from hP.1)
  have HI := Lib.hid hI
  have HP := Lib.hid hP
  clear hI hP
  go_enter Try.func53, Try.ntmps53
  go_wp2_with (at_builtin; first | (refine wpList_append_copy rfl (.tmp 3) (.tmp 5) 24 rfl 3 j0 (.int .i64 0) 1 8 Try.underlying24 hj hy0 hy1 hy2 rfl (by decide) (w.heap.size + 1 + 1) rfl (new_atd (by simp)) ia n ic (I.map (Value.int .i64)) rfl (Nums.src (HI.out.below (by go_grown))) (by unfold maxLen; omega) (by omega) ?_; intro v1 w1 hown1 hgrow1; obtain ⟨a1, c1, rfl⟩ := slice_own hown1; have HO1 := Lib.hid hown1; have HX1 := Lib.hid (Box5.grown (c := w.heap.size) (T := 26) (((Box5.new w _ _ _ _ _ _).alloc _).alloc _) hgrow1 (by simp <;> omega)); have HR1 := Lib.hid (Box5.grown (c := w.heap.size + 1) (T := 26) ((Box5.new1 (Y := w.alloc _) _ _ _ _ _ _ (by simp)).alloc _) hgrow1 (by simp <;> omega)); have HW1 := Lib.hid (Below.grown ((((Below.refl w.heap.size w).alloc (Nat.le_refl _) _).alloc (by simp) _).alloc (by simp; omega) _) hgrow1 (by simp <;> omega) (fun k hk => by have := Option.some.inj hk; omega)); obtain ⟨q0, q1, q2, q3, q4⟩ := HX1.out.cells; have f0 := HX1.out.free 0; have f1 := HX1.out.free 1; have hx1 := HX1.out.lt; have hs1 := hgrow1.size; simp at hs1; have hs1' : w.heap.size + 1 < w1.heap.size := (by omega); clear hown1 hgrow1) | (go_must (refine wpList_append_copy rfl (.tmp 8) (.tmp 10) 24 rfl 3 j0 (.int .i64 0) 1 8 Try.underlying24 hj hy0 hy1 hy2 rfl (by decide) w1.heap.size rfl (new_atd (by simp [World.setCell])) pa m pc (P.map (Value.int .i64)) rfl (Nums.src (HP.out.below ((HW1.out.setCell (by simp) _).alloc (by simp [World.setCell]; omega) _))) (by unfold maxLen; omega) (by omega) ?_; intro v2 w2 hown2 hgrow2; obtain ⟨a2, c2, rfl⟩ := slice_own hown2; have HO2 := Lib.hid hown2; have HX2 := Lib.hid (Box5.grown ((HX1.out.set0 _).alloc _) hgrow2 (by simp <;> omega)); have HR2 := Lib.hid (Box5.grown ((HR1.out.other (by simp <;> omega) _ _).alloc _) hgrow2 (by simp <;> omega)); have HW2 := Lib.hid (Below.grown ((HW1.out.setCell (p := ⟨w.heap.size, 0, none⟩) (Nat.le_refl _) (.slice a1 n c1)).alloc (by simp [World.setCell]; omega) (.cells #[] 3)) hgrow2 (by simp [World.setCell]; omega) (fun k hk => by have := Option.some.inj hk; omega)); have HO12 := Lib.hid (World.ownsRow.kept ((ownsRow_low HO1.out (by omega)).alloc (.cells #[] 3)) hgrow2 (row_newd HO1.out (Nat.le_refl _))); have HB12 := Lib.hid (fun g (hg : (Value.slice a1 n c1).ownBlock = some g) => (HO1.out.lt g hg).2); obtain ⟨r0, r1, r2, r3, r4⟩ := HR2.out.cells; have gR := HR2.out.free; obtain ⟨p0, p1, p2, p3, p4⟩ := HX2.out.cells; have g0 := HX2.out.free 0; have g1 := HX2.out.free 1; have hx2 := HX2.out.lt; have hs2 := hgrow2.size; simp [World.setCell] at hs2; clear hown2 hgrow2)))
  refine bodyPost_ret (by simp [results, Try.results53, go_sem, *]; try rfl) rfl ?_
  have hf := HIL.out
  have hi2 := HPL.out
  subst hf
  subst hi2
  have hW3 : Below w.heap.size w ((((((w2.setCell ⟨w.heap.size, 1, none⟩ (.slice a2 P.length c2)).setCell ⟨w.heap.size + 1, 0, none⟩ (.slice a1 I.length c1)).setCell ⟨w.heap.size + 1, 1, none⟩ (.slice a2 P.length c2)).setCell ⟨w.heap.size + 1, 2, none⟩ (.int .i64 fi)).setCell ⟨w.heap.size + 1, 3, none⟩ (.int .i64 nx)).setCell ⟨w.heap.size + 1, 4, none⟩ (.int .i64 dr)) :=
    (((((HW2.out.setCell (Nat.le_refl _) _).setCell (by simp) _).setCell (by simp) _).setCell (by simp) _).setCell (by simp) _).setCell (by simp) _
  have k1 := ownsRow_low (o := 4) (u := .int .i64 dr) (ownsRow_low (o := 3) (u := .int .i64 nx) (ownsRow_low (o := 2) (u := .int .i64 fi) (ownsRow_low (o := 1) (u := .slice a2 P.length c2) (ownsRow_low (o := 0) (u := .slice a1 I.length c1) (ownsRow_low (d := w.heap.size) (o := 1) (u := .slice a2 P.length c2) HO12.out (by omega)) (show w.heap.size + 1 < w.heap.size + 1 + 1 by omega)) (show w.heap.size + 1 < w.heap.size + 1 + 1 by omega)) (show w.heap.size + 1 < w.heap.size + 1 + 1 by omega)) (show w.heap.size + 1 < w.heap.size + 1 + 1 by omega)) (show w.heap.size + 1 < w.heap.size + 1 + 1 by omega)
  have k2 := ownsRow_low (o := 4) (u := .int .i64 dr) (ownsRow_low (o := 3) (u := .int .i64 nx) (ownsRow_low (o := 2) (u := .int .i64 fi) (ownsRow_low (o := 1) (u := .slice a2 P.length c2) (ownsRow_low (o := 0) (u := .slice a1 I.length c1) (ownsRow_low (d := w.heap.size) (o := 1) (u := .slice a2 P.length c2) HO2.out (by omega)) (show w.heap.size + 1 < w1.heap.size by omega)) (show w.heap.size + 1 < w1.heap.size by omega)) (show w.heap.size + 1 < w1.heap.size by omega)) (show w.heap.size + 1 < w1.heap.size by omega)) (show w.heap.size + 1 < w1.heap.size by omega)
  refine ⟨_, rfl, ⟨_, _, rfl, own_s (owns_lower k1 (by omega)) hW3.size, own_s (owns_lower k2 (by omega)) hW3.size, ?_⟩, hW3⟩
  cases hv : (Value.slice a1 I.length c1).ownBlock with
  | none => exact .inl rfl
  | some g =>
    refine .inr (fun e => ?_)
    have h5 := HB12.out g hv
    have h6 := (HO2.out.lt g e.symm).1
    omega
end Go.Proofs.Ytolgclajlklmaaa
