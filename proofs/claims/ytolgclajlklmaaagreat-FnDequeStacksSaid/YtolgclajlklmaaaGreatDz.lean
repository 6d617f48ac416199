import Derived.Test.YtolgclajlklmaaaGreatQx
import Derived.Test.YtolgclajlklmaaaGreatDt
import Derived.Test.YtolgclajlklmaaaGreatRw
namespace Go.Proofs.YtolgclajlklmaaaGreat
set_option linter.unusedSimpArgs false
set_option linter.unusedVariables false
open Go.RowKit
def MadeDq (s : Agg.Dq) (w : World) (e : Ending) (w' : World) : Prop := ∃ v, e = .returned v ∧ DqOwn w' w.heap.size w'.heap.size v s ∧ Below w.heap.size w w'
end Go.Proofs.YtolgclajlklmaaaGreat

namespace Go.Proofs.YtolgclajlklmaaaGreat
set_option linter.unusedSimpArgs false
set_option linter.unusedVariables false
open Go.RowKit
theorem new_atd {Y : World} {g : Nat} {o : Obj} (hg : g = Y.heap.size) : (Y.alloc o).heap[g]? = some o := by subst hg; exact heap_alloc_new Y o
theorem ownsRow_low {w : World} {base e size n d o : Nat} {v u : Value} {xs : List Value} (h : w.ownsRow base e size v n xs) (hd : d < base) : (w.setCell ⟨d, o, none⟩ u).ownsRow base e size v n xs := own_far h (fun g hg => by have := (h.lt g hg).1; omega)
theorem row_newd {w : World} {base e size n g : Nat} {v : Value} {xs : List Value} (h : w.ownsRow base e size v n xs) (hg : w.heap.size ≤ g) : v.ownBlock = none ∨ v.ownBlock ≠ some g := by
  cases hv : v.ownBlock with
  | none => exact .inl rfl
  | some k => exact .inr (fun e => by have := (h.lt k hv).2; cases e; omega)
set_option maxRecDepth 8000 in
set_option maxHeartbeats 4000000 in
theorem s_l6Copy_any (ia : Option Addr) (n ic : Nat) (pa : Option Addr) (m pc : Nat) (fi nx dr : Int) (I P : List Int) (w : World) (hI : Nums .i64 w ia n ic I) (hP : Nums .i64 w pa m pc P) (h1 : n ≤ 1048576) (h2 : m ≤ 1048576) :
    Calls Tryz.prog 41 #[.agg #[.slice ia n ic, .slice pa m pc, .int .i64 fi, .int .i64 nx, .int .i64 dr]] w (MadeDq ⟨I, P, fi, nx, dr⟩ w) := by
  obtain ⟨j0, hj, hy0, hy1, hy2⟩ := info_parts infoInt
  have HIL := Lib.hid (show I.length = n from hI.1)
  have HPL := Lib.hid (show P.length = m from hP.1)
  have HI := Lib.hid hI
  have HP := Lib.hid hP
  clear hI hP
  go_enter Tryz.func41, Tryz.ntmps41
  go_wp2_with (at_builtin; first | (refine wpList_append_copy rfl (.tmp 3) (.tmp 5) 26 rfl 3 j0 (.int .i64 0) 1 8 Tryz.underlying26 hj hy0 hy1 hy2 rfl (by decide) (w.heap.size + 1 + 1) rfl (new_atd (by simp)) ia n ic (I.map (Value.int .i64)) rfl (Nums.src (HI.out.below (by go_grown))) (by unfold maxLen; omega) (by omega) ?_; intro v1 w1 hown1 hgrow1; obtain ⟨a1, c1, rfl⟩ := slice_own hown1; have HO1 := Lib.hid hown1; have HX1 := Lib.hid (Box5.grown (c := w.heap.size) (T := 28) (((Box5.new w _ _ _ _ _ _).alloc _).alloc _) hgrow1 (by simp <;> omega)); have HR1 := Lib.hid (Box5.grown (c := w.heap.size + 1) (T := 28) ((Box5.new1 (Y := w.alloc _) _ _ _ _ _ _ (by simp)).alloc _) hgrow1 (by simp <;> omega)); have HW1 := Lib.hid (Below.grown ((((Below.refl w.heap.size w).alloc (Nat.le_refl _) _).alloc (by simp) _).alloc (by simp; omega) _) hgrow1 (by simp <;> omega) (fun k hk => by have := Option.some.inj hk; omega)); obtain ⟨q0, q1, q2, q3, q4⟩ := HX1.out.cells; have f0 := HX1.out.free 0; have f1 := HX1.out.free 1; have hx1 := HX1.out.lt; have hs1 := hgrow1.size; simp at hs1; have hs1' : w.heap.size + 1 < w1.heap.size := (by omega); clear hown1 hgrow1) | (go_must (refine wpList_append_copy rfl (.tmp 8) (.tmp 10) 26 rfl 3 j0 (.int .i64 0) 1 8 Tryz.underlying26 hj hy0 hy1 hy2 rfl (by decide) w1.heap.size rfl (new_atd (by simp [World.setCell])) pa m pc (P.map (Value.int .i64)) rfl (Nums.src (HP.out.below ((HW1.out.setCell (by simp) _).alloc (by simp [World.setCell]; omega) _))) (by unfold maxLen; omega) (by omega) ?_; intro v2 w2 hown2 hgrow2; obtain ⟨a2, c2, rfl⟩ := slice_own hown2; have HO2 := Lib.hid hown2; have HX2 := Lib.hid (Box5.grown ((HX1.out.set0 _).alloc _) hgrow2 (by simp <;> omega)); have HR2 := Lib.hid (Box5.grown ((HR1.out.other (by simp <;> omega) _ _).alloc _) hgrow2 (by simp <;> omega)); have HW2 := Lib.hid (Below.grown ((HW1.out.setCell (p := ⟨w.heap.size, 0, none⟩) (Nat.le_refl _) (.slice a1 n c1)).alloc (by simp [World.setCell]; omega) (.cells #[] 3)) hgrow2 (by simp [World.setCell]; omega) (fun k hk => by have := Option.some.inj hk; omega)); have HO12 := Lib.hid (World.ownsRow.kept ((ownsRow_low HO1.out (by omega)).alloc (.cells #[] 3)) hgrow2 (row_newd HO1.out (Nat.le_refl _))); have HB12 := Lib.hid (fun g (hg : (Value.slice a1 n c1).ownBlock = some g) => (HO1.out.lt g hg).2); obtain ⟨r0, r1, r2, r3, r4⟩ := HR2.out.cells; have gR := HR2.out.free; obtain ⟨p0, p1, p2, p3, p4⟩ := HX2.out.cells; have g0 := HX2.out.free 0; have g1 := HX2.out.free 1; have hx2 := HX2.out.lt; have hs2 := hgrow2.size; simp [World.setCell] at hs2; clear hown2 hgrow2)))
  refine bodyPost_ret (by simp [results, Tryz.results41, go_sem, *]; try rfl) rfl ?_
  have hf := HIL.out
  have hi2 := HPL.out
  subst hf
  subst hi2
  have hW3 : Below w.heap.size w ((((((w2.setCell ⟨w.heap.size, 1, none⟩ (.slice a2 P.length c2)).setCell ⟨w.heap.size + 1, 0, none⟩ (.slice a1 I.length c1)).setCell ⟨w.heap.size + 1, 1, none⟩ (.slice a2 P.length c2)).setCell ⟨w.heap.size + 1, 2, none⟩ (.int .i64 fi)).setCell ⟨w.heap.size + 1, 3, none⟩ (.int .i64 nx)).setCell ⟨w.heap.size + 1, 4, none⟩ (.int .i64 dr)) :=
    (((((HW2.out.setCell (Nat.le_refl _) _).setCell (by simp) _).setCell (by simp) _).setCell (by simp) _).setCell (by simp) _).setCell (by simp) _
  have k1 := ownsRow_low (o := 4) (u := .int .i64 dr) (ownsRow_low (o := 3) (u := .int .i64 nx) (ownsRow_low (o := 2) (u := .int .i64 fi) (ownsRow_low (o := 1) (u := .slice a2 P.length c2) (ownsRow_low (o := 0) (u := .slice a1 I.length c1) (ownsRow_low (d := w.heap.size) (o := 1) (u := .slice a2 P.length c2) HO12.out (by omega)) (show w.heap.size + 1 < w.heap.size + 1 + 1 by omega)) (show w.heap.size + 1 < w.heap.size + 1 + 1 by omega)) (show w.heap.size + 1 < w.heap.size + 1 + 1 by omega)) (show w.heap.size + 1 < w.heap.size + 1 + 1 by omega)) (show w.heap.size + 1 < w.heap.size + 1 + 1 by omega)
  have k2 := ownsRow_low (o := 4) (u := .int .i64 dr) (ownsRow_low (o := 3) (u := .int .i64 nx) (ownsRow_low (o := 2) (u := .int .i64 fi) (ownsRow_low (o := 1) (u := .slice a2 P.length c2) (ownsRow_low (o := 0) (u := .slice a1 I.length c1) (ownsRow_low (d := w.heap.size) (o := 1) (u := .slice a2 P.length c2) HO2.out (by omega)) (show w.heap.size + 1 < w1.heap.size by omega)) (show w.heap.size + 1 < w1.heap.size by omega)) (show w.heap.size + 1 < w1.heap.size by omega)) (show w.heap.size + 1 < w1.heap.size by omega)) (show w.heap.size + 1 < w1.heap.size by omega)
  refine ⟨_, rfl, ⟨_, _, rfl, own_s (owns_lower k1 (by omega)) hW3.size, own_s (owns_lower k2 (by omega)) hW3.size, ?_⟩, hW3⟩
  cases hv : (Value.slice a1 I.length c1).ownBlock with
  | none => exact .inl rfl
  | some g =>
    refine .inr (fun e => ?_)
    have h5 := HB12.out g hv
    have h6 := (HO2.out.lt g e.symm).1
    omega
end Go.Proofs.YtolgclajlklmaaaGreat

namespace Go.Proofs.YtolgclajlklmaaaGreat
set_option linter.unusedSimpArgs false
set_option linter.unusedVariables false
open Go.RowKit
theorem own_some6 {w : World} {base n c : Nat} {a : Option Addr} {xs : List Value} {e size : Nat} (h : w.ownsRow base e size (.slice a n c) n xs) (hn : 0 < n) : ∃ g, a = some ⟨g, 0, none⟩ ∧ base ≤ g ∧ g < w.heap.size ∧ n ≤ c ∧ c ≤ 9223372036854775807 := by
  rcases h.2 with ⟨e, h0⟩ | ⟨g, cap, cur, e, hb, hg, h1, h2, -⟩
  · omega
  · simp only [Value.slice.injEq, true_and] at e
    obtain ⟨rfl, rfl⟩ := e
    exact ⟨g, rfl, hb, (Array.getElem?_eq_some_iff.1 hg).1, h1, by unfold maxLen at h2; omega⟩
def L6Dq (s : Agg.Dq) (w : World) (e : Ending) (w' : World) : Prop :=
  ∃ a c a' c', e = .returned (.tuple #[.agg #[.slice a s.items.length c, .slice a' s.places.length c', .int .i64 s.first, .int .i64 s.next, .int .i64 s.drops], .bool true]) ∧ Nums .i64 w' a s.items.length c s.items ∧ Nums .i64 w' a' s.places.length c' s.places ∧ ((∀ b off, a = some ⟨b, off, none⟩ → w.heap.size ≤ b) ∧ (∀ b off, a' = some ⟨b, off, none⟩ → w.heap.size ≤ b)) ∧ Below w.heap.size w w'
def lenAt (w : World) (o : Nat) : Nat := match w.cell? ⟨o, 0, none⟩ with | some (.slice _ t _) => t | _ => 0
theorem lenAt_box {w : World} {o : Nat} {T : TypeId} {a : Option Addr} {t c : Nat} {v1 v2 v3 v4 : Value} (h : Box5 w o T (.slice a t c) v1 v2 v3 v4) : lenAt w o = t := by
  simp [lenAt, h.cells.1]
structure L6St (w : World) (ia : Option Addr) (n ic : Nat) (pa : Option Addr) (pc : Nat) (fi nx dr : Int) (p : Bool) (x : Int) (wr : World) : Prop where
  d : Box5 wr w.heap.size 28 (.slice ia n ic) (.slice pa n pc) (.int .i64 fi) (.int .i64 nx) (.int .i64 dr)
  o : Box2d wr (w.heap.size + 1) 76 (.bool p) (.int .i64 x)
  r : Box5 wr (w.heap.size + 1 + 1) 28 (.slice none 0 0) (.slice none 0 0) (.int .i64 0) (.int .i64 0) (.int .i64 0)
  b : Below w.heap.size w wr
section
variable {w wr w2 : World} {ia : Option Addr} {n ic : Nat} {pa : Option Addr} {pc : Nat} {fi nx dr : Int} {p : Bool} {x : Int}
theorem L6St.call (h : L6St w ia n ic pa pc fi nx dr p x wr) (hb : Below wr.heap.size wr w2) : L6St w ia n ic pa pc fi nx dr p x w2 := ⟨h.d.call hb, h.o.call hb, h.r.call hb, h.b.trans (hb.mono h.b.size)⟩
theorem L6St.drew (h : L6St w ia n ic pa pc fi nx dr p x wr) : L6St w ia n ic pa pc fi nx dr p x wr.drew := ⟨h.d, h.o, h.r, h.b.drew⟩
theorem L6St.callD (h : L6St w ia n ic pa pc fi nx dr p x wr) (hb : Below wr.drew.heap.size wr.drew w2) : L6St w ia n ic pa pc fi nx dr p x w2 := L6St.call (wr := wr.drew) h.drew hb
theorem L6St.alloc (h : L6St w ia n ic pa pc fi nx dr p x wr) (o : Obj) : L6St w ia n ic pa pc fi nx dr p x (wr.alloc o) := h.call ((Below.refl _ _).alloc (Nat.le_refl _) _)
theorem L6St.grown {row : Option Nat} (h : L6St w ia n ic pa pc fi nx dr p x wr) (hg : wr.grownBy w2 row) (hr : ∀ g, row = some g → w.heap.size + 3 ≤ g) : L6St w ia n ic pa pc fi nx dr p x w2 :=
  ⟨h.d.grown hg (fun e => by have := hr _ e; omega), h.o.grown hg (fun e => by have := hr _ e; omega), h.r.grown hg (fun e => by have := hr _ e; omega), h.b.grown hg h.b.size (fun g e => by have := hr g e; omega)⟩
theorem L6St.set {c o : Nat} {u : Value} (h : L6St w ia n ic pa pc fi nx dr p x wr) (hc : w.heap.size + 3 ≤ c) : L6St w ia n ic pa pc fi nx dr p x (wr.setCell ⟨c, o, none⟩ u) :=
  ⟨h.d.other (by omega) _ _, h.o.other (by omega) _ _, h.r.other (by omega) _ _, h.b.setCell (show w.heap.size ≤ c by omega) _⟩
theorem L6St.lt (h : L6St w ia n ic pa pc fi nx dr p x wr) : w.heap.size + 3 ≤ wr.heap.size := by have := h.r.lt; omega
end
theorem L6St.touch {w wr w2 : World} {ia : Option Addr} {n ic : Nat} {pa : Option Addr} {pc : Nat} {fi nx dr : Int} {p : Bool} {x : Int} {o : Nat} (h : L6St w ia n ic pa pc fi nx dr p x wr) (ht : Touch o (o + 1) wr w2) (ho : w.heap.size + 3 ≤ o) : L6St w ia n ic pa pc fi nx dr p x w2 :=
  ⟨touch_block h.d ht (by omega), touch_block h.o ht (by omega), touch_block h.r ht (by omega), ht.below h.b (Nat.le_refl _) (by omega)⟩
theorem Touch.here {lo hi : Nat} {W X : World} (h : Touch lo hi W X) {c o : Nat} {u : Value} (h1 : lo ≤ c) (h2 : c < hi) : Touch lo hi W (X.setCell ⟨c, o, none⟩ u) :=
  ⟨h.1, h.2.1, h.2.2.1, by have := h.2.2.2.1; simpa [World.setCell] using this, fun j hj hd => (Below.heap_setCell _ _ _ _ (show j ≠ c by omega)).trans (h.2.2.2.2 j hj hd)⟩
theorem ob_eq (a : Option Addr) (n c m d : Nat) : (Value.slice a n c).ownBlock = (Value.slice a m d).ownBlock := by cases a <;> rfl
theorem made_row {W w1 : World} {o : Obj} {base n g : Nat} {v : Value} {xs : List Value} (h : w1.ownsRow base 3 1 v n xs) : ∃ a c, v = .slice a n c := slice_own h
set_option maxRecDepth 8000 in
set_option maxHeartbeats 4000000 in
theorem s_l6Deque_push (k : Int) (ia : Option Addr) (n ic : Nat) (pa : Option Addr) (pc : Nat) (fi nx dr : Int) (I P : List Int) (x : Int) (w : World) (hI : Nums .i64 w ia n ic I) (hP : Nums .i64 w pa n pc P) (hn : n ≤ 60) (hx : Agg.isItem x = true) (hs0 : nx - fi < 60) (hf0 : 0 ≤ fi) (hf1 : fi ≤ 1000000) (hx0 : 0 ≤ nx) (hx1 : nx ≤ 900000) (hd0 : 0 ≤ dr) (hd1 : dr ≤ 900000) :
    Calls Tryz.prog 39 #[.int .i64 k, .agg #[.slice ia n ic, .slice pa n pc, .int .i64 fi, .int .i64 nx, .int .i64 dr], .agg #[.bool true, .int .i64 x]] w (L6Dq (Agg.pushD k ⟨I, P, fi, nx, dr⟩ x) w) := by
  obtain ⟨pp, hpp⟩ : ∃ pp, pp = true := ⟨_, rfl⟩
  rw [← hpp]
  have HPPP := Lib.hid hpp
  clear hpp
  have HXI := Lib.hid hx
  clear hx
  obtain ⟨i0, hi, hz0, hz1, hz2⟩ := info_parts infoInt
  have HIL := Lib.hid (show I.length = n from hI.1)
  have HPL := Lib.hid (show P.length = n from hP.1)
  have HI := Lib.hid hI
  have HP := Lib.hid hP
  obtain ⟨W, hW⟩ : ∃ W, W = ((w.alloc (.cells #[.slice ia n ic, .slice pa n pc, .int .i64 fi, .int .i64 nx, .int .i64 dr] 28)).alloc (.cells #[.bool pp, .int .i64 x] 76)).alloc (.cells #[.slice none 0 0, .slice none 0 0, .int .i64 0, .int .i64 0, .int .i64 0] 28) := ⟨_, rfl⟩
  have HJ := Lib.hid (show L6St w ia n ic pa pc fi nx dr pp x W from by
    rw [hW]
    exact ⟨((Box5.new w _ _ _ _ _ _).alloc _).alloc _, (Box2d.new1 _ _ _ (by simp)).alloc _, Box5.new1 _ _ _ _ _ _ (by simp), (((Below.refl _ _).alloc (Nat.le_refl _) _).alloc (by simp) _).alloc (by simp; omega) _⟩)
  clear hI hP
  go_enter Tryz.func39, Tryz.ntmps39
  go_upto_region 1 with (fail)
  rw [← hW]
  clear hW
  have hWl := HJ.out.lt
  obtain ⟨W1, hW1⟩ : ∃ W1, W1 = W.alloc (.cells #[.slice ia n ic, .slice pa n pc, .int .i64 fi, .int .i64 nx, .int .i64 dr] 28) := ⟨_, rfl⟩
  have HJ1 := Lib.hid (show L6St w ia n ic pa pc fi nx dr pp x W1 from by rw [hW1]; exact HJ.out.alloc _)
  have HU1 := Lib.hid (show Box5 W1 W.heap.size 28 (.slice ia n ic) (.slice pa n pc) (.int .i64 fi) (.int .i64 nx) (.int .i64 dr) from by rw [hW1]; exact Box5.new W _ _ _ _ _ _)
  obtain ⟨q0, q1, q2, q3, q4⟩ := HJ.out.d.cells
  go_upto_region 2 with (fail)
  rw [← hW1]
  clear hW1 q0 q1 q2 q3 q4
  obtain ⟨o, ho⟩ : ∃ o, o = W.heap.size := ⟨_, rfl⟩
  rw [← ho] at HU1 hWl ⊢
  clear ho HJ
  obtain ⟨q0, q1, q2, q3, q4⟩ := HJ1.out.d.cells
  have hla : w.heap.size < W1.heap.size := by have := HJ1.out.lt; omega
  go_upto_region 3 with (at_builtin; go_must (refine wpList_append_copy rfl (.tmp 10) (.tmp 12) 26 rfl 3 i0 (.int .i64 0) 1 8 Tryz.underlying26 hi hz0 hz1 hz2 rfl (by decide) W1.heap.size rfl (heap_alloc_new W1 _) ia n ic (I.map (Value.int .i64)) rfl (Nums.src (HI.out.below (HJ1.out.b.alloc HJ1.out.b.size _))) (by unfold maxLen; omega) (by omega) ?_); go_loud (intro v2 w2 hown2 hgrow2; obtain ⟨ga, gc, rfl⟩ := slice_own hown2; have HO2 := Lib.hid hown2; have HJ2 := Lib.hid ((HJ1.out.alloc (.cells #[] 3)).grown hgrow2 (fun g e => by have := HJ1.out.lt; simp only [Option.some.injEq] at e; omega)); have HU2 := Lib.hid ((HU1.out.alloc (.cells #[] 3)).grown hgrow2 (fun e => by have := HU1.out.lt; simp only [Option.some.injEq] at e; omega)); have hs2 := hgrow2.size; simp at hs2; obtain ⟨u0, u1, u2, u3, u4⟩ := HU2.out.cells; have uf := HU2.out.free; clear hown2 hgrow2))
  obtain ⟨X2, hX2⟩ : ∃ X2, X2 = w2.setCell ⟨o, 0, none⟩ (.slice ga n gc) := ⟨_, rfl⟩
  have HJ3 := Lib.hid (show L6St w ia n ic pa pc fi nx dr pp x X2 from by rw [hX2]; exact HJ2.out.set hWl)
  have HU3 := Lib.hid (show Box5 X2 o 28 (.slice ga n gc) (.slice pa n pc) (.int .i64 fi) (.int .i64 nx) (.int .i64 dr) from by rw [hX2]; exact HU2.out.set0 _)
  have hWX : W1.heap.size < X2.heap.size := by rw [hX2]; simp only [World.setCell, Array.size_modify]; omega
  have HO3 := Lib.hid (show X2.ownsRow W1.heap.size 3 1 (.slice ga n gc) n (I.map (Value.int .i64)) from by rw [hX2]; exact own_far HO2.out (fun g hg => by have := (HO2.out.lt g hg).1; have := HU1.out.lt; omega))
  rw [← hX2]
  clear hX2 q0 q1 q2 q3 q4 u0 u1 u2 u3 u4 uf HJ2 HU2 HO2
  obtain ⟨q0, q1, q2, q3, q4⟩ := HJ3.out.d.cells
  have hlb : w.heap.size < X2.heap.size := by have := HJ3.out.lt; omega
  go_upto_region 4 with (at_builtin; go_must (refine wpList_append_copy rfl (.tmp 15) (.tmp 17) 26 rfl 3 i0 (.int .i64 0) 1 8 Tryz.underlying26 hi hz0 hz1 hz2 rfl (by decide) X2.heap.size rfl (heap_alloc_new X2 _) pa n pc (P.map (Value.int .i64)) rfl (Nums.src (HP.out.below (HJ3.out.b.alloc HJ3.out.b.size _))) (by unfold maxLen; omega) (by omega) ?_); go_loud (intro v4 w4 hown4 hgrow4; obtain ⟨qa, qc, rfl⟩ := slice_own hown4; have HO4 := Lib.hid hown4; have HJ4 := Lib.hid ((HJ3.out.alloc (.cells #[] 3)).grown hgrow4 (fun g e => by have := HJ3.out.lt; simp only [Option.some.injEq] at e; omega)); have HU4 := Lib.hid ((HU3.out.alloc (.cells #[] 3)).grown hgrow4 (fun e => by have := HU3.out.lt; simp only [Option.some.injEq] at e; omega)); have HG4 := Lib.hid ((HO3.out.alloc (.cells #[] 3)).kept hgrow4 (row_newd HO3.out (Nat.le_refl _))); have HGL := Lib.hid (fun g (hg : (Value.slice ga n gc).ownBlock = some g) => (HO3.out.lt g hg)); have hs4 := hgrow4.size; simp at hs4; obtain ⟨u0, u1, u2, u3, u4⟩ := HU4.out.cells; have uf := HU4.out.free; clear hown4 hgrow4))
  obtain ⟨X4, hX4⟩ : ∃ X4, X4 = w4.setCell ⟨o, 1, none⟩ (.slice qa n qc) := ⟨_, rfl⟩
  have HJ5 := Lib.hid (show L6St w ia n ic pa pc fi nx dr pp x X4 from by rw [hX4]; exact HJ4.out.set hWl)
  have HU5 := Lib.hid (show Box5 X4 o 28 (.slice ga n gc) (.slice qa n qc) (.int .i64 fi) (.int .i64 nx) (.int .i64 dr) from by rw [hX4]; exact HU4.out.set1 _)
  have hoW := HU1.out.lt
  have hoX := HU3.out.lt
  have HG5 := Lib.hid (show X4.ownsRow W1.heap.size 3 1 (.slice ga n gc) n (I.map (Value.int .i64)) from by rw [hX4]; exact own_far HG4.out (fun g hg => by have := (HGL.out g hg).1; omega))
  have HQ5 := Lib.hid (show X4.ownsRow X2.heap.size 3 1 (.slice qa n qc) n (P.map (Value.int .i64)) from by rw [hX4]; exact own_far HO4.out (fun g hg => by have := (HO4.out.lt g hg).1; omega))
  have hX4s : X2.heap.size < X4.heap.size := by rw [hX4]; simp only [World.setCell, Array.size_modify]; omega
  rw [← hX4]
  clear hX4 q0 q1 q2 q3 q4 u0 u1 u2 u3 u4 uf HJ4 HU4 HO4 HG4 HJ3 HU3 HO3 HJ1 HU1
  obtain rfl : pp = true := HPPP.out
  obtain ⟨p0, p1⟩ := HJ5.out.o.cells
  obtain ⟨q0, q1, q2, q3, q4⟩ := HJ5.out.d.cells
  go_wp2_with fail
  refine (s_in_item _ _).mono ?_
  rintro e wk ⟨rfl, rfl⟩
  rw [HXI.out]
  have hsl : ¬ (60 ≤ nx - fi) := by omega
  have hsw : IntKind.i64.wrap (nx - fi) = nx - fi := IntWalk.i64_in _ ⟨by omega, by omega⟩
  obtain ⟨u0, u1, u2, u3, u4⟩ := HU5.out.cells
  have hoXX := HU5.out.lt
  have hgm := (nums_own HG5.out (by have := (HJ5.out.lt); omega)).2.1
  have hqm := (nums_own HQ5.out (by omega)).2.1
  have hgmx : gc ≤ 9223372036854775807 := by have := (nums_own HG5.out (by omega)).2.2.1; unfold maxLen at this; omega
  have hqmx : qc ≤ 9223372036854775807 := by have := (nums_own HQ5.out (by omega)).2.2.1; unfold maxLen at this; omega
  go_wp2_with fail
  clear u0 u1 u2 u3 u4 p0 p1 q0 q1 q2 q3 q4
  go_loopw [] (fun wr => ∃ t : Nat, t ≤ n ∧ Hid (Agg.keepN k I x t = Agg.keepN k I x n) ∧ Hid (Box5 wr o 28 (.slice ga t gc) (.slice qa t qc) (.int .i64 fi) (.int .i64 nx) (.int .i64 (dr + ((n : Int) - (t : Int))))) ∧ Hid (Touch o (o + 1) X4 wr)) (fun wr => lenAt wr o)
  case atStart => exact ⟨n, Nat.le_refl _, Lib.hid rfl, Lib.hid (by rw [show dr + ((n : Int) - (n : Int)) = dr by omega]; exact HU5.out), Lib.hid (Touch.refl _ _ _)⟩
  case round =>
    obtain ⟨t, ht, hke, hu, htt⟩ := hrel
    have hti0 : (0 : Int) ≤ (t : Int) := Int.natCast_nonneg _
    have hl0 : lenAt wr o = t := lenAt_box hu.out
    have HJ := Lib.hid (HJ5.out.touch htt.out hWl)
    have HGX := Lib.hid (own_touch HG5.out htt.out (fun g hg => .inr (by have := (HGL.out g hg).1; omega)))
    have HQX := Lib.hid (own_touch HQ5.out htt.out (fun g hg => .inr (by have := (HQ5.out.lt g hg).1; omega)))
    obtain ⟨u0, u1, u2, u3, u4⟩ := hu.out.cells
    by_cases h0 : t = 0
    · have hk0 : decide ((0 : Int) < (t : Int)) = false := by simp; omega
      have hk1 : decide (0 < t) = false := by simp; omega
      have HK3 := Lib.hid (show Agg.keepN k I x n = t from by rw [← hke.out, h0]; rfl)
      clear h0
      go_wp2_with fail
      refine wp_region_held_drew (S := (fun X => X.cell? ⟨o, 0, none⟩ = some (.slice ga t gc))) (by kernel_rfl) (by assumption) (fun hHeld => ?_)
      refine zqt 0 ?_ ?_ (by assumption) ?_; rotate_left; (intro X hSw; (try dsimp only at hSw); go_simp; (try with_reducible rfl)); (try simp only [Act.put, zq1, zq2, zq3, zq4, zq5, zq6])
      refine zqt 1 ?_ ?_ (by assumption) ?_; rotate_left; (intro X hSw; (try dsimp only at hSw); go_simp; (try with_reducible rfl)); (try simp only [Act.put, zq1, zq2, zq3, zq4, zq5, zq6])
      refine zqt 2 ?_ ?_ (by assumption) ?_; rotate_left; (intro X hSw; (try dsimp only at hSw); go_simp; (try with_reducible rfl)); (try simp only [Act.put, zq1, zq2, zq3, zq4, zq5, zq6])
      refine zqt 3 ?_ ?_ (by assumption) ?_; rotate_left; (intro X hSw; (try dsimp only at hSw); go_simp; (try with_reducible rfl)); (try simp only [Act.put, zq1, zq2, zq3, zq4, zq5, zq6])
      refine zqt 4 ?_ ?_ (by assumption) ?_; rotate_left; (intro X hSw; (try dsimp only at hSw); go_simp; (try with_reducible rfl)); (try simp only [Act.put, zq1, zq2, zq3, zq4, zq5, zq6])
      first | (refine wpAnyH_take (i := 5) (v := undef) rfl (by kernel_rfl) (by kernel_rfl) (by kernel_rfl) (fun _ _ _ h => h) (Or.inr ⟨by rfl, rfl⟩) (by assumption) ?_; (try simp only [Act.put, zq1, zq2, zq3, zq4, zq5, zq6])) | fail "skip 5"
      first | (refine wpAnyH_take (i := 6) (v := undef) rfl (by kernel_rfl) (by kernel_rfl) (by kernel_rfl) (fun _ _ _ h => h) (Or.inr ⟨by rfl, rfl⟩) (by assumption) ?_; (try simp only [Act.put, zq1, zq2, zq3, zq4, zq5, zq6])) | fail "skip 6"
      first | (refine wpAnyH_take (i := 7) (v := undef) rfl (by kernel_rfl) (by kernel_rfl) (by kernel_rfl) (fun _ _ _ h => h) (Or.inr ⟨by rfl, rfl⟩) (by assumption) ?_; (try simp only [Act.put, zq1, zq2, zq3, zq4, zq5, zq6])) | fail "skip 7"
      first | (refine wpAnyH_take (i := 8) (v := undef) rfl (by kernel_rfl) (by kernel_rfl) (by kernel_rfl) (fun _ _ _ h => h) (Or.inr ⟨by rfl, rfl⟩) (by assumption) ?_; (try simp only [Act.put, zq1, zq2, zq3, zq4, zq5, zq6])) | fail "skip 8"
      first | (refine wpAnyH_take (i := 9) (v := undef) rfl (by kernel_rfl) (by kernel_rfl) (by kernel_rfl) (fun _ _ _ h => h) (Or.inr ⟨by rfl, rfl⟩) (by assumption) ?_; (try simp only [Act.put, zq1, zq2, zq3, zq4, zq5, zq6])) | fail "skip 9"
      first | (refine wpAnyH_take (i := 10) (v := undef) rfl (by kernel_rfl) (by kernel_rfl) (by kernel_rfl) (fun _ _ _ h => h) (Or.inr ⟨by rfl, rfl⟩) (by assumption) ?_; (try simp only [Act.put, zq1, zq2, zq3, zq4, zq5, zq6])) | fail "skip 10"
      first | (refine wpAnyH_take (i := 11) (v := undef) rfl (by kernel_rfl) (by kernel_rfl) (by kernel_rfl) (fun _ _ _ h => h) (Or.inr ⟨by rfl, rfl⟩) (by assumption) ?_; (try simp only [Act.put, zq1, zq2, zq3, zq4, zq5, zq6])) | fail "skip 11"
      first | (refine wpAnyH_take (i := 12) (v := undef) rfl (by kernel_rfl) (by kernel_rfl) (by kernel_rfl) (fun _ _ _ h => h) (Or.inr ⟨by rfl, rfl⟩) (by assumption) ?_; (try simp only [Act.put, zq1, zq2, zq3, zq4, zq5, zq6])) | fail "skip 12"
      first | (refine wpAnyH_take (i := 13) (v := undef) rfl (by kernel_rfl) (by kernel_rfl) (by kernel_rfl) (fun _ _ _ h => h) (Or.inr ⟨by rfl, rfl⟩) (by assumption) ?_; (try simp only [Act.put, zq1, zq2, zq3, zq4, zq5, zq6])) | fail "skip 13"
      first | (refine wpAnyH_take (i := 14) (v := undef) rfl (by kernel_rfl) (by kernel_rfl) (by kernel_rfl) (fun _ _ _ h => h) (Or.inr ⟨by rfl, rfl⟩) (by assumption) ?_; (try simp only [Act.put, zq1, zq2, zq3, zq4, zq5, zq6])) | fail "skip 14"
      first | (refine wpAnyH_take (i := 15) (v := undef) rfl (by kernel_rfl) (by kernel_rfl) (by kernel_rfl) (fun _ _ _ h => h) (Or.inr ⟨by rfl, rfl⟩) (by assumption) ?_; (try simp only [Act.put, zq1, zq2, zq3, zq4, zq5, zq6])) | fail "skip 15"
      first | (refine wpAnyH_take (i := 16) (v := undef) rfl (by kernel_rfl) (by kernel_rfl) (by kernel_rfl) (fun _ _ _ h => h) (Or.inr ⟨by rfl, rfl⟩) (by assumption) ?_; (try simp only [Act.put, zq1, zq2, zq3, zq4, zq5, zq6])) | fail "skip 16"
      refine zqt 17 ?_ ?_ (by assumption) ?_; rotate_left; (intro X hSw; (try dsimp only at hSw); go_simp; (try with_reducible rfl)); (try simp only [Act.put, zq1, zq2, zq3, zq4, zq5, zq6])
      refine wpAnyH_done (by kernel_rfl) ?_ _
      clear hk0 hk1 u0 u1 u2 u3 u4 hHeld
      obtain ⟨X3, hX3⟩ : ∃ X3, X3 = wr.drew := ⟨_, rfl⟩
      have HJ3 := Lib.hid (show L6St w ia n ic pa pc fi nx dr true x X3 from by rw [hX3]; exact HJ.out.drew)
      have HU3 := Lib.hid (show Box5 X3 o 28 (.slice ga t gc) (.slice qa t qc) (.int .i64 fi) (.int .i64 nx) (.int .i64 (dr + ((n : Int) - (t : Int)))) from by rw [hX3]; exact hu.out)
      have HG3 := Lib.hid (show X3.ownsRow W1.heap.size 3 1 (.slice ga t gc) t ((I.take t).map (Value.int .i64)) from by rw [hX3]; exact own_prefix_int (HGX.out.kept (row := none) (Below.grownNone (Below.refl wr.heap.size wr).drew none) (by cases hv : (Value.slice ga n gc).ownBlock <;> simp)) ht)
      have HQ3 := Lib.hid (show X3.ownsRow X2.heap.size 3 1 (.slice qa t qc) t ((P.take t).map (Value.int .i64)) from by rw [hX3]; exact own_prefix_int (HQX.out.kept (row := none) (Below.grownNone (Below.refl wr.heap.size wr).drew none) (by cases hv : (Value.slice qa n qc).ownBlock <;> simp)) ht)
      have hs3 : X4.heap.size ≤ X3.heap.size := by rw [hX3]; exact htt.out.2.2.2.1
      rw [← hX3]
      clear hX3 HJ hu HGX HQX htt hl0 hke
      obtain ⟨u0, u1, u2, u3, u4⟩ := HU3.out.cells
      obtain ⟨p0, p1⟩ := HJ3.out.o.cells
      have hlc : o < X3.heap.size := HU3.out.lt
      have HGB := Lib.hid (fun g (hg : (Value.slice ga t gc).ownBlock = some g) => HGL.out g ((ob_eq ga n gc t gc).trans hg))
      have HQB := Lib.hid (fun g (hg : (Value.slice qa t qc).ownBlock = some g) => HQ3.out.lt g hg)
      go_upto_region 12 with (
        at_builtin
        go_must (refine wpList_append_where rfl (.tmp 74) (.tmp 77) 26 rfl W1.heap.size 3 i0 (.int .i64 0) 1 8 Tryz.underlying26 hi hz0 hz1 hz2 rfl (by decide) (.slice ga t gc) t ((I.take t).map (Value.int .i64)) rfl (HG3.out.alloc _) ⟨X3.heap.size, 0, none⟩ 1 1 [.int .i64 x] rfl rfl (cell_one_new _ _ _) (ints_oneCell .i64 [x]) (by unfold maxLen; omega) (by omega) (by simp; omega) ?_)
        go_loud (
          intro v5 w5 hown5 hgrow5 hwhere5
          obtain ⟨a5, c5, rfl⟩ := slice_own hown5
          have HO5 := Lib.hid hown5
          have HW5 := Lib.hid hwhere5
          have HU5x := Lib.hid ((HU3.out.alloc (.cells #[.int .i64 x] 3)).grown hgrow5 (fun e => by have := (HGB.out _ e).1; omega))
          have HJ5x := Lib.hid ((HJ3.out.alloc (.cells #[.int .i64 x] 3)).grown hgrow5 (fun g e => by have := (HGB.out _ e).1; omega))
          have HQ5x := Lib.hid ((HQ3.out.alloc (.cells #[.int .i64 x] 3)).kept hgrow5 (by cases hv : (Value.slice qa t qc).ownBlock with | none => exact .inl rfl | some g => exact .inr (fun e => by have := (HGB.out g e.symm).2; have := (HQB.out g hv).1; omega)))
          have hs5 := hgrow5.size
          simp at hs5
          have uf := HU5x.out.free
          clear u0 u1 u2 u3 u4 p0 p1
          obtain ⟨u0, u1, u2, u3, u4⟩ := HU5x.out.cells
          clear hown5 hgrow5 hwhere5))
      have HN5 := Lib.hid (show ∀ g, (Value.slice a5 (t + 1) c5).ownBlock = some g → (W1.heap.size ≤ g ∧ g < X2.heap.size) ∨ X3.heap.size < g from fun g hg => by
        rcases HW5.out with e | ⟨g', e, hle⟩
        · exact .inl (HGB.out g (e.symm.trans hg))
        · rw [e] at hg; obtain rfl := Option.some.inj hg; simp at hle; exact .inr (by omega))
      obtain ⟨X6, hX6⟩ : ∃ X6, X6 = w5.setCell ⟨o, 0, none⟩ (.slice a5 (t + 1) c5) := ⟨_, rfl⟩
      have HJ6 := Lib.hid (show L6St w ia n ic pa pc fi nx dr true x X6 from by rw [hX6]; exact HJ5x.out.set hWl)
      have HU6 := Lib.hid (show Box5 X6 o 28 (.slice a5 (t + 1) c5) (.slice qa t qc) (.int .i64 fi) (.int .i64 nx) (.int .i64 (dr + ((n : Int) - (t : Int)))) from by rw [hX6]; exact HU5x.out.set0 _)
      have HO6 := Lib.hid (show X6.ownsRow W1.heap.size 3 1 (.slice a5 (t + 1) c5) (t + 1) ((I.take t ++ [x]).map (Value.int .i64)) from by rw [hX6, List.map_append]; exact own_far HO5.out (fun g hg => by have := HN5.out g hg; omega))
      have HQ6 := Lib.hid (show X6.ownsRow X2.heap.size 3 1 (.slice qa t qc) t ((P.take t).map (Value.int .i64)) from by rw [hX6]; exact own_far HQ5x.out (fun g hg => by have := (HQB.out g hg).1; omega))
      have hs6 : X3.heap.size < X6.heap.size := by rw [hX6]; simp only [World.setCell, Array.size_modify]; omega
      rw [← hX6]
      clear hX6 u0 u1 u2 u3 u4 uf HJ5x HU5x HO5 HQ5x HW5 HJ3 HU3 HG3 HQ3
      obtain ⟨u0, u1, u2, u3, u4⟩ := HU6.out.cells
      obtain ⟨q0, q1, q2, q3, q4⟩ := HJ6.out.d.cells
      have hld : w.heap.size < X6.heap.size := by omega
      go_upto_region 13 with (
        at_builtin
        go_must (refine wpList_append_where rfl (.tmp 81) (.tmp 84) 26 rfl X2.heap.size 3 i0 (.int .i64 0) 1 8 Tryz.underlying26 hi hz0 hz1 hz2 rfl (by decide) (.slice qa t qc) t ((P.take t).map (Value.int .i64)) rfl (HQ6.out.alloc _) ⟨X6.heap.size, 0, none⟩ 1 1 [.int .i64 nx] rfl rfl (cell_one_new _ _ _) (ints_oneCell .i64 [nx]) (by unfold maxLen; omega) (by omega) (by simp; omega) ?_)
        go_loud (
          intro v8 w8 hown8 hgrow8 hwhere8
          obtain ⟨a8, c8, rfl⟩ := slice_own hown8
          have HO8 := Lib.hid hown8
          have HW8 := Lib.hid hwhere8
          have HU8 := Lib.hid ((HU6.out.alloc (.cells #[.int .i64 nx] 3)).grown hgrow8 (fun e => by have := (HQB.out _ e).1; omega))
          have HJ8 := Lib.hid ((HJ6.out.alloc (.cells #[.int .i64 nx] 3)).grown hgrow8 (fun g e => by have := (HQB.out _ e).1; omega))
          have HI8 := Lib.hid ((HO6.out.alloc (.cells #[.int .i64 nx] 3)).kept hgrow8 (by cases hv : (Value.slice a5 (t + 1) c5).ownBlock with | none => exact .inl rfl | some g => exact .inr (fun e => by have := HN5.out g hv; have := HQB.out g e.symm; omega)))
          have hs8 := hgrow8.size
          simp at hs8
          have uf := HU8.out.free
          clear u0 u1 u2 u3 u4 q0 q1 q2 q3 q4
          obtain ⟨u0, u1, u2, u3, u4⟩ := HU8.out.cells
          clear hown8 hgrow8 hwhere8))
      have HN8 := Lib.hid (show ∀ g, (Value.slice a8 (t + 1) c8).ownBlock = some g → X2.heap.size ≤ g from fun g hg => by
        rcases HW8.out with e | ⟨g', e, hle⟩
        · exact (HQB.out g (e.symm.trans hg)).1
        · rw [e] at hg; obtain rfl := Option.some.inj hg; simp at hle; omega)
      obtain ⟨X9, hX9⟩ : ∃ X9, X9 = w8.setCell ⟨o, 1, none⟩ (.slice a8 (t + 1) c8) := ⟨_, rfl⟩
      have HJ9 := Lib.hid (show L6St w ia n ic pa pc fi nx dr true x X9 from by rw [hX9]; exact HJ8.out.set hWl)
      have HU9 := Lib.hid (show Box5 X9 o 28 (.slice a5 (t + 1) c5) (.slice a8 (t + 1) c8) (.int .i64 fi) (.int .i64 nx) (.int .i64 (dr + ((n : Int) - (t : Int)))) from by rw [hX9]; exact HU8.out.set1 _)
      have HI9 := Lib.hid (show X9.ownsRow W1.heap.size 3 1 (.slice a5 (t + 1) c5) (t + 1) ((I.take t ++ [x]).map (Value.int .i64)) from by rw [hX9]; exact own_far HI8.out (fun g hg => by have := HN5.out g hg; omega))
      have HP9 := Lib.hid (show X9.ownsRow X2.heap.size 3 1 (.slice a8 (t + 1) c8) (t + 1) ((P.take t ++ [nx]).map (Value.int .i64)) from by rw [hX9, List.map_append]; exact own_far HO8.out (fun g hg => by have := HN8.out g hg; omega))
      have hs9 : X6.heap.size < X9.heap.size := by rw [hX9]; simp only [World.setCell, Array.size_modify]; omega
      rw [← hX9]
      clear hX9 u0 u1 u2 u3 u4 uf HJ8 HU8 HO8 HI8 HW8 HJ6 HU6 HO6 HQ6
      obtain ⟨u0, u1, u2, u3, u4⟩ := HU9.out.cells
      have uf := HU9.out.free
      obtain ⟨q0, q1, q2, q3, q4⟩ := HJ9.out.d.cells
      obtain ⟨s0, s1, s2, s3, s4⟩ := HJ9.out.r.cells
      have sf := HJ9.out.r.free
      have hww : IntKind.i64.wrap (nx + 1) = nx + 1 := IntWalk.i64_in _ ⟨by omega, by omega⟩
      have hne1 : o ≠ w.heap.size + 1 + 1 := by omega
      have hne2 : w.heap.size + 1 + 1 ≠ o := by omega
      go_wp2_with fail
      refine bodyPost_ret (by simp [results, Tryz.results39, go_sem, *]; try rfl) rfl ?_
      have e : Agg.pushD k ⟨I, P, fi, nx, dr⟩ x = ⟨I.take t ++ [x], P.take t ++ [nx], fi, nx + 1, dr + ((n : Int) - (t : Int))⟩ := by simp [Agg.pushD, HIL.out, HK3.out]
      have l1 : (I.take t ++ [x]).length = t + 1 := by have := HIL.out; simp; omega
      have l2 : (P.take t ++ [nx]).length = t + 1 := by have := HPL.out; simp; omega
      rw [e]
      have n5 : ∀ g, (Value.slice a5 (t + 1) c5).ownBlock = some g → g ≠ o := fun g hg => by have := HN5.out g hg; omega
      have n5r : ∀ g, (Value.slice a5 (t + 1) c5).ownBlock = some g → g ≠ w.heap.size + 1 + 1 := fun g hg => by have := HN5.out g hg; omega
      have n8 : ∀ g, (Value.slice a8 (t + 1) c8).ownBlock = some g → g ≠ o := fun g hg => by have := HN8.out g hg; omega
      have n8r : ∀ g, (Value.slice a8 (t + 1) c8).ownBlock = some g → g ≠ w.heap.size + 1 + 1 := fun g hg => by have := HN8.out g hg; omega
      have b5 := own_far (o := 4) (u := .int .i64 (dr + ((n : Int) - (t : Int)))) (own_far (o := 3) (u := .int .i64 (nx + 1)) (own_far (o := 2) (u := .int .i64 fi) (own_far (o := 1) (u := .slice a8 (t + 1) c8) (own_far (o := 0) (u := .slice a5 (t + 1) c5) (own_far (o := 3) (u := .int .i64 (nx + 1)) HI9.out n5) n5r) n5r) n5r) n5r) n5r
      have b8 := own_far (o := 4) (u := .int .i64 (dr + ((n : Int) - (t : Int)))) (own_far (o := 3) (u := .int .i64 (nx + 1)) (own_far (o := 2) (u := .int .i64 fi) (own_far (o := 1) (u := .slice a8 (t + 1) c8) (own_far (o := 0) (u := .slice a5 (t + 1) c5) (own_far (o := 3) (u := .int .i64 (nx + 1)) HP9.out n8) n8r) n8r) n8r) n8r) n8r
      have hbb := f6_below5 (c := w.heap.size + 1 + 1) (HJ9.out.b.setCell (p := ⟨o, 3, none⟩) (show w.heap.size ≤ o by omega) (.int .i64 (nx + 1))) (by omega) (.slice a5 (t + 1) c5) (.slice a8 (t + 1) c8) (.int .i64 fi) (.int .i64 (nx + 1)) (.int .i64 (dr + ((n : Int) - (t : Int))))
      refine ⟨a5, c5, a8, c8, by simp only [l1, l2], ?_, ?_, ⟨fun b off e => by have := (HI9.out.lt b (by rw [e]; rfl)).1; omega, fun b off e => by have := (HP9.out.lt b (by rw [e]; rfl)).1; omega⟩, hbb⟩
      · show Nums .i64 _ a5 (I.take t ++ [x]).length c5 (I.take t ++ [x])
        rw [l1]
        exact nums_own b5 (by simp [World.setCell]; omega)
      · show Nums .i64 _ a8 (P.take t ++ [nx]).length c8 (P.take t ++ [nx])
        rw [l2]
        exact nums_own b8 (by simp [World.setCell]; omega)
    · obtain ⟨M0, hM⟩ : ∃ M0, t = M0 + 1 := ⟨t - 1, by omega⟩
      have HM := Lib.hid hM
      have hk0 : decide ((0 : Int) < (t : Int)) = true := by simp; omega
      have hk1 : decide (0 < t) = true := by simp; omega
      have hM0 : M0 < n := by omega
      have hsub : (t : Int) - 1 = (M0 : Int) := by omega
      have hw1 : IntKind.i64.wrap ((t : Int) - 1) = (M0 : Int) := by rw [hsub]; exact IntWalk.i64_in _ ⟨by omega, by omega⟩
      have hw2 : IntKind.i64.wrap (M0 : Int) = (M0 : Int) := IntWalk.i64_in _ ⟨by omega, by omega⟩
      have hkm : (0 : Int) ≤ (M0 : Int) := Int.natCast_nonneg _
      have hkn : (M0 : Int) < (t : Int) := by omega
      have hN1 := nums_own HGX.out (by have := htt.out.2.2.2.1; omega)
      obtain ⟨gg, hgg, -, -, -, -⟩ := own_some6 HGX.out (by omega)
      obtain ⟨gq, hgq, -, -, -, -⟩ := own_some6 HQX.out (by omega)
      subst hgg
      subst hgq
      rcases hN1.2.2.2 with h4 | ⟨ib, ioff, eib, hib, hics⟩
      · omega
      · simp only [Option.some.injEq, Addr.mk.injEq, and_true] at eib
        obtain ⟨rfl, rfl⟩ := eib
        have hc1 := hics M0 hM0
        rw [Nat.zero_add] at hc1
        clear hics hN1
        obtain ⟨y, hy⟩ : ∃ y, y = I[M0]?.getD 0 := ⟨_, rfl⟩
        rw [← hy] at hc1
        obtain ⟨bb, hbb⟩ : ∃ bb, bb = Agg.before k y x := ⟨_, rfl⟩
        have hla := fun w => s_l6Before_any k y x w
        rw [← hbb] at hla
        have HL2 := Lib.hid hla
        have HKN := Lib.hid (show Agg.keepN k I x t = (if bb then Agg.keepN k I x M0 else t) from by rw [hM, hbb, hy]; rfl)
        clear hla hbb hy hM h0
        obtain ⟨p0, p1⟩ := HJ.out.o.cells
        go_wp2_with fail
        refine wp_region_held_drew (S := (fun X => X.cell? ⟨o, 0, none⟩ = some (.slice (some ⟨gg, 0, none⟩) t gc) ∧ X.cell? ⟨gg, M0, none⟩ = some (.int .i64 y) ∧ X.cell? ⟨w.heap.size + 1, 1, none⟩ = some (.int .i64 x))) (by kernel_rfl) (by refine ⟨?_, ?_, ?_⟩ <;> assumption) (fun hHeld => ?_)
        refine zqt 0 ?_ ?_ (by assumption) ?_; rotate_left; (intro X hSw; (try dsimp only at hSw); go_simp; (try with_reducible rfl)); (try simp only [Act.put, zq1, zq2, zq3, zq4, zq5, zq6])
        refine zqt 1 ?_ ?_ (by assumption) ?_; rotate_left; (intro X hSw; (try dsimp only at hSw); go_simp; (try with_reducible rfl)); (try simp only [Act.put, zq1, zq2, zq3, zq4, zq5, zq6])
        refine zqt 2 ?_ ?_ (by assumption) ?_; rotate_left; (intro X hSw; (try dsimp only at hSw); go_simp; (try with_reducible rfl)); (try simp only [Act.put, zq1, zq2, zq3, zq4, zq5, zq6])
        refine zqt 3 ?_ ?_ (by assumption) ?_; rotate_left; (intro X hSw; (try dsimp only at hSw); go_simp; (try with_reducible rfl)); (try simp only [Act.put, zq1, zq2, zq3, zq4, zq5, zq6])
        refine zqt 4 ?_ ?_ (by assumption) ?_; rotate_left; (intro X hSw; (try dsimp only at hSw); go_simp; (try with_reducible rfl)); (try simp only [Act.put, zq1, zq2, zq3, zq4, zq5, zq6])
        refine zqt 5 ?_ ?_ (by assumption) ?_; rotate_left; (intro X hSw; (try dsimp only at hSw); go_simp; (try with_reducible rfl)); (try simp only [Act.put, zq1, zq2, zq3, zq4, zq5, zq6])
        refine zqt 6 ?_ ?_ (by assumption) ?_; rotate_left; (intro X hSw; (try dsimp only at hSw); go_simp; (try with_reducible rfl)); (try simp only [Act.put, zq1, zq2, zq3, zq4, zq5, zq6])
        refine zqt 7 ?_ ?_ (by assumption) ?_; rotate_left; (intro X hSw; (try dsimp only at hSw); go_simp; (try with_reducible rfl)); (try simp only [Act.put, zq1, zq2, zq3, zq4, zq5, zq6])
        refine zqt 8 ?_ ?_ (by assumption) ?_; rotate_left; (intro X hSw; (try dsimp only at hSw); go_simp; (try with_reducible rfl)); (try simp only [Act.put, zq1, zq2, zq3, zq4, zq5, zq6])
        refine zqt 9 ?_ ?_ (by assumption) ?_; rotate_left; (intro X hSw; (try dsimp only at hSw); go_simp; (try with_reducible rfl)); (try simp only [Act.put, zq1, zq2, zq3, zq4, zq5, zq6])
        refine zqt 10 ?_ ?_ (by assumption) ?_; rotate_left; (intro X hSw; (try dsimp only at hSw); go_simp; (try with_reducible rfl)); (try simp only [Act.put, zq1, zq2, zq3, zq4, zq5, zq6])
        refine zqt 11 ?_ ?_ (by assumption) ?_; rotate_left; (intro X hSw; (try dsimp only at hSw); go_simp; (try with_reducible rfl)); (try simp only [Act.put, zq1, zq2, zq3, zq4, zq5, zq6])
        refine zqt 12 ?_ ?_ (by assumption) ?_; rotate_left; (intro X hSw; (try dsimp only at hSw); go_simp; (try with_reducible rfl)); (try simp only [Act.put, zq1, zq2, zq3, zq4, zq5, zq6])
        refine zqt 13 ?_ ?_ (by assumption) ?_; rotate_left; (intro X hSw; (try dsimp only at hSw); go_simp; (try with_reducible rfl)); (try simp only [Act.put, zq1, zq2, zq3, zq4, zq5, zq6])
        refine zqt 14 ?_ ?_ (by assumption) ?_; rotate_left; (intro X hSw; (try dsimp only at hSw); go_simp; (try with_reducible rfl)); (try simp only [Act.put, zq1, zq2, zq3, zq4, zq5, zq6])
        refine zqt 15 ?_ ?_ (by assumption) ?_; rotate_left; (intro X hSw; (try dsimp only at hSw); go_simp; (try with_reducible rfl)); (try simp only [Act.put, zq1, zq2, zq3, zq4, zq5, zq6])
        refine wpAnyH_ready (rs := [16]) (by kernel_rfl) (by simp) ?_
        refine AllReadyH.cons rfl (fun K hK => ?_) AllReadyH.nil
        go_simp
        refine (HL2.out _).mono ?_
        rintro e w3 ⟨rfl, rfl⟩
        skip
        (try dsimp only)
        refine hK.out _ _ (by refine ⟨?_, ?_, ?_⟩ <;> assumption) (fun hHeld => ?_)
        clear hK K
        (try simp only [Act.put, zq1, zq2, zq3, zq4, zq5, zq6])
        refine zqt 17 ?_ ?_ (by assumption) ?_; rotate_left; (intro X hSw; (try dsimp only at hSw); go_simp; (try with_reducible rfl)); (try simp only [Act.put, zq1, zq2, zq3, zq4, zq5, zq6])
        refine wpAnyH_done (by kernel_rfl) ?_ _
        cases bb
        · have HK3 := Lib.hid (show Agg.keepN k I x n = t from by rw [← hke.out]; have := HKN.out; simpa using this)
          obtain ⟨ga, hga⟩ : ∃ ga : Option Addr, ga = some ⟨gg, 0, none⟩ := ⟨_, rfl⟩
          obtain ⟨qa, hqa⟩ : ∃ qa : Option Addr, qa = some ⟨gq, 0, none⟩ := ⟨_, rfl⟩
          rw [← hga] at HG5 HGL HGX hu
          rw [← hqa] at HQ5 HQX hu
          clear hga hqa hib HL2 HKN HM hsub hw1 hw2 hkm hkn hk0 hk1 u0 u1 u2 u3 u4 p0 p1 hc1 hHeld
          obtain ⟨X3, hX3⟩ : ∃ X3, X3 = wr.drew := ⟨_, rfl⟩
          have HJ3 := Lib.hid (show L6St w ia n ic pa pc fi nx dr true x X3 from by rw [hX3]; exact HJ.out.drew)
          have HU3 := Lib.hid (show Box5 X3 o 28 (.slice ga t gc) (.slice qa t qc) (.int .i64 fi) (.int .i64 nx) (.int .i64 (dr + ((n : Int) - (t : Int)))) from by rw [hX3]; exact hu.out)
          have HG3 := Lib.hid (show X3.ownsRow W1.heap.size 3 1 (.slice ga t gc) t ((I.take t).map (Value.int .i64)) from by rw [hX3]; exact own_prefix_int (HGX.out.kept (row := none) (Below.grownNone (Below.refl wr.heap.size wr).drew none) (by cases hv : (Value.slice ga n gc).ownBlock <;> simp)) ht)
          have HQ3 := Lib.hid (show X3.ownsRow X2.heap.size 3 1 (.slice qa t qc) t ((P.take t).map (Value.int .i64)) from by rw [hX3]; exact own_prefix_int (HQX.out.kept (row := none) (Below.grownNone (Below.refl wr.heap.size wr).drew none) (by cases hv : (Value.slice qa n qc).ownBlock <;> simp)) ht)
          have hs3 : X4.heap.size ≤ X3.heap.size := by rw [hX3]; exact htt.out.2.2.2.1
          rw [← hX3]
          clear hX3 HJ hu HGX HQX htt hl0 hke
          obtain ⟨u0, u1, u2, u3, u4⟩ := HU3.out.cells
          obtain ⟨p0, p1⟩ := HJ3.out.o.cells
          have hlc : o < X3.heap.size := HU3.out.lt
          have HGB := Lib.hid (fun g (hg : (Value.slice ga t gc).ownBlock = some g) => HGL.out g ((ob_eq ga n gc t gc).trans hg))
          have HQB := Lib.hid (fun g (hg : (Value.slice qa t qc).ownBlock = some g) => HQ3.out.lt g hg)
          go_upto_region 12 with (
            at_builtin
            go_must (refine wpList_append_where rfl (.tmp 74) (.tmp 77) 26 rfl W1.heap.size 3 i0 (.int .i64 0) 1 8 Tryz.underlying26 hi hz0 hz1 hz2 rfl (by decide) (.slice ga t gc) t ((I.take t).map (Value.int .i64)) rfl (HG3.out.alloc _) ⟨X3.heap.size, 0, none⟩ 1 1 [.int .i64 x] rfl rfl (cell_one_new _ _ _) (ints_oneCell .i64 [x]) (by unfold maxLen; omega) (by omega) (by simp; omega) ?_)
            go_loud (
              intro v5 w5 hown5 hgrow5 hwhere5
              obtain ⟨a5, c5, rfl⟩ := slice_own hown5
              have HO5 := Lib.hid hown5
              have HW5 := Lib.hid hwhere5
              have HU5x := Lib.hid ((HU3.out.alloc (.cells #[.int .i64 x] 3)).grown hgrow5 (fun e => by have := (HGB.out _ e).1; omega))
              have HJ5x := Lib.hid ((HJ3.out.alloc (.cells #[.int .i64 x] 3)).grown hgrow5 (fun g e => by have := (HGB.out _ e).1; omega))
              have HQ5x := Lib.hid ((HQ3.out.alloc (.cells #[.int .i64 x] 3)).kept hgrow5 (by cases hv : (Value.slice qa t qc).ownBlock with | none => exact .inl rfl | some g => exact .inr (fun e => by have := (HGB.out g e.symm).2; have := (HQB.out g hv).1; omega)))
              have hs5 := hgrow5.size
              simp at hs5
              have uf := HU5x.out.free
              clear u0 u1 u2 u3 u4 p0 p1
              obtain ⟨u0, u1, u2, u3, u4⟩ := HU5x.out.cells
              clear hown5 hgrow5 hwhere5))
          have HN5 := Lib.hid (show ∀ g, (Value.slice a5 (t + 1) c5).ownBlock = some g → (W1.heap.size ≤ g ∧ g < X2.heap.size) ∨ X3.heap.size < g from fun g hg => by
            rcases HW5.out with e | ⟨g', e, hle⟩
            · exact .inl (HGB.out g (e.symm.trans hg))
            · rw [e] at hg; obtain rfl := Option.some.inj hg; simp at hle; exact .inr (by omega))
          obtain ⟨X6, hX6⟩ : ∃ X6, X6 = w5.setCell ⟨o, 0, none⟩ (.slice a5 (t + 1) c5) := ⟨_, rfl⟩
          have HJ6 := Lib.hid (show L6St w ia n ic pa pc fi nx dr true x X6 from by rw [hX6]; exact HJ5x.out.set hWl)
          have HU6 := Lib.hid (show Box5 X6 o 28 (.slice a5 (t + 1) c5) (.slice qa t qc) (.int .i64 fi) (.int .i64 nx) (.int .i64 (dr + ((n : Int) - (t : Int)))) from by rw [hX6]; exact HU5x.out.set0 _)
          have HO6 := Lib.hid (show X6.ownsRow W1.heap.size 3 1 (.slice a5 (t + 1) c5) (t + 1) ((I.take t ++ [x]).map (Value.int .i64)) from by rw [hX6, List.map_append]; exact own_far HO5.out (fun g hg => by have := HN5.out g hg; omega))
          have HQ6 := Lib.hid (show X6.ownsRow X2.heap.size 3 1 (.slice qa t qc) t ((P.take t).map (Value.int .i64)) from by rw [hX6]; exact own_far HQ5x.out (fun g hg => by have := (HQB.out g hg).1; omega))
          have hs6 : X3.heap.size < X6.heap.size := by rw [hX6]; simp only [World.setCell, Array.size_modify]; omega
          rw [← hX6]
          clear hX6 u0 u1 u2 u3 u4 uf HJ5x HU5x HO5 HQ5x HW5 HJ3 HU3 HG3 HQ3
          obtain ⟨u0, u1, u2, u3, u4⟩ := HU6.out.cells
          obtain ⟨q0, q1, q2, q3, q4⟩ := HJ6.out.d.cells
          have hld : w.heap.size < X6.heap.size := by omega
          go_upto_region 13 with (
            at_builtin
            go_must (refine wpList_append_where rfl (.tmp 81) (.tmp 84) 26 rfl X2.heap.size 3 i0 (.int .i64 0) 1 8 Tryz.underlying26 hi hz0 hz1 hz2 rfl (by decide) (.slice qa t qc) t ((P.take t).map (Value.int .i64)) rfl (HQ6.out.alloc _) ⟨X6.heap.size, 0, none⟩ 1 1 [.int .i64 nx] rfl rfl (cell_one_new _ _ _) (ints_oneCell .i64 [nx]) (by unfold maxLen; omega) (by omega) (by simp; omega) ?_)
            go_loud (
              intro v8 w8 hown8 hgrow8 hwhere8
              obtain ⟨a8, c8, rfl⟩ := slice_own hown8
              have HO8 := Lib.hid hown8
              have HW8 := Lib.hid hwhere8
              have HU8 := Lib.hid ((HU6.out.alloc (.cells #[.int .i64 nx] 3)).grown hgrow8 (fun e => by have := (HQB.out _ e).1; omega))
              have HJ8 := Lib.hid ((HJ6.out.alloc (.cells #[.int .i64 nx] 3)).grown hgrow8 (fun g e => by have := (HQB.out _ e).1; omega))
              have HI8 := Lib.hid ((HO6.out.alloc (.cells #[.int .i64 nx] 3)).kept hgrow8 (by cases hv : (Value.slice a5 (t + 1) c5).ownBlock with | none => exact .inl rfl | some g => exact .inr (fun e => by have := HN5.out g hv; have := HQB.out g e.symm; omega)))
              have hs8 := hgrow8.size
              simp at hs8
              have uf := HU8.out.free
              clear u0 u1 u2 u3 u4 q0 q1 q2 q3 q4
              obtain ⟨u0, u1, u2, u3, u4⟩ := HU8.out.cells
              clear hown8 hgrow8 hwhere8))
          have HN8 := Lib.hid (show ∀ g, (Value.slice a8 (t + 1) c8).ownBlock = some g → X2.heap.size ≤ g from fun g hg => by
            rcases HW8.out with e | ⟨g', e, hle⟩
            · exact (HQB.out g (e.symm.trans hg)).1
            · rw [e] at hg; obtain rfl := Option.some.inj hg; simp at hle; omega)
          obtain ⟨X9, hX9⟩ : ∃ X9, X9 = w8.setCell ⟨o, 1, none⟩ (.slice a8 (t + 1) c8) := ⟨_, rfl⟩
          have HJ9 := Lib.hid (show L6St w ia n ic pa pc fi nx dr true x X9 from by rw [hX9]; exact HJ8.out.set hWl)
          have HU9 := Lib.hid (show Box5 X9 o 28 (.slice a5 (t + 1) c5) (.slice a8 (t + 1) c8) (.int .i64 fi) (.int .i64 nx) (.int .i64 (dr + ((n : Int) - (t : Int)))) from by rw [hX9]; exact HU8.out.set1 _)
          have HI9 := Lib.hid (show X9.ownsRow W1.heap.size 3 1 (.slice a5 (t + 1) c5) (t + 1) ((I.take t ++ [x]).map (Value.int .i64)) from by rw [hX9]; exact own_far HI8.out (fun g hg => by have := HN5.out g hg; omega))
          have HP9 := Lib.hid (show X9.ownsRow X2.heap.size 3 1 (.slice a8 (t + 1) c8) (t + 1) ((P.take t ++ [nx]).map (Value.int .i64)) from by rw [hX9, List.map_append]; exact own_far HO8.out (fun g hg => by have := HN8.out g hg; omega))
          have hs9 : X6.heap.size < X9.heap.size := by rw [hX9]; simp only [World.setCell, Array.size_modify]; omega
          rw [← hX9]
          clear hX9 u0 u1 u2 u3 u4 uf HJ8 HU8 HO8 HI8 HW8 HJ6 HU6 HO6 HQ6
          obtain ⟨u0, u1, u2, u3, u4⟩ := HU9.out.cells
          have uf := HU9.out.free
          obtain ⟨q0, q1, q2, q3, q4⟩ := HJ9.out.d.cells
          obtain ⟨s0, s1, s2, s3, s4⟩ := HJ9.out.r.cells
          have sf := HJ9.out.r.free
          have hww : IntKind.i64.wrap (nx + 1) = nx + 1 := IntWalk.i64_in _ ⟨by omega, by omega⟩
          have hne1 : o ≠ w.heap.size + 1 + 1 := by omega
          have hne2 : w.heap.size + 1 + 1 ≠ o := by omega
          go_wp2_with fail
          refine bodyPost_ret (by simp [results, Tryz.results39, go_sem, *]; try rfl) rfl ?_
          have e : Agg.pushD k ⟨I, P, fi, nx, dr⟩ x = ⟨I.take t ++ [x], P.take t ++ [nx], fi, nx + 1, dr + ((n : Int) - (t : Int))⟩ := by simp [Agg.pushD, HIL.out, HK3.out]
          have l1 : (I.take t ++ [x]).length = t + 1 := by have := HIL.out; simp; omega
          have l2 : (P.take t ++ [nx]).length = t + 1 := by have := HPL.out; simp; omega
          rw [e]
          have n5 : ∀ g, (Value.slice a5 (t + 1) c5).ownBlock = some g → g ≠ o := fun g hg => by have := HN5.out g hg; omega
          have n5r : ∀ g, (Value.slice a5 (t + 1) c5).ownBlock = some g → g ≠ w.heap.size + 1 + 1 := fun g hg => by have := HN5.out g hg; omega
          have n8 : ∀ g, (Value.slice a8 (t + 1) c8).ownBlock = some g → g ≠ o := fun g hg => by have := HN8.out g hg; omega
          have n8r : ∀ g, (Value.slice a8 (t + 1) c8).ownBlock = some g → g ≠ w.heap.size + 1 + 1 := fun g hg => by have := HN8.out g hg; omega
          have b5 := own_far (o := 4) (u := .int .i64 (dr + ((n : Int) - (t : Int)))) (own_far (o := 3) (u := .int .i64 (nx + 1)) (own_far (o := 2) (u := .int .i64 fi) (own_far (o := 1) (u := .slice a8 (t + 1) c8) (own_far (o := 0) (u := .slice a5 (t + 1) c5) (own_far (o := 3) (u := .int .i64 (nx + 1)) HI9.out n5) n5r) n5r) n5r) n5r) n5r
          have b8 := own_far (o := 4) (u := .int .i64 (dr + ((n : Int) - (t : Int)))) (own_far (o := 3) (u := .int .i64 (nx + 1)) (own_far (o := 2) (u := .int .i64 fi) (own_far (o := 1) (u := .slice a8 (t + 1) c8) (own_far (o := 0) (u := .slice a5 (t + 1) c5) (own_far (o := 3) (u := .int .i64 (nx + 1)) HP9.out n8) n8r) n8r) n8r) n8r) n8r
          have hbb := f6_below5 (c := w.heap.size + 1 + 1) (HJ9.out.b.setCell (p := ⟨o, 3, none⟩) (show w.heap.size ≤ o by omega) (.int .i64 (nx + 1))) (by omega) (.slice a5 (t + 1) c5) (.slice a8 (t + 1) c8) (.int .i64 fi) (.int .i64 (nx + 1)) (.int .i64 (dr + ((n : Int) - (t : Int))))
          refine ⟨a5, c5, a8, c8, by simp only [l1, l2], ?_, ?_, ⟨fun b off e => by have := (HI9.out.lt b (by rw [e]; rfl)).1; omega, fun b off e => by have := (HP9.out.lt b (by rw [e]; rfl)).1; omega⟩, hbb⟩
          · show Nums .i64 _ a5 (I.take t ++ [x]).length c5 (I.take t ++ [x])
            rw [l1]
            exact nums_own b5 (by simp [World.setCell]; omega)
          · show Nums .i64 _ a8 (P.take t ++ [nx]).length c8 (P.take t ++ [nx])
            rw [l2]
            exact nums_own b8 (by simp [World.setCell]; omega)
        · have uf := hu.out.free
          have hdd : dr + ((n : Int) - (t : Int)) + 1 = dr + ((n : Int) - (M0 : Int)) := by have := HM.out; omega
          have hdw : IntKind.i64.wrap (dr + ((n : Int) - (t : Int)) + 1) = dr + ((n : Int) - (M0 : Int)) := by rw [hdd]; exact IntWalk.i64_in _ ⟨by omega, by omega⟩
          have hdw2 : IntKind.i64.wrap (dr + ((n : Int) - (M0 : Int))) = dr + ((n : Int) - (M0 : Int)) := IntWalk.i64_in _ ⟨by omega, by omega⟩
          have hmg : (M0 : Int) ≤ (gc : Int) := by omega
          have hmq : (M0 : Int) ≤ (qc : Int) := by omega
          go_wp2_with fail
          go_roundw
          case rel => exact ⟨M0, by omega, Lib.hid (by rw [← hke.out]; have := HKN.out; simpa using this.symm), Lib.hid (((hu.out.set0 _).set1 _).set4 _), Lib.hid ((((htt.out.call (Below.refl wr.heap.size wr).drew).here (Nat.le_refl _) (Nat.lt_succ_self _)).here (Nat.le_refl _) (Nat.lt_succ_self _)).here (Nat.le_refl _) (Nat.lt_succ_self _))⟩
          case measure =>
            have hu2 := ((hu.out.set0 (.slice (some ⟨gg, 0, none⟩) M0 gc)).set1 (.slice (some ⟨gq, 0, none⟩) M0 qc)).set4 (.int .i64 (dr + ((n : Int) - (M0 : Int))))
            have hu3 := (((show Box5 wr.drew o 28 (.slice (some ⟨gg, 0, none⟩) t gc) (.slice (some ⟨gq, 0, none⟩) t qc) (.int .i64 fi) (.int .i64 nx) (.int .i64 (dr + ((n : Int) - (t : Int)))) from hu.out).set0 (.slice (some ⟨gg, 0, none⟩) M0 gc)).set1 (.slice (some ⟨gq, 0, none⟩) M0 qc)).set4 (.int .i64 (dr + ((n : Int) - (M0 : Int))))
            have hlt : M0 < t := by have := HM.out; omega
            first
              | exact Nat.lt_of_lt_of_le (Nat.lt_of_le_of_lt (Nat.le_of_eq (lenAt_box hu2)) hlt) (Nat.le_of_eq hl0.symm)
              | exact Nat.lt_of_lt_of_le (Nat.lt_of_le_of_lt (Nat.le_of_eq (lenAt_box hu3)) hlt) (Nat.le_of_eq hl0.symm)
              | (rw [hl0]; exact Nat.lt_of_le_of_lt (Nat.le_of_eq (lenAt_box hu3)) hlt)
end Go.Proofs.YtolgclajlklmaaaGreat

namespace Go.Proofs.YtolgclajlklmaaaGreat
set_option linter.unusedSimpArgs false
set_option linter.unusedVariables false
open Go.RowKit
theorem own_tail_nums {w : World} {base n c g : Nat} {l : List Int} (h : w.ownsRow base 3 1 (.slice (some ⟨g, 0, none⟩) n c) n (l.map (Value.int .i64))) (hb : base ≤ w.heap.size) (hn : 0 < n) :
    (c = 1 → Nums .i64 w (some ⟨g, 0, none⟩) 0 0 l.tail) ∧ (c ≠ 1 → Nums .i64 w (some ⟨g, 1, none⟩) (n - 1) (c - 1) l.tail) := by
  obtain ⟨h1, h2, h3, h4⟩ := nums_own h hb
  have hlt : l.tail.length = n - 1 := by simp [h1]
  refine ⟨fun e => ⟨by omega, Nat.le_refl _, by simp [maxLen], .inl rfl⟩, fun e => ⟨hlt, by omega, by omega, ?_⟩⟩
  rcases h4 with h4 | ⟨b, off, e1, hlt2, hc⟩
  · omega
  · simp only [Option.some.injEq, Addr.mk.injEq, and_true] at e1
    obtain ⟨rfl, rfl⟩ := e1
    refine .inr ⟨g, 1, rfl, hlt2, fun i hi => ?_⟩
    have := hc (i + 1) (by omega)
    rw [show 1 + i = 0 + (i + 1) by omega, this]
    simp
theorem nums_far {w : World} {a : Option Addr} {n c d o : Nat} {u : Value} {l : List Int} (h : Nums .i64 w a n c l) (hd : ∀ b off, a = some ⟨b, off, none⟩ → b ≠ d) : Nums .i64 (w.setCell ⟨d, o, none⟩ u) a n c l := by
  obtain ⟨h1, h2, h3, h4⟩ := h
  refine ⟨h1, h2, h3, ?_⟩
  rcases h4 with h4 | ⟨b, off, e, hb, hc⟩
  · exact .inl h4
  · exact .inr ⟨b, off, e, by simpa [World.setCell] using hb, fun i hi => (World.cell?_of_block (Below.heap_setCell _ _ _ _ (by simpa using hd b off e))).trans (hc i hi)⟩
set_option maxRecDepth 8000 in
set_option maxHeartbeats 4000000 in
theorem s_l6Deque_pop (k : Int) (ia : Option Addr) (n ic : Nat) (pa : Option Addr) (pc : Nat) (fi nx dr : Int) (I P : List Int) (w : World) (hI : Nums .i64 w ia n ic I) (hP : Nums .i64 w pa n pc P) (hn : n ≤ 60) (hn0 : 0 < n) (hs0 : 0 < nx - fi) (hf0 : 0 ≤ fi) (hf1 : fi ≤ 1000000) (hx0 : 0 ≤ nx) (hx1 : nx ≤ 1000000) :
    Calls Tryz.prog 39 #[.int .i64 k, .agg #[.slice ia n ic, .slice pa n pc, .int .i64 fi, .int .i64 nx, .int .i64 dr], .agg #[.bool false, .int .i64 0]] w (L6Dq (Agg.popD ⟨I, P, fi, nx, dr⟩) w) := by
  obtain ⟨x, hx⟩ : ∃ x : Int, x = 0 := ⟨_, rfl⟩
  rw [← hx]
  obtain ⟨pp, hpp⟩ : ∃ pp, pp = false := ⟨_, rfl⟩
  rw [← hpp]
  have HPPP := Lib.hid hpp
  have HX := Lib.hid hx
  clear hpp hx
  obtain ⟨i0, hi, hz0, hz1, hz2⟩ := info_parts infoInt
  have HIL := Lib.hid (show I.length = n from hI.1)
  have HPL := Lib.hid (show P.length = n from hP.1)
  have HI := Lib.hid hI
  have HP := Lib.hid hP
  obtain ⟨W, hW⟩ : ∃ W, W = ((w.alloc (.cells #[.slice ia n ic, .slice pa n pc, .int .i64 fi, .int .i64 nx, .int .i64 dr] 28)).alloc (.cells #[.bool pp, .int .i64 x] 76)).alloc (.cells #[.slice none 0 0, .slice none 0 0, .int .i64 0, .int .i64 0, .int .i64 0] 28) := ⟨_, rfl⟩
  have HJ := Lib.hid (show L6St w ia n ic pa pc fi nx dr pp x W from by
    rw [hW]
    exact ⟨((Box5.new w _ _ _ _ _ _).alloc _).alloc _, (Box2d.new1 _ _ _ (by simp)).alloc _, Box5.new1 _ _ _ _ _ _ (by simp), (((Below.refl _ _).alloc (Nat.le_refl _) _).alloc (by simp) _).alloc (by simp; omega) _⟩)
  clear hI hP
  go_enter Tryz.func39, Tryz.ntmps39
  go_upto_region 1 with (fail)
  rw [← hW]
  clear hW
  have hWl := HJ.out.lt
  obtain ⟨W1, hW1⟩ : ∃ W1, W1 = W.alloc (.cells #[.slice ia n ic, .slice pa n pc, .int .i64 fi, .int .i64 nx, .int .i64 dr] 28) := ⟨_, rfl⟩
  have HJ1 := Lib.hid (show L6St w ia n ic pa pc fi nx dr pp x W1 from by rw [hW1]; exact HJ.out.alloc _)
  have HU1 := Lib.hid (show Box5 W1 W.heap.size 28 (.slice ia n ic) (.slice pa n pc) (.int .i64 fi) (.int .i64 nx) (.int .i64 dr) from by rw [hW1]; exact Box5.new W _ _ _ _ _ _)
  obtain ⟨q0, q1, q2, q3, q4⟩ := HJ.out.d.cells
  go_upto_region 2 with (fail)
  rw [← hW1]
  clear hW1 q0 q1 q2 q3 q4
  obtain ⟨o, ho⟩ : ∃ o, o = W.heap.size := ⟨_, rfl⟩
  rw [← ho] at HU1 hWl ⊢
  clear ho HJ
  obtain ⟨q0, q1, q2, q3, q4⟩ := HJ1.out.d.cells
  have hla : w.heap.size < W1.heap.size := by have := HJ1.out.lt; omega
  go_upto_region 3 with (at_builtin; go_must (refine wpList_append_copy rfl (.tmp 10) (.tmp 12) 26 rfl 3 i0 (.int .i64 0) 1 8 Tryz.underlying26 hi hz0 hz1 hz2 rfl (by decide) W1.heap.size rfl (heap_alloc_new W1 _) ia n ic (I.map (Value.int .i64)) rfl (Nums.src (HI.out.below (HJ1.out.b.alloc HJ1.out.b.size _))) (by unfold maxLen; omega) (by omega) ?_); go_loud (intro v2 w2 hown2 hgrow2; obtain ⟨ga, gc, rfl⟩ := slice_own hown2; have HO2 := Lib.hid hown2; have HJ2 := Lib.hid ((HJ1.out.alloc (.cells #[] 3)).grown hgrow2 (fun g e => by have := HJ1.out.lt; simp only [Option.some.injEq] at e; omega)); have HU2 := Lib.hid ((HU1.out.alloc (.cells #[] 3)).grown hgrow2 (fun e => by have := HU1.out.lt; simp only [Option.some.injEq] at e; omega)); have hs2 := hgrow2.size; simp at hs2; obtain ⟨u0, u1, u2, u3, u4⟩ := HU2.out.cells; have uf := HU2.out.free; clear hown2 hgrow2))
  obtain ⟨X2, hX2⟩ : ∃ X2, X2 = w2.setCell ⟨o, 0, none⟩ (.slice ga n gc) := ⟨_, rfl⟩
  have HJ3 := Lib.hid (show L6St w ia n ic pa pc fi nx dr pp x X2 from by rw [hX2]; exact HJ2.out.set hWl)
  have HU3 := Lib.hid (show Box5 X2 o 28 (.slice ga n gc) (.slice pa n pc) (.int .i64 fi) (.int .i64 nx) (.int .i64 dr) from by rw [hX2]; exact HU2.out.set0 _)
  have hWX : W1.heap.size < X2.heap.size := by rw [hX2]; simp only [World.setCell, Array.size_modify]; omega
  have HO3 := Lib.hid (show X2.ownsRow W1.heap.size 3 1 (.slice ga n gc) n (I.map (Value.int .i64)) from by rw [hX2]; exact own_far HO2.out (fun g hg => by have := (HO2.out.lt g hg).1; have := HU1.out.lt; omega))
  rw [← hX2]
  clear hX2 q0 q1 q2 q3 q4 u0 u1 u2 u3 u4 uf HJ2 HU2 HO2
  obtain ⟨q0, q1, q2, q3, q4⟩ := HJ3.out.d.cells
  have hlb : w.heap.size < X2.heap.size := by have := HJ3.out.lt; omega
  go_upto_region 4 with (at_builtin; go_must (refine wpList_append_copy rfl (.tmp 15) (.tmp 17) 26 rfl 3 i0 (.int .i64 0) 1 8 Tryz.underlying26 hi hz0 hz1 hz2 rfl (by decide) X2.heap.size rfl (heap_alloc_new X2 _) pa n pc (P.map (Value.int .i64)) rfl (Nums.src (HP.out.below (HJ3.out.b.alloc HJ3.out.b.size _))) (by unfold maxLen; omega) (by omega) ?_); go_loud (intro v4 w4 hown4 hgrow4; obtain ⟨qa, qc, rfl⟩ := slice_own hown4; have HO4 := Lib.hid hown4; have HJ4 := Lib.hid ((HJ3.out.alloc (.cells #[] 3)).grown hgrow4 (fun g e => by have := HJ3.out.lt; simp only [Option.some.injEq] at e; omega)); have HU4 := Lib.hid ((HU3.out.alloc (.cells #[] 3)).grown hgrow4 (fun e => by have := HU3.out.lt; simp only [Option.some.injEq] at e; omega)); have HG4 := Lib.hid ((HO3.out.alloc (.cells #[] 3)).kept hgrow4 (row_newd HO3.out (Nat.le_refl _))); have HGL := Lib.hid (fun g (hg : (Value.slice ga n gc).ownBlock = some g) => (HO3.out.lt g hg)); have hs4 := hgrow4.size; simp at hs4; obtain ⟨u0, u1, u2, u3, u4⟩ := HU4.out.cells; have uf := HU4.out.free; clear hown4 hgrow4))
  obtain ⟨X4, hX4⟩ : ∃ X4, X4 = w4.setCell ⟨o, 1, none⟩ (.slice qa n qc) := ⟨_, rfl⟩
  have HJ5 := Lib.hid (show L6St w ia n ic pa pc fi nx dr pp x X4 from by rw [hX4]; exact HJ4.out.set hWl)
  have HU5 := Lib.hid (show Box5 X4 o 28 (.slice ga n gc) (.slice qa n qc) (.int .i64 fi) (.int .i64 nx) (.int .i64 dr) from by rw [hX4]; exact HU4.out.set1 _)
  have hoW := HU1.out.lt
  have hoX := HU3.out.lt
  have HG5 := Lib.hid (show X4.ownsRow W1.heap.size 3 1 (.slice ga n gc) n (I.map (Value.int .i64)) from by rw [hX4]; exact own_far HG4.out (fun g hg => by have := (HGL.out g hg).1; omega))
  have HQ5 := Lib.hid (show X4.ownsRow X2.heap.size 3 1 (.slice qa n qc) n (P.map (Value.int .i64)) from by rw [hX4]; exact own_far HO4.out (fun g hg => by have := (HO4.out.lt g hg).1; omega))
  have hX4s : X2.heap.size < X4.heap.size := by rw [hX4]; simp only [World.setCell, Array.size_modify]; omega
  rw [← hX4]
  clear hX4 q0 q1 q2 q3 q4 u0 u1 u2 u3 u4 uf HJ4 HU4 HO4 HG4 HJ3 HU3 HO3 HJ1 HU1
  obtain rfl : pp = false := HPPP.out
  obtain rfl : x = 0 := HX.out
  obtain ⟨p0, p1⟩ := HJ5.out.o.cells
  obtain ⟨q0, q1, q2, q3, q4⟩ := HJ5.out.d.cells
  have hne : ¬ (fi = nx) := by omega
  have hww : IntKind.i64.wrap (fi + 1) = fi + 1 := IntWalk.i64_in _ ⟨by omega, by omega⟩
  obtain ⟨gg, hgg, -, hgs, hgc, hgm⟩ := own_some6 HG5.out hn0
  obtain ⟨gq, hgq, -, hqs, hqc, hqm⟩ := own_some6 HQ5.out hn0
  subst hgg
  subst hgq
  have HT1 := Lib.hid (own_tail_nums HG5.out (by omega) hn0)
  have HT2 := Lib.hid (own_tail_nums HQ5.out (by omega) hn0)
  have hN2 := nums_own HQ5.out (by omega)
  rcases hN2.2.2.2 with h4 | ⟨ib, ioff, eib, hib, hics⟩
  · omega
  · simp only [Option.some.injEq, Addr.mk.injEq, and_true] at eib
    obtain ⟨rfl, rfl⟩ := eib
    have hc0 := hics 0 hn0
    rw [Nat.zero_add] at hc0
    clear hics hN2
    obtain ⟨y, hy⟩ : ∃ y, y = P[0]?.getD 0 := ⟨_, rfl⟩
    rw [← hy] at hc0
    have hpop : (if y = fi then (⟨I.tail, P.tail, fi + 1, nx, dr⟩ : Agg.Dq) else ⟨I, P, fi + 1, nx, dr⟩) = Agg.popD ⟨I, P, fi, nx, dr⟩ := by rw [hy]; rfl
    have HPOP := Lib.hid hpop
    clear hpop hy
    obtain ⟨u0, u1, u2, u3, u4⟩ := HU5.out.cells
    have h0n : (0 : Int) < (n : Int) := by omega
    have h1n : (1 : Int) ≤ (n : Int) := by omega
    have hnc1 : (n : Int) ≤ (gc : Int) := by omega
    have hnc2 : (n : Int) ≤ (qc : Int) := by omega
    have hgw1 : W1.heap.size ≤ gg := (HG5.out.lt gg rfl).1
    have hgw2 : X2.heap.size ≤ gq := (HQ5.out.lt gq rfl).1
    go_wp2_with fail
    refine wp_region_held_drew (S := (fun X => X.cell? ⟨o, 1, none⟩ = some (.slice (some ⟨gq, 0, none⟩) n qc) ∧ X.cell? ⟨gq, 0, none⟩ = some (.int .i64 y) ∧ X.cell? ⟨w.heap.size, 2, none⟩ = some (.int .i64 fi))) (by kernel_rfl) (by refine ⟨?_, ?_, ?_⟩ <;> assumption) (fun hHeld => ?_)
    refine zqt 0 ?_ ?_ (by assumption) ?_; rotate_left; (intro X hSw; (try dsimp only at hSw); go_simp; (try with_reducible rfl)); (try simp only [Act.put, zq1, zq2, zq3, zq4, zq5, zq6])
    refine zqt 1 ?_ ?_ (by assumption) ?_; rotate_left; (intro X hSw; (try dsimp only at hSw); go_simp; (try with_reducible rfl)); (try simp only [Act.put, zq1, zq2, zq3, zq4, zq5, zq6])
    refine zqt 2 ?_ ?_ (by assumption) ?_; rotate_left; (intro X hSw; (try dsimp only at hSw); go_simp; (try with_reducible rfl)); (try simp only [Act.put, zq1, zq2, zq3, zq4, zq5, zq6])
    refine zqt 3 ?_ ?_ (by assumption) ?_; rotate_left; (intro X hSw; (try dsimp only at hSw); go_simp; (try with_reducible rfl)); (try simp only [Act.put, zq1, zq2, zq3, zq4, zq5, zq6])
    refine zqt 4 ?_ ?_ (by assumption) ?_; rotate_left; (intro X hSw; (try dsimp only at hSw); go_simp; (try with_reducible rfl)); (try simp only [Act.put, zq1, zq2, zq3, zq4, zq5, zq6])
    refine zqt 5 ?_ ?_ (by assumption) ?_; rotate_left; (intro X hSw; (try dsimp only at hSw); go_simp; (try with_reducible rfl)); (try simp only [Act.put, zq1, zq2, zq3, zq4, zq5, zq6])
    refine zqt 6 ?_ ?_ (by assumption) ?_; rotate_left; (intro X hSw; (try dsimp only at hSw); go_simp; (try with_reducible rfl)); (try simp only [Act.put, zq1, zq2, zq3, zq4, zq5, zq6])
    refine wpAnyH_done (by kernel_rfl) ?_ _
    obtain ⟨X6, hX6⟩ : ∃ X6, X6 = X4.drew := ⟨_, rfl⟩
    have HJ6 := Lib.hid (show L6St w ia n ic pa pc fi nx dr false 0 X6 from by rw [hX6]; exact HJ5.out.drew)
    have HU6 := Lib.hid (show Box5 X6 o 28 (.slice (some ⟨gg, 0, none⟩) n gc) (.slice (some ⟨gq, 0, none⟩) n qc) (.int .i64 fi) (.int .i64 nx) (.int .i64 dr) from by rw [hX6]; exact HU5.out)
    have HT1 := Lib.hid (show (gc = 1 → Nums .i64 X6 (some ⟨gg, 0, none⟩) 0 0 I.tail) ∧ (gc ≠ 1 → Nums .i64 X6 (some ⟨gg, 1, none⟩) (n - 1) (gc - 1) I.tail) from by rw [hX6]; exact HT1.out)
    have HT2 := Lib.hid (show (qc = 1 → Nums .i64 X6 (some ⟨gq, 0, none⟩) 0 0 P.tail) ∧ (qc ≠ 1 → Nums .i64 X6 (some ⟨gq, 1, none⟩) (n - 1) (qc - 1) P.tail) from by rw [hX6]; exact HT2.out)
    have HNI := Lib.hid (show Nums .i64 X6 (some ⟨gg, 0, none⟩) n gc I from by rw [hX6]; show Nums .i64 X4 _ _ _ _; exact nums_own HG5.out (by omega))
    have HNP := Lib.hid (show Nums .i64 X6 (some ⟨gq, 0, none⟩) n qc P from by rw [hX6]; show Nums .i64 X4 _ _ _ _; exact nums_own HQ5.out (by omega))
    rw [← hX6]
    clear hX6 p0 p1 q0 q1 q2 q3 q4 u0 u1 u2 u3 u4 hc0 hHeld hib HJ5 HU5 HG5 HQ5
    by_cases hyf : y = fi
    · have hpp := HPOP.out
      rw [if_pos hyf] at hpp
      have HPOP := Lib.hid hpp
      clear hpp
      by_cases hc1 : gc = 1
      · subst hc1
        by_cases hc2 : qc = 1
        · subst hc2
          obtain ⟨s0, s1, s2, s3, s4⟩ := HJ6.out.r.cells
          have sf := HJ6.out.r.free
          obtain ⟨q0, q1, q2, q3, q4⟩ := HJ6.out.d.cells
          obtain ⟨u0, u1, u2, u3, u4⟩ := HU6.out.cells
          have uf := HU6.out.free
          have hne1 : o ≠ w.heap.size + 1 + 1 := by omega
          have hne2 : w.heap.size + 1 + 1 ≠ o := by omega
          have hne3 : w.heap.size ≠ o := by omega
          go_wp2_with fail
          refine bodyPost_ret (by simp [results, Tryz.results39, go_sem, *]; try rfl) rfl ?_
          rw [← HPOP.out]
          have m1 := HT1.out.1 (by first | rfl | trivial)
          have m2 := HT2.out.1 (by first | rfl | trivial)
          have nom1 : ∀ b off, (some ⟨gg, 0, none⟩ : Option Addr) = some ⟨b, off, none⟩ → b ≠ o := fun b off e => by simp at e; omega
          have nrm1 : ∀ b off, (some ⟨gg, 0, none⟩ : Option Addr) = some ⟨b, off, none⟩ → b ≠ w.heap.size + 1 + 1 := fun b off e => by simp at e; omega
          have nom2 : ∀ b off, (some ⟨gq, 0, none⟩ : Option Addr) = some ⟨b, off, none⟩ → b ≠ o := fun b off e => by simp at e; omega
          have nrm2 : ∀ b off, (some ⟨gq, 0, none⟩ : Option Addr) = some ⟨b, off, none⟩ → b ≠ w.heap.size + 1 + 1 := fun b off e => by simp at e; omega
          have km1 := nums_far (o := 4) (u := .int .i64 dr) (nums_far (o := 3) (u := .int .i64 nx) (nums_far (o := 2) (u := .int .i64 (fi + 1)) (nums_far (o := 1) (u := .slice (some ⟨gq, 0, none⟩) 0 0) (nums_far (o := 0) (u := .slice (some ⟨gg, 0, none⟩) 0 0) (nums_far (o := 2) (u := .int .i64 (fi + 1)) (nums_far (o := 1) (u := .slice (some ⟨gq, 0, none⟩) 0 0) (nums_far (o := 0) (u := .slice (some ⟨gg, 0, none⟩) 0 0) m1 nom1) nom1) nom1) nrm1) nrm1) nrm1) nrm1) nrm1
          have km2 := nums_far (o := 4) (u := .int .i64 dr) (nums_far (o := 3) (u := .int .i64 nx) (nums_far (o := 2) (u := .int .i64 (fi + 1)) (nums_far (o := 1) (u := .slice (some ⟨gq, 0, none⟩) 0 0) (nums_far (o := 0) (u := .slice (some ⟨gg, 0, none⟩) 0 0) (nums_far (o := 2) (u := .int .i64 (fi + 1)) (nums_far (o := 1) (u := .slice (some ⟨gq, 0, none⟩) 0 0) (nums_far (o := 0) (u := .slice (some ⟨gg, 0, none⟩) 0 0) m2 nom2) nom2) nom2) nrm2) nrm2) nrm2) nrm2) nrm2
          have hbb := f6_below5 (c := w.heap.size + 1 + 1) (((HJ6.out.b.setCell (p := ⟨o, 0, none⟩) (show w.heap.size ≤ o by omega) (.slice (some ⟨gg, 0, none⟩) 0 0)).setCell (p := ⟨o, 1, none⟩) (show w.heap.size ≤ o by omega) (.slice (some ⟨gq, 0, none⟩) 0 0)).setCell (p := ⟨o, 2, none⟩) (show w.heap.size ≤ o by omega) (.int .i64 (fi + 1))) (by omega) (.slice (some ⟨gg, 0, none⟩) 0 0) (.slice (some ⟨gq, 0, none⟩) 0 0) (.int .i64 (fi + 1)) (.int .i64 nx) (.int .i64 dr)
          have l1 : I.tail.length = 0 := km1.1
          have l2 : P.tail.length = 0 := km2.1
          refine ⟨some ⟨gg, 0, none⟩, 0, some ⟨gq, 0, none⟩, 0, by simp only [l1, l2], ?_, ?_, ⟨fun b off e => by simp at e; omega, fun b off e => by simp at e; omega⟩, hbb⟩
          · rw [l1]; exact km1
          · rw [l2]; exact km2
        · have hd2 : (1 : Int) < (qc : Int) := by omega
          have he2 : ¬ (1 : Int) = (qc : Int) := by omega
          obtain ⟨s0, s1, s2, s3, s4⟩ := HJ6.out.r.cells
          have sf := HJ6.out.r.free
          obtain ⟨q0, q1, q2, q3, q4⟩ := HJ6.out.d.cells
          obtain ⟨u0, u1, u2, u3, u4⟩ := HU6.out.cells
          have uf := HU6.out.free
          have hne1 : o ≠ w.heap.size + 1 + 1 := by omega
          have hne2 : w.heap.size + 1 + 1 ≠ o := by omega
          have hne3 : w.heap.size ≠ o := by omega
          go_wp2_with fail
          refine bodyPost_ret (by simp [results, Tryz.results39, go_sem, *]; try rfl) rfl ?_
          rw [← HPOP.out]
          have m1 := HT1.out.1 (by first | rfl | trivial)
          have m2 := HT2.out.2 hc2
          rw [show n - 1 = 0 by omega] at m2
          have nom1 : ∀ b off, (some ⟨gg, 0, none⟩ : Option Addr) = some ⟨b, off, none⟩ → b ≠ o := fun b off e => by simp at e; omega
          have nrm1 : ∀ b off, (some ⟨gg, 0, none⟩ : Option Addr) = some ⟨b, off, none⟩ → b ≠ w.heap.size + 1 + 1 := fun b off e => by simp at e; omega
          have nom2 : ∀ b off, (some ⟨gq, 1, none⟩ : Option Addr) = some ⟨b, off, none⟩ → b ≠ o := fun b off e => by simp at e; omega
          have nrm2 : ∀ b off, (some ⟨gq, 1, none⟩ : Option Addr) = some ⟨b, off, none⟩ → b ≠ w.heap.size + 1 + 1 := fun b off e => by simp at e; omega
          have km1 := nums_far (o := 4) (u := .int .i64 dr) (nums_far (o := 3) (u := .int .i64 nx) (nums_far (o := 2) (u := .int .i64 (fi + 1)) (nums_far (o := 1) (u := .slice (some ⟨gq, 1, none⟩) 0 (qc - 1)) (nums_far (o := 0) (u := .slice (some ⟨gg, 0, none⟩) 0 0) (nums_far (o := 2) (u := .int .i64 (fi + 1)) (nums_far (o := 1) (u := .slice (some ⟨gq, 1, none⟩) 0 (qc - 1)) (nums_far (o := 0) (u := .slice (some ⟨gg, 0, none⟩) 0 0) m1 nom1) nom1) nom1) nrm1) nrm1) nrm1) nrm1) nrm1
          have km2 := nums_far (o := 4) (u := .int .i64 dr) (nums_far (o := 3) (u := .int .i64 nx) (nums_far (o := 2) (u := .int .i64 (fi + 1)) (nums_far (o := 1) (u := .slice (some ⟨gq, 1, none⟩) 0 (qc - 1)) (nums_far (o := 0) (u := .slice (some ⟨gg, 0, none⟩) 0 0) (nums_far (o := 2) (u := .int .i64 (fi + 1)) (nums_far (o := 1) (u := .slice (some ⟨gq, 1, none⟩) 0 (qc - 1)) (nums_far (o := 0) (u := .slice (some ⟨gg, 0, none⟩) 0 0) m2 nom2) nom2) nom2) nrm2) nrm2) nrm2) nrm2) nrm2
          have hbb := f6_below5 (c := w.heap.size + 1 + 1) (((HJ6.out.b.setCell (p := ⟨o, 0, none⟩) (show w.heap.size ≤ o by omega) (.slice (some ⟨gg, 0, none⟩) 0 0)).setCell (p := ⟨o, 1, none⟩) (show w.heap.size ≤ o by omega) (.slice (some ⟨gq, 1, none⟩) 0 (qc - 1))).setCell (p := ⟨o, 2, none⟩) (show w.heap.size ≤ o by omega) (.int .i64 (fi + 1))) (by omega) (.slice (some ⟨gg, 0, none⟩) 0 0) (.slice (some ⟨gq, 1, none⟩) 0 (qc - 1)) (.int .i64 (fi + 1)) (.int .i64 nx) (.int .i64 dr)
          have l1 : I.tail.length = 0 := km1.1
          have l2 : P.tail.length = 0 := km2.1
          refine ⟨some ⟨gg, 0, none⟩, 0, some ⟨gq, 1, none⟩, qc - 1, by simp only [l1, l2], ?_, ?_, ⟨fun b off e => by simp at e; omega, fun b off e => by simp at e; omega⟩, hbb⟩
          · rw [l1]; exact km1
          · rw [l2]; exact km2
      · have hd1 : (1 : Int) < (gc : Int) := by omega
        have he1 : ¬ (1 : Int) = (gc : Int) := by omega
        by_cases hc2 : qc = 1
        · subst hc2
          obtain ⟨s0, s1, s2, s3, s4⟩ := HJ6.out.r.cells
          have sf := HJ6.out.r.free
          obtain ⟨q0, q1, q2, q3, q4⟩ := HJ6.out.d.cells
          obtain ⟨u0, u1, u2, u3, u4⟩ := HU6.out.cells
          have uf := HU6.out.free
          have hne1 : o ≠ w.heap.size + 1 + 1 := by omega
          have hne2 : w.heap.size + 1 + 1 ≠ o := by omega
          have hne3 : w.heap.size ≠ o := by omega
          go_wp2_with fail
          refine bodyPost_ret (by simp [results, Tryz.results39, go_sem, *]; try rfl) rfl ?_
          rw [← HPOP.out]
          have m1 := HT1.out.2 hc1
          rw [show n - 1 = 0 by omega] at m1
          have m2 := HT2.out.1 (by first | rfl | trivial)
          have nom1 : ∀ b off, (some ⟨gg, 1, none⟩ : Option Addr) = some ⟨b, off, none⟩ → b ≠ o := fun b off e => by simp at e; omega
          have nrm1 : ∀ b off, (some ⟨gg, 1, none⟩ : Option Addr) = some ⟨b, off, none⟩ → b ≠ w.heap.size + 1 + 1 := fun b off e => by simp at e; omega
          have nom2 : ∀ b off, (some ⟨gq, 0, none⟩ : Option Addr) = some ⟨b, off, none⟩ → b ≠ o := fun b off e => by simp at e; omega
          have nrm2 : ∀ b off, (some ⟨gq, 0, none⟩ : Option Addr) = some ⟨b, off, none⟩ → b ≠ w.heap.size + 1 + 1 := fun b off e => by simp at e; omega
          have km1 := nums_far (o := 4) (u := .int .i64 dr) (nums_far (o := 3) (u := .int .i64 nx) (nums_far (o := 2) (u := .int .i64 (fi + 1)) (nums_far (o := 1) (u := .slice (some ⟨gq, 0, none⟩) 0 0) (nums_far (o := 0) (u := .slice (some ⟨gg, 1, none⟩) 0 (gc - 1)) (nums_far (o := 2) (u := .int .i64 (fi + 1)) (nums_far (o := 1) (u := .slice (some ⟨gq, 0, none⟩) 0 0) (nums_far (o := 0) (u := .slice (some ⟨gg, 1, none⟩) 0 (gc - 1)) m1 nom1) nom1) nom1) nrm1) nrm1) nrm1) nrm1) nrm1
          have km2 := nums_far (o := 4) (u := .int .i64 dr) (nums_far (o := 3) (u := .int .i64 nx) (nums_far (o := 2) (u := .int .i64 (fi + 1)) (nums_far (o := 1) (u := .slice (some ⟨gq, 0, none⟩) 0 0) (nums_far (o := 0) (u := .slice (some ⟨gg, 1, none⟩) 0 (gc - 1)) (nums_far (o := 2) (u := .int .i64 (fi + 1)) (nums_far (o := 1) (u := .slice (some ⟨gq, 0, none⟩) 0 0) (nums_far (o := 0) (u := .slice (some ⟨gg, 1, none⟩) 0 (gc - 1)) m2 nom2) nom2) nom2) nrm2) nrm2) nrm2) nrm2) nrm2
          have hbb := f6_below5 (c := w.heap.size + 1 + 1) (((HJ6.out.b.setCell (p := ⟨o, 0, none⟩) (show w.heap.size ≤ o by omega) (.slice (some ⟨gg, 1, none⟩) 0 (gc - 1))).setCell (p := ⟨o, 1, none⟩) (show w.heap.size ≤ o by omega) (.slice (some ⟨gq, 0, none⟩) 0 0)).setCell (p := ⟨o, 2, none⟩) (show w.heap.size ≤ o by omega) (.int .i64 (fi + 1))) (by omega) (.slice (some ⟨gg, 1, none⟩) 0 (gc - 1)) (.slice (some ⟨gq, 0, none⟩) 0 0) (.int .i64 (fi + 1)) (.int .i64 nx) (.int .i64 dr)
          have l1 : I.tail.length = 0 := km1.1
          have l2 : P.tail.length = 0 := km2.1
          refine ⟨some ⟨gg, 1, none⟩, gc - 1, some ⟨gq, 0, none⟩, 0, by simp only [l1, l2], ?_, ?_, ⟨fun b off e => by simp at e; omega, fun b off e => by simp at e; omega⟩, hbb⟩
          · rw [l1]; exact km1
          · rw [l2]; exact km2
        · have hd2 : (1 : Int) < (qc : Int) := by omega
          have he2 : ¬ (1 : Int) = (qc : Int) := by omega
          obtain ⟨s0, s1, s2, s3, s4⟩ := HJ6.out.r.cells
          have sf := HJ6.out.r.free
          obtain ⟨q0, q1, q2, q3, q4⟩ := HJ6.out.d.cells
          obtain ⟨u0, u1, u2, u3, u4⟩ := HU6.out.cells
          have uf := HU6.out.free
          have hne1 : o ≠ w.heap.size + 1 + 1 := by omega
          have hne2 : w.heap.size + 1 + 1 ≠ o := by omega
          have hne3 : w.heap.size ≠ o := by omega
          go_wp2_with fail
          refine bodyPost_ret (by simp [results, Tryz.results39, go_sem, *]; try rfl) rfl ?_
          rw [← HPOP.out]
          have m1 := HT1.out.2 hc1
          have m2 := HT2.out.2 hc2
          have nom1 : ∀ b off, (some ⟨gg, 1, none⟩ : Option Addr) = some ⟨b, off, none⟩ → b ≠ o := fun b off e => by simp at e; omega
          have nrm1 : ∀ b off, (some ⟨gg, 1, none⟩ : Option Addr) = some ⟨b, off, none⟩ → b ≠ w.heap.size + 1 + 1 := fun b off e => by simp at e; omega
          have nom2 : ∀ b off, (some ⟨gq, 1, none⟩ : Option Addr) = some ⟨b, off, none⟩ → b ≠ o := fun b off e => by simp at e; omega
          have nrm2 : ∀ b off, (some ⟨gq, 1, none⟩ : Option Addr) = some ⟨b, off, none⟩ → b ≠ w.heap.size + 1 + 1 := fun b off e => by simp at e; omega
          have km1 := nums_far (o := 4) (u := .int .i64 dr) (nums_far (o := 3) (u := .int .i64 nx) (nums_far (o := 2) (u := .int .i64 (fi + 1)) (nums_far (o := 1) (u := .slice (some ⟨gq, 1, none⟩) (n - 1) (qc - 1)) (nums_far (o := 0) (u := .slice (some ⟨gg, 1, none⟩) (n - 1) (gc - 1)) (nums_far (o := 2) (u := .int .i64 (fi + 1)) (nums_far (o := 1) (u := .slice (some ⟨gq, 1, none⟩) (n - 1) (qc - 1)) (nums_far (o := 0) (u := .slice (some ⟨gg, 1, none⟩) (n - 1) (gc - 1)) m1 nom1) nom1) nom1) nrm1) nrm1) nrm1) nrm1) nrm1
          have km2 := nums_far (o := 4) (u := .int .i64 dr) (nums_far (o := 3) (u := .int .i64 nx) (nums_far (o := 2) (u := .int .i64 (fi + 1)) (nums_far (o := 1) (u := .slice (some ⟨gq, 1, none⟩) (n - 1) (qc - 1)) (nums_far (o := 0) (u := .slice (some ⟨gg, 1, none⟩) (n - 1) (gc - 1)) (nums_far (o := 2) (u := .int .i64 (fi + 1)) (nums_far (o := 1) (u := .slice (some ⟨gq, 1, none⟩) (n - 1) (qc - 1)) (nums_far (o := 0) (u := .slice (some ⟨gg, 1, none⟩) (n - 1) (gc - 1)) m2 nom2) nom2) nom2) nrm2) nrm2) nrm2) nrm2) nrm2
          have hbb := f6_below5 (c := w.heap.size + 1 + 1) (((HJ6.out.b.setCell (p := ⟨o, 0, none⟩) (show w.heap.size ≤ o by omega) (.slice (some ⟨gg, 1, none⟩) (n - 1) (gc - 1))).setCell (p := ⟨o, 1, none⟩) (show w.heap.size ≤ o by omega) (.slice (some ⟨gq, 1, none⟩) (n - 1) (qc - 1))).setCell (p := ⟨o, 2, none⟩) (show w.heap.size ≤ o by omega) (.int .i64 (fi + 1))) (by omega) (.slice (some ⟨gg, 1, none⟩) (n - 1) (gc - 1)) (.slice (some ⟨gq, 1, none⟩) (n - 1) (qc - 1)) (.int .i64 (fi + 1)) (.int .i64 nx) (.int .i64 dr)
          have l1 : I.tail.length = n - 1 := km1.1
          have l2 : P.tail.length = n - 1 := km2.1
          refine ⟨some ⟨gg, 1, none⟩, gc - 1, some ⟨gq, 1, none⟩, qc - 1, by simp only [l1, l2], ?_, ?_, ⟨fun b off e => by simp at e; omega, fun b off e => by simp at e; omega⟩, hbb⟩
          · rw [l1]; exact km1
          · rw [l2]; exact km2
    · have hpp := HPOP.out
      rw [if_neg hyf] at hpp
      have HPOP := Lib.hid hpp
      clear hpp
      obtain ⟨s0, s1, s2, s3, s4⟩ := HJ6.out.r.cells
      have sf := HJ6.out.r.free
      obtain ⟨q0, q1, q2, q3, q4⟩ := HJ6.out.d.cells
      obtain ⟨u0, u1, u2, u3, u4⟩ := HU6.out.cells
      have uf := HU6.out.free
      have hne1 : o ≠ w.heap.size + 1 + 1 := by omega
      have hne2 : w.heap.size + 1 + 1 ≠ o := by omega
      have hne3 : w.heap.size ≠ o := by omega
      go_wp2_with fail
      refine bodyPost_ret (by simp [results, Tryz.results39, go_sem, *]; try rfl) rfl ?_
      rw [← HPOP.out]
      have no1 : ∀ b off, (some ⟨gg, 0, none⟩ : Option Addr) = some ⟨b, off, none⟩ → b ≠ o := fun b off e => by simp at e; omega
      have nr1 : ∀ b off, (some ⟨gg, 0, none⟩ : Option Addr) = some ⟨b, off, none⟩ → b ≠ w.heap.size + 1 + 1 := fun b off e => by simp at e; omega
      have no2 : ∀ b off, (some ⟨gq, 0, none⟩ : Option Addr) = some ⟨b, off, none⟩ → b ≠ o := fun b off e => by simp at e; omega
      have nr2 : ∀ b off, (some ⟨gq, 0, none⟩ : Option Addr) = some ⟨b, off, none⟩ → b ≠ w.heap.size + 1 + 1 := fun b off e => by simp at e; omega
      have km1 := nums_far (o := 4) (u := .int .i64 dr) (nums_far (o := 3) (u := .int .i64 nx) (nums_far (o := 2) (u := .int .i64 (fi + 1)) (nums_far (o := 1) (u := .slice (some ⟨gq, 0, none⟩) n qc) (nums_far (o := 0) (u := .slice (some ⟨gg, 0, none⟩) n gc) (nums_far (o := 2) (u := .int .i64 (fi + 1)) HNI.out no1) nr1) nr1) nr1) nr1) nr1
      have km2 := nums_far (o := 4) (u := .int .i64 dr) (nums_far (o := 3) (u := .int .i64 nx) (nums_far (o := 2) (u := .int .i64 (fi + 1)) (nums_far (o := 1) (u := .slice (some ⟨gq, 0, none⟩) n qc) (nums_far (o := 0) (u := .slice (some ⟨gg, 0, none⟩) n gc) (nums_far (o := 2) (u := .int .i64 (fi + 1)) HNP.out no2) nr2) nr2) nr2) nr2) nr2
      have hbb := f6_below5 (c := w.heap.size + 1 + 1) (HJ6.out.b.setCell (p := ⟨o, 2, none⟩) (show w.heap.size ≤ o by omega) (.int .i64 (fi + 1))) (by omega) (.slice (some ⟨gg, 0, none⟩) n gc) (.slice (some ⟨gq, 0, none⟩) n qc) (.int .i64 (fi + 1)) (.int .i64 nx) (.int .i64 dr)
      refine ⟨some ⟨gg, 0, none⟩, gc, some ⟨gq, 0, none⟩, qc, by simp only [HIL.out, HPL.out], ?_, ?_, ⟨fun b off e => by simp at e; omega, fun b off e => by simp at e; omega⟩, hbb⟩
      · rw [HIL.out]; exact km1
      · rw [HPL.out]; exact km2
end Go.Proofs.YtolgclajlklmaaaGreat

namespace Go.Proofs.YtolgclajlklmaaaGreat
set_option linter.unusedSimpArgs false
set_option linter.unusedVariables false
open Go.RowKit
set_option maxRecDepth 8000 in
set_option maxHeartbeats 4000000 in
theorem s_l6Deque_not (k : Int) (ia : Option Addr) (n ic : Nat) (pa : Option Addr) (pc : Nat) (fi nx dr : Int) (I P : List Int) (pp : Bool) (x : Int) (w : World) (hI : Nums .i64 w ia n ic I) (hP : Nums .i64 w pa n pc P) (hn : n ≤ 60) (hcan : Agg.can (pp, x) (nx - fi) = false) (hs0 : 0 ≤ nx - fi) (hf0 : 0 ≤ fi) (hf1 : fi ≤ 1000000) (hx0 : 0 ≤ nx) (hx1 : nx ≤ 1000000) :
    Calls Tryz.prog 39 #[.int .i64 k, .agg #[.slice ia n ic, .slice pa n pc, .int .i64 fi, .int .i64 nx, .int .i64 dr], .agg #[.bool pp, .int .i64 x]] w fun e w' => e = .returned (.tuple #[.agg #[.slice ia n ic, .slice pa n pc, .int .i64 fi, .int .i64 nx, .int .i64 dr], .bool false]) ∧ Below w.heap.size w w' := by
  have HCAN := Lib.hid hcan
  clear hcan
  obtain ⟨i0, hi, hz0, hz1, hz2⟩ := info_parts infoInt
  have HIL := Lib.hid (show I.length = n from hI.1)
  have HPL := Lib.hid (show P.length = n from hP.1)
  have HI := Lib.hid hI
  have HP := Lib.hid hP
  obtain ⟨W, hW⟩ : ∃ W, W = ((w.alloc (.cells #[.slice ia n ic, .slice pa n pc, .int .i64 fi, .int .i64 nx, .int .i64 dr] 28)).alloc (.cells #[.bool pp, .int .i64 x] 76)).alloc (.cells #[.slice none 0 0, .slice none 0 0, .int .i64 0, .int .i64 0, .int .i64 0] 28) := ⟨_, rfl⟩
  have HJ := Lib.hid (show L6St w ia n ic pa pc fi nx dr pp x W from by
    rw [hW]
    exact ⟨((Box5.new w _ _ _ _ _ _).alloc _).alloc _, (Box2d.new1 _ _ _ (by simp)).alloc _, Box5.new1 _ _ _ _ _ _ (by simp), (((Below.refl _ _).alloc (Nat.le_refl _) _).alloc (by simp) _).alloc (by simp; omega) _⟩)
  clear hI hP
  go_enter Tryz.func39, Tryz.ntmps39
  go_upto_region 1 with (fail)
  rw [← hW]
  clear hW
  have hWl := HJ.out.lt
  obtain ⟨W1, hW1⟩ : ∃ W1, W1 = W.alloc (.cells #[.slice ia n ic, .slice pa n pc, .int .i64 fi, .int .i64 nx, .int .i64 dr] 28) := ⟨_, rfl⟩
  have HJ1 := Lib.hid (show L6St w ia n ic pa pc fi nx dr pp x W1 from by rw [hW1]; exact HJ.out.alloc _)
  have HU1 := Lib.hid (show Box5 W1 W.heap.size 28 (.slice ia n ic) (.slice pa n pc) (.int .i64 fi) (.int .i64 nx) (.int .i64 dr) from by rw [hW1]; exact Box5.new W _ _ _ _ _ _)
  obtain ⟨q0, q1, q2, q3, q4⟩ := HJ.out.d.cells
  go_upto_region 2 with (fail)
  rw [← hW1]
  clear hW1 q0 q1 q2 q3 q4
  obtain ⟨o, ho⟩ : ∃ o, o = W.heap.size := ⟨_, rfl⟩
  rw [← ho] at HU1 hWl ⊢
  clear ho HJ
  obtain ⟨q0, q1, q2, q3, q4⟩ := HJ1.out.d.cells
  have hla : w.heap.size < W1.heap.size := by have := HJ1.out.lt; omega
  go_upto_region 3 with (at_builtin; go_must (refine wpList_append_copy rfl (.tmp 10) (.tmp 12) 26 rfl 3 i0 (.int .i64 0) 1 8 Tryz.underlying26 hi hz0 hz1 hz2 rfl (by decide) W1.heap.size rfl (heap_alloc_new W1 _) ia n ic (I.map (Value.int .i64)) rfl (Nums.src (HI.out.below (HJ1.out.b.alloc HJ1.out.b.size _))) (by unfold maxLen; omega) (by omega) ?_); go_loud (intro v2 w2 hown2 hgrow2; obtain ⟨ga, gc, rfl⟩ := slice_own hown2; have HO2 := Lib.hid hown2; have HJ2 := Lib.hid ((HJ1.out.alloc (.cells #[] 3)).grown hgrow2 (fun g e => by have := HJ1.out.lt; simp only [Option.some.injEq] at e; omega)); have HU2 := Lib.hid ((HU1.out.alloc (.cells #[] 3)).grown hgrow2 (fun e => by have := HU1.out.lt; simp only [Option.some.injEq] at e; omega)); have hs2 := hgrow2.size; simp at hs2; obtain ⟨u0, u1, u2, u3, u4⟩ := HU2.out.cells; have uf := HU2.out.free; clear hown2 hgrow2))
  obtain ⟨X2, hX2⟩ : ∃ X2, X2 = w2.setCell ⟨o, 0, none⟩ (.slice ga n gc) := ⟨_, rfl⟩
  have HJ3 := Lib.hid (show L6St w ia n ic pa pc fi nx dr pp x X2 from by rw [hX2]; exact HJ2.out.set hWl)
  have HU3 := Lib.hid (show Box5 X2 o 28 (.slice ga n gc) (.slice pa n pc) (.int .i64 fi) (.int .i64 nx) (.int .i64 dr) from by rw [hX2]; exact HU2.out.set0 _)
  have hWX : W1.heap.size < X2.heap.size := by rw [hX2]; simp only [World.setCell, Array.size_modify]; omega
  have HO3 := Lib.hid (show X2.ownsRow W1.heap.size 3 1 (.slice ga n gc) n (I.map (Value.int .i64)) from by rw [hX2]; exact own_far HO2.out (fun g hg => by have := (HO2.out.lt g hg).1; have := HU1.out.lt; omega))
  rw [← hX2]
  clear hX2 q0 q1 q2 q3 q4 u0 u1 u2 u3 u4 uf HJ2 HU2 HO2
  obtain ⟨q0, q1, q2, q3, q4⟩ := HJ3.out.d.cells
  have hlb : w.heap.size < X2.heap.size := by have := HJ3.out.lt; omega
  go_upto_region 4 with (at_builtin; go_must (refine wpList_append_copy rfl (.tmp 15) (.tmp 17) 26 rfl 3 i0 (.int .i64 0) 1 8 Tryz.underlying26 hi hz0 hz1 hz2 rfl (by decide) X2.heap.size rfl (heap_alloc_new X2 _) pa n pc (P.map (Value.int .i64)) rfl (Nums.src (HP.out.below (HJ3.out.b.alloc HJ3.out.b.size _))) (by unfold maxLen; omega) (by omega) ?_); go_loud (intro v4 w4 hown4 hgrow4; obtain ⟨qa, qc, rfl⟩ := slice_own hown4; have HO4 := Lib.hid hown4; have HJ4 := Lib.hid ((HJ3.out.alloc (.cells #[] 3)).grown hgrow4 (fun g e => by have := HJ3.out.lt; simp only [Option.some.injEq] at e; omega)); have HU4 := Lib.hid ((HU3.out.alloc (.cells #[] 3)).grown hgrow4 (fun e => by have := HU3.out.lt; simp only [Option.some.injEq] at e; omega)); have HG4 := Lib.hid ((HO3.out.alloc (.cells #[] 3)).kept hgrow4 (row_newd HO3.out (Nat.le_refl _))); have HGL := Lib.hid (fun g (hg : (Value.slice ga n gc).ownBlock = some g) => (HO3.out.lt g hg)); have hs4 := hgrow4.size; simp at hs4; obtain ⟨u0, u1, u2, u3, u4⟩ := HU4.out.cells; have uf := HU4.out.free; clear hown4 hgrow4))
  obtain ⟨X4, hX4⟩ : ∃ X4, X4 = w4.setCell ⟨o, 1, none⟩ (.slice qa n qc) := ⟨_, rfl⟩
  have HJ5 := Lib.hid (show L6St w ia n ic pa pc fi nx dr pp x X4 from by rw [hX4]; exact HJ4.out.set hWl)
  have HU5 := Lib.hid (show Box5 X4 o 28 (.slice ga n gc) (.slice qa n qc) (.int .i64 fi) (.int .i64 nx) (.int .i64 dr) from by rw [hX4]; exact HU4.out.set1 _)
  have hoW := HU1.out.lt
  have hoX := HU3.out.lt
  have HG5 := Lib.hid (show X4.ownsRow W1.heap.size 3 1 (.slice ga n gc) n (I.map (Value.int .i64)) from by rw [hX4]; exact own_far HG4.out (fun g hg => by have := (HGL.out g hg).1; omega))
  have HQ5 := Lib.hid (show X4.ownsRow X2.heap.size 3 1 (.slice qa n qc) n (P.map (Value.int .i64)) from by rw [hX4]; exact own_far HO4.out (fun g hg => by have := (HO4.out.lt g hg).1; omega))
  have hX4s : X2.heap.size < X4.heap.size := by rw [hX4]; simp only [World.setCell, Array.size_modify]; omega
  rw [← hX4]
  clear hX4 q0 q1 q2 q3 q4 u0 u1 u2 u3 u4 uf HJ4 HU4 HO4 HG4 HJ3 HU3 HO3 HJ1 HU1
  obtain ⟨p0, p1⟩ := HJ5.out.o.cells
  obtain ⟨q0, q1, q2, q3, q4⟩ := HJ5.out.d.cells
  obtain ⟨u0, u1, u2, u3, u4⟩ := HU5.out.cells
  obtain ⟨s0, s1, s2, s3, s4⟩ := HJ5.out.r.cells
  have hsw : IntKind.i64.wrap (nx - fi) = nx - fi := IntWalk.i64_in _ ⟨by omega, by omega⟩
  cases pp
  · by_cases hx0' : x = 0
    · have he : fi = nx := by have h := HCAN.out; simp [Agg.can, Agg.opOk, hx0'] at h; omega
      subst he
      subst hx0'
      have sf := HJ5.out.r.free
      go_wp2_with fail
      refine bodyPost_ret (by simp [results, Tryz.results39, go_sem, *]; try rfl) rfl ?_
      exact ⟨rfl, f6_below5 HJ5.out.b (by omega) _ _ _ _ _⟩
    · skip
      have sf := HJ5.out.r.free
      go_wp2_with fail
      refine bodyPost_ret (by simp [results, Tryz.results39, go_sem, *]; try rfl) rfl ?_
      exact ⟨rfl, f6_below5 HJ5.out.b (by omega) _ _ _ _ _⟩
  · cases hxi : Agg.isItem x
    · have HXI := Lib.hid hxi
      clear hxi
      go_wp2_with fail
      refine (s_in_item _ _).mono ?_
      rintro e wk ⟨rfl, rfl⟩
      rw [HXI.out]
      have sf := HJ5.out.r.free
      go_wp2_with fail
      refine bodyPost_ret (by simp [results, Tryz.results39, go_sem, *]; try rfl) rfl ?_
      exact ⟨rfl, f6_below5 HJ5.out.b (by omega) _ _ _ _ _⟩
    · have hge : 60 ≤ nx - fi := by have h := HCAN.out; simp [Agg.can, Agg.opOk, hxi] at h; omega
      have HXI := Lib.hid hxi
      clear hxi
      go_wp2_with fail
      refine (s_in_item _ _).mono ?_
      rintro e wk ⟨rfl, rfl⟩
      rw [HXI.out]
      have sf := HJ5.out.r.free
      go_wp2_with fail
      refine bodyPost_ret (by simp [results, Tryz.results39, go_sem, *]; try rfl) rfl ?_
      exact ⟨rfl, f6_below5 HJ5.out.b (by omega) _ _ _ _ _⟩
end Go.Proofs.YtolgclajlklmaaaGreat

namespace Go.Proofs.YtolgclajlklmaaaGreat
set_option linter.unusedSimpArgs false
set_option linter.unusedVariables false
open Go.RowKit
end Go.Proofs.YtolgclajlklmaaaGreat
