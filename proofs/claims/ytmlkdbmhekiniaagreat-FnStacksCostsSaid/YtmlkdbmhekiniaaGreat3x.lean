/-
  The model's StacksValue; copies of stacks, in the program and in the model.
-/
import Derived.Test.YtmlkdbmhekiniaaGreat3w
import Derived.Deep.DeepMust
namespace Go.Proofs.YtmlkdbmhekiniaaGreat
set_option linter.unusedSimpArgs false
set_option linter.unusedVariables false
open Go.RowKit
theorem new_at {Y : World} {g : Nat} {o : Obj} (hg : g = Y.heap.size) : (Y.alloc o).heap[g]? = some o := by subst hg; exact heap_alloc_new Y o
theorem ownsRow_slice {w : World} {base e size n : Nat} {v : Value} {xs : List Value} (h : w.ownsRow base e size v n xs) : ∃ a c, v = .slice a n c := by
  rcases h.2 with ⟨rfl, rfl⟩ | ⟨g, cap, cur, rfl, -⟩
  · exact ⟨none, 0, rfl⟩
  · exact ⟨_, cap, rfl⟩
/-- Stacks are made anew. -/
def MadeStk (s : Agg.S) (w : World) (e : Ending) (w' : World) : Prop := ∃ v, e = .returned v ∧ StkOwn w' w.heap.size w'.heap.size v s ∧ Below w.heap.size w w'
theorem ownsRow_set {w : World} {base e size n d o : Nat} {v u : Value} {xs : List Value} (h : w.ownsRow base e size v n xs) (hd : d < base) : (w.setCell ⟨d, o, none⟩ u).ownsRow base e size v n xs := by
  refine h.kept (row := some d) ⟨rfl, rfl, rfl, by simp [World.setCell], fun k hk hne => Below.heap_setCell _ _ _ _ (fun e => hne (by rw [e]))⟩ ?_
  cases hv : v.ownBlock with
  | none => exact .inl rfl
  | some g => exact .inr (fun e => by have := (h.lt g hv).1; cases e; omega)
theorem row_ne_new {w : World} {base e size n g : Nat} {v : Value} {xs : List Value} (h : w.ownsRow base e size v n xs) (hg : w.heap.size ≤ g) : v.ownBlock = none ∨ v.ownBlock ≠ some g := by
  cases hv : v.ownBlock with
  | none => exact .inl rfl
  | some k => exact .inr (fun e => by have := (h.lt k hv).2; cases e; omega)
theorem OwnV.of {w : World} {lo lo' n : Nat} {v : Value} {l : List Agg.V} (h : w.ownsRow lo 25 3 v n (valRow l)) (hb : lo' ≤ lo) (hs : lo' ≤ w.heap.size) : OwnV w lo' w.heap.size v n l :=
  ⟨owns_lower h hb, hs, Nat.le_refl _, fun g hg => (h.lt g hg).2⟩
theorem OwnR.of {w : World} {lo lo' n : Nat} {v : Value} {l : List Int} (h : w.ownsRow lo 3 1 v n (l.map (Value.int .i64))) (hb : lo' ≤ lo) (hs : lo' ≤ w.heap.size) : OwnR w lo' w.heap.size v n l :=
  ⟨owns_lower h hb, hs, Nat.le_refl _, fun g hg => (h.lt g hg).2⟩
theorem grown_setCell_ (w : World) (p : Addr) (u : Value) : w.grownBy (w.setCell p u) (some p.block) := ⟨rfl, rfl, rfl, by simp [World.setCell], fun k hk hne => Below.heap_setCell _ _ _ _ (fun e => hne (by rw [e]))⟩
set_option maxRecDepth 8000 in
set_option maxHeartbeats 4000000 in
theorem s_l3Copy_any (fa : Option Addr) (fn fc : Nat) (ia : Option Addr) (m ic : Nat) (bx by' bz fl co : Int) (F : List Agg.V) (I : List Int) (w : World) (hF : Vals w fa fn fc F) (hI : Nums .i64 w ia m ic I) (h1 : fn ≤ 1048576) (h2 : m ≤ 1048576) :
    Calls Tryz.prog 87 #[.agg #[.slice fa fn fc, .slice ia m ic, .int .i64 bx, .int .i64 by', .int .i64 bz, .int .i64 fl, .int .i64 co]] w (MadeStk ⟨F, I, ⟨bx, by', bz⟩, fl, co⟩ w) := by
  obtain ⟨i0, hi, hz0, hz1, hz2⟩ := info_parts infoVal
  obtain ⟨j0, hj, hy0, hy1, hy2⟩ := info_parts infoInt
  have hFl : F.length = fn := hF.1
  have hIl : I.length = m := hI.1
  have HFL := Lib.hid hFl
  have HIL := Lib.hid hIl
  have HF := Lib.hid hF
  have HI := Lib.hid hI
  clear hF hI hFl hIl
  go_enter Tryz.func87, Tryz.ntmps87
  go_wp2_with (at_builtin; first | (refine wpList_append_copy rfl (.tmp 3) (.tmp 5) 57 rfl 25 i0 (.agg #[.int .i64 0, .int .i64 0, .int .i64 0]) 3 24 Tryz.underlying57 hi hz0 hz1 hz2 rfl (by decide) (w.heap.size + 1 + 1) rfl (new_at (by simp)) fa fn fc (valRow F) rfl (Vals.src (HF.out.below (by go_grown))) (by unfold maxLen; omega) (by omega) ?_; intro v1 w1 hown1 hgrow1; obtain ⟨a1, c1, rfl⟩ := ownsRow_slice hown1; have HO1 := Lib.hid hown1; have HX1 := Lib.hid (Box7.grown (c := w.heap.size) (T := 59) (((Box7.new w _ _ _ _ _ _ _ _).alloc _).alloc _) hgrow1 (by simp <;> omega)); have HR1 := Lib.hid (Box7.grown (c := w.heap.size + 1) (T := 59) ((Box7.new1 (Y := w.alloc _) _ _ _ _ _ _ _ _ (by simp)).alloc _) hgrow1 (by simp <;> omega)); have HW1 := Lib.hid (Below.grown ((((Below.refl w.heap.size w).alloc (Nat.le_refl _) _).alloc (by simp) _).alloc (by simp; omega) _) hgrow1 (by simp <;> omega) (fun k hk => by have := Option.some.inj hk; omega)); obtain ⟨q0, q1, q2, q3, q4, q5, q6⟩ := HX1.out.cells; have f0 := HX1.out.free 0; have f1 := HX1.out.free 1; have hx1 := HX1.out.lt; have hs1 := hgrow1.size; simp at hs1; have hs1' : w.heap.size + 1 < w1.heap.size := (by omega); clear hown1 hgrow1) | (go_must (refine wpList_append_copy rfl (.tmp 8) (.tmp 10) 23 rfl 3 j0 (.int .i64 0) 1 8 Tryz.underlying23 hj hy0 hy1 hy2 rfl (by decide) w1.heap.size rfl (new_at (by simp [World.setCell])) ia m ic (I.map (Value.int .i64)) rfl (Nums.src (HI.out.below ((HW1.out.setCell (by simp) _).alloc (by simp [World.setCell]; omega) _))) (by unfold maxLen; omega) (by omega) ?_; intro v2 w2 hown2 hgrow2; obtain ⟨a2, c2, rfl⟩ := ownsRow_slice hown2; have HO2 := Lib.hid hown2; have HX2 := Lib.hid (Box7.grown ((HX1.out.set0 _).alloc _) hgrow2 (by simp <;> omega)); have HR2 := Lib.hid (Box7.grown ((HR1.out.other (by simp <;> omega) _ _).alloc _) hgrow2 (by simp <;> omega)); have HW2 := Lib.hid (Below.grown ((HW1.out.setCell (p := ⟨w.heap.size, 0, none⟩) (Nat.le_refl _) (.slice a1 fn c1)).alloc (by simp [World.setCell]; omega) (.cells #[] 3)) hgrow2 (by simp [World.setCell]; omega) (fun k hk => by have := Option.some.inj hk; omega)); have HO12 := Lib.hid (World.ownsRow.kept ((ownsRow_set HO1.out (by omega)).alloc (.cells #[] 3)) hgrow2 (row_ne_new HO1.out (Nat.le_refl _))); obtain ⟨r0, r1, r2, r3, r4, r5, r6⟩ := HR2.out.cells; have gR := HR2.out.free; obtain ⟨p0, p1, p2, p3, p4, p5, p6⟩ := HX2.out.cells; have g0 := HX2.out.free 0; have g1 := HX2.out.free 1; have hx2 := HX2.out.lt; have hs2 := hgrow2.size; simp [World.setCell] at hs2; clear hown2 hgrow2)))
  refine bodyPost_ret (by simp [results, Tryz.results87, go_sem, *]; try rfl) rfl ?_
  have hf := HFL.out
  have hi2 := HIL.out
  subst hf
  subst hi2
  have hW3 : Below w.heap.size w ((((((((w2.setCell ⟨w.heap.size, 1, none⟩ (.slice a2 I.length c2)).setCell ⟨w.heap.size + 1, 0, none⟩ (.slice a1 F.length c1)).setCell ⟨w.heap.size + 1, 1, none⟩ (.slice a2 I.length c2)).setCell ⟨w.heap.size + 1, 2, none⟩ (.int .i64 bx)).setCell ⟨w.heap.size + 1, 3, none⟩ (.int .i64 by')).setCell ⟨w.heap.size + 1, 4, none⟩ (.int .i64 bz)).setCell ⟨w.heap.size + 1, 5, none⟩ (.int .i64 fl)).setCell ⟨w.heap.size + 1, 6, none⟩ (.int .i64 co)) :=
    (((((((HW2.out.setCell (Nat.le_refl _) _).setCell (by simp) _).setCell (by simp) _).setCell (by simp) _).setCell (by simp) _).setCell (by simp) _).setCell (by simp) _).setCell (by simp) _
  refine ⟨_, rfl, ⟨_, _, rfl, OwnV.of (lo := w.heap.size + 1 + 1) ?_ (by omega) hW3.size, OwnR.of (lo := w1.heap.size) ?_ (by omega) hW3.size⟩, hW3⟩
  · exact ownsRow_set (ownsRow_set (ownsRow_set (ownsRow_set (ownsRow_set (ownsRow_set (ownsRow_set (ownsRow_set HO12.out (by omega)) (by omega)) (by omega)) (by omega)) (by omega)) (by omega)) (by omega)) (by omega)
  · exact ownsRow_set (ownsRow_set (ownsRow_set (ownsRow_set (ownsRow_set (ownsRow_set (ownsRow_set (ownsRow_set HO2.out (by omega)) (by omega)) (by omega)) (by omega)) (by omega)) (by omega)) (by omega)) (by omega)
end Go.Proofs.YtmlkdbmhekiniaaGreat
