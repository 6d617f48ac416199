/-
  Two stacks as the exact laws take, copy, compare, mark and hold them.
-/
import Derived.Test.YtmlkdbmhekiniaaGreatRw
import Derived.Test.YtmlkdbmhekiniaaGreatTa
import Derived.Deep.DeepMust
namespace Go.Proofs.YtmlkdbmhekiniaaGreat
set_option linter.unusedSimpArgs false
set_option linter.unusedVariables false
open Go.RowKit
/-- Stacks are made anew. -/
def MadeStacks (s : Agg.S) (w : World) (e : Ending) (w' : World) : Prop := ∃ v, e = .returned v ∧ StkOwn w' w.heap.size w'.heap.size v s ∧ Below w.heap.size w w'
theorem e_ownsRow_slice {w : World} {base e size n : Nat} {v : Value} {xs : List Value} (h : w.ownsRow base e size v n xs) : ∃ a c, v = .slice a n c := by
  rcases h.2 with ⟨rfl, rfl⟩ | ⟨g, cap, cur, rfl, -⟩
  · exact ⟨none, 0, rfl⟩
  · exact ⟨_, cap, rfl⟩
theorem OwnV.set {w : World} {lo hi n d o : Nat} {v u : Value} {l : List Agg.V} (h : OwnV w lo hi v n l) (hd : d < lo ∨ hi ≤ d) : OwnV (w.setCell ⟨d, o, none⟩ u) lo hi v n l :=
  h.kept (row := some d) ⟨rfl, rfl, rfl, by simp [World.setCell], fun k hk hne => Below.heap_setCell _ _ _ _ (fun e => hne (by rw [e]))⟩ (fun j e => by cases e; exact hd)
theorem OwnR.set {w : World} {lo hi n d o : Nat} {v u : Value} {l : List Int} (h : OwnR w lo hi v n l) (hd : d < lo ∨ hi ≤ d) : OwnR (w.setCell ⟨d, o, none⟩ u) lo hi v n l :=
  h.kept (row := some d) ⟨rfl, rfl, rfl, by simp [World.setCell], fun k hk hne => Below.heap_setCell _ _ _ _ (fun e => hne (by rw [e]))⟩ (fun j e => by cases e; exact hd)
theorem OwnV.wide {w : World} {lo hi lo' hi' n : Nat} {v : Value} {l : List Agg.V} (h : OwnV w lo hi v n l) (h1 : lo' ≤ lo) (h2 : hi ≤ hi') (h3 : hi' ≤ w.heap.size) : OwnV w lo' hi' v n l :=
  ⟨owns_lower h.1 h1, by have := h.2.1; omega, h3, fun g hg => Nat.lt_of_lt_of_le (h.2.2.2 g hg) h2⟩
theorem OwnR.wide {w : World} {lo hi lo' hi' n : Nat} {v : Value} {l : List Int} (h : OwnR w lo hi v n l) (h1 : lo' ≤ lo) (h2 : hi ≤ hi') (h3 : hi' ≤ w.heap.size) : OwnR w lo' hi' v n l :=
  ⟨owns_lower h.1 h1, by have := h.2.1; omega, h3, fun g hg => Nat.lt_of_lt_of_le (h.2.2.2 g hg) h2⟩
theorem size_set (w : World) (p : Addr) (u : Value) : (w.setCell p u).heap.size = w.heap.size := by simp [World.setCell]
set_option maxRecDepth 8000 in
set_option maxHeartbeats 4000000 in
theorem eqStacks_own {lo hi lo' hi' : Nat} {v v' : Value} {s : Agg.S} (w : World) (h : StkOwn w lo hi v s) (h' : StkOwn w lo' hi' v' s) :
    Calls Tryz.prog 44 #[v, v'] w fun e w' => e = .returned (.bool true) ∧ Below w.heap.size w w' := by
  obtain ⟨fa, fc, ia, ic, rfl, hF, hI⟩ := h.read
  obtain ⟨fa', fc', ia', ic', rfl, hF', hI'⟩ := h'.read
  obtain ⟨F, I, ⟨bx, by', bz⟩, fl, co⟩ := s
  simp only at hF hI hF' hI'
  have HF := Lib.hid hF
  have HI := Lib.hid hI
  have HF' := Lib.hid hF'
  have HI' := Lib.hid hI'
  clear h h' hF hI hF' hI'
  obtain ⟨fn, hfn⟩ : ∃ fn, fn = F.length := ⟨_, rfl⟩
  obtain ⟨m, hm⟩ : ∃ m, m = I.length := ⟨_, rfl⟩
  rw [← hfn] at HF HF'
  rw [← hm] at HI HI'
  simp only [← hfn, ← hm]
  have HFN := Lib.hid hfn
  have HM := Lib.hid hm
  clear hfn hm
  obtain ⟨W, hW⟩ : ∃ W, W = ((w.alloc (.cells #[.slice fa fn fc, .slice ia m ic, .int .i64 bx, .int .i64 by', .int .i64 bz, .int .i64 fl, .int .i64 co] 59)).alloc (.cells #[.slice fa' fn fc', .slice ia' m ic', .int .i64 bx, .int .i64 by', .int .i64 bz, .int .i64 fl, .int .i64 co] 59)) := ⟨_, rfl⟩
  have HA := Lib.hid (show Box7 W w.heap.size 59 (.slice fa fn fc) (.slice ia m ic) (.int .i64 bx) (.int .i64 by') (.int .i64 bz) (.int .i64 fl) (.int .i64 co) from by rw [hW]; exact (Box7.new w _ _ _ _ _ _ _ _).alloc _)
  have HR := Lib.hid (show Box7 W (w.heap.size + 1) 59 (.slice fa' fn fc') (.slice ia' m ic') (.int .i64 bx) (.int .i64 by') (.int .i64 bz) (.int .i64 fl) (.int .i64 co) from by rw [hW]; exact Box7.new1 (Y := w.alloc _) _ _ _ _ _ _ _ _ (by simp))
  have HB := Lib.hid (show Below w.heap.size w W from by rw [hW]; exact ((Below.refl _ _).alloc (Nat.le_refl _) _).alloc (by simp) _)
  go_enter Tryz.func44, Tryz.ntmps44
  go_wp2_with fail
  rw [← hW]
  clear hW
  refine (eqValueS_same _ _ _ _ _ _ F _ (HF.out.below HB.out) (HF'.out.below HB.out)).mono ?_
  rintro e w1 ⟨rfl, hb1⟩
  have HA1 := Lib.hid (HA.out.call hb1)
  have HR1 := Lib.hid (HR.out.call hb1)
  have HB1 := Lib.hid (HB.out.trans (hb1.mono HB.out.size))
  obtain ⟨q0, q1, q2, q3, q4, q5, q6⟩ := HA1.out.cells
  obtain ⟨r0, r1, r2, r3, r4, r5, r6⟩ := HR1.out.cells
  clear hb1 HA HR HB
  go_wp2_with fail
  refine (eqIntS_same _ _ _ _ _ _ I _ (HI.out.below HB1.out) (HI'.out.below HB1.out)).mono ?_
  rintro e w2 ⟨rfl, hb2⟩
  have HA2 := Lib.hid (HA1.out.call hb2)
  have HR2 := Lib.hid (HR1.out.call hb2)
  have HB2 := Lib.hid (HB1.out.trans (hb2.mono HB1.out.size))
  clear hb2 HA1 HR1 HB1 q0 q1 q2 q3 q4 q5 q6 r0 r1 r2 r3 r4 r5 r6
  obtain ⟨q0, q1, q2, q3, q4, q5, q6⟩ := HA2.out.cells
  obtain ⟨r0, r1, r2, r3, r4, r5, r6⟩ := HR2.out.cells
  go_wp2_with fail
  refine (eqValue_same _ _ _ _).mono ?_
  rintro e w3 ⟨rfl, hb3⟩
  have HA3 := Lib.hid (HA2.out.call hb3)
  have HR3 := Lib.hid (HR2.out.call hb3)
  have HB3 := Lib.hid (HB2.out.trans (hb3.mono HB2.out.size))
  clear hb3 HA2 HR2 HB2 q0 q1 q2 q3 q4 q5 q6 r0 r1 r2 r3 r4 r5 r6
  obtain ⟨q0, q1, q2, q3, q4, q5, q6⟩ := HA3.out.cells
  obtain ⟨r0, r1, r2, r3, r4, r5, r6⟩ := HR3.out.cells
  go_wp2_with fail
  go_returns
  exact ⟨rfl, HB3.out⟩
end Go.Proofs.YtmlkdbmhekiniaaGreat
