/-
  Deques copied and compared, as the exact laws do.
-/
import Derived.Test.YtolgclajlklmaaaQx
namespace Go.Proofs.Ytolgclajlklmaaa
set_option linter.unusedSimpArgs false
set_option linter.unusedVariables false
open Go.RowKit
/-- A deque is made anew. -/
def MadeDq (s : Agg.Dq) (w : World) (e : Ending) (w' : World) : Prop := ∃ v, e = .returned v ∧ DqOwn w' w.heap.size w'.heap.size v s ∧ Below w.heap.size w w'
set_option maxRecDepth 8000 in
set_option maxHeartbeats 4000000 in
theorem eqDeque_own {lo hi lo' hi' : Nat} {v v' : Value} {s : Agg.Dq} (w : World) (h : DqOwn w lo hi v s) (h' : DqOwn w lo' hi' v' s) :
    Calls Try.prog 16 #[v, v'] w fun e w' => e = .returned (.bool true) ∧ Below w.heap.size w w' := by
  obtain ⟨ia, ic, pa, pc, rfl, hI, hP⟩ := h.read
  obtain ⟨ia', ic', pa', pc', rfl, hI', hP'⟩ := h'.read
  obtain ⟨I, P, fi, nx, dr⟩ := s
  simp only at hI hI' hP hP'
  have HI := Lib.hid hI
  have HI' := Lib.hid hI'
  have HP := Lib.hid hP
  have HP' := Lib.hid hP'
  clear h h' hI hI' hP hP'
  obtain ⟨n, hn⟩ : ∃ n, n = I.length := ⟨_, rfl⟩
  obtain ⟨m, hm⟩ : ∃ m, m = P.length := ⟨_, rfl⟩
  rw [← hn] at HI HI'
  rw [← hm] at HP HP'
  simp only [← hn, ← hm]
  clear hm hn
  obtain ⟨W, hW⟩ : ∃ W, W = ((w.alloc (.cells #[.slice ia n ic, .slice pa m pc, .int .i64 fi, .int .i64 nx, .int .i64 dr] 26)).alloc (.cells #[.slice ia' n ic', .slice pa' m pc', .int .i64 fi, .int .i64 nx, .int .i64 dr] 26)) := ⟨_, rfl⟩
  have HA := Lib.hid (show Box5 W w.heap.size 26 (.slice ia n ic) (.slice pa m pc) (.int .i64 fi) (.int .i64 nx) (.int .i64 dr) from by rw [hW]; exact (Box5.new w _ _ _ _ _ _).alloc _)
  have HR := Lib.hid (show Box5 W (w.heap.size + 1) 26 (.slice ia' n ic') (.slice pa' m pc') (.int .i64 fi) (.int .i64 nx) (.int .i64 dr) from by rw [hW]; exact Box5.new1 (Y := w.alloc _) _ _ _ _ _ _ (by simp))
  have HB := Lib.hid (show Below w.heap.size w W from by rw [hW]; exact ((Below.refl _ _).alloc (Nat.le_refl _) _).alloc (by simp) _)
  go_enter Try.func16, Try.ntmps16
  go_wp2_with fail
  rw [← hW]
  clear hW
  refine (eqIntS_same _ _ _ _ _ _ I _ (HI.out.below HB.out) (HI'.out.below HB.out)).mono ?_
  rintro e w1 ⟨rfl, hb1⟩
  have HA1 := Lib.hid (HA.out.call hb1)
  have HR1 := Lib.hid (HR.out.call hb1)
  have HB1 := Lib.hid (HB.out.trans (hb1.mono HB.out.size))
  obtain ⟨q0, q1, q2, q3, q4⟩ := HA1.out.cells
  obtain ⟨r0, r1, r2, r3, r4⟩ := HR1.out.cells
  clear hb1 HA HR HB
  go_wp2_with fail
  refine (eqIntS_same _ _ _ _ _ _ P _ (HP.out.below HB1.out) (HP'.out.below HB1.out)).mono ?_
  rintro e w2 ⟨rfl, hb2⟩
  have HA2 := Lib.hid (HA1.out.call hb2)
  have HR2 := Lib.hid (HR1.out.call hb2)
  have HB2 := Lib.hid (HB1.out.trans (hb2.mono HB1.out.size))
  clear hb2 q0 q1 q2 q3 q4 r0 r1 r2 r3 r4
  obtain ⟨q0, q1, q2, q3, q4⟩ := HA2.out.cells
  obtain ⟨r0, r1, r2, r3, r4⟩ := HR2.out.cells
  go_wp2_with fail
  go_returns
  exact ⟨rfl, HB2.out⟩
end Go.Proofs.Ytolgclajlklmaaa
