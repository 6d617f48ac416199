/-
  The exact law of DequeStep. For every input that can be read as data, with no condition.
-/
import Derived.Test.YtbacdcegfinekaaRw
import Derived.Test.Ytbacdcegfinekaa6yr
import Derived.WalkKit
import Derived.ProofKit
import Derived.OpenShut
import Derived.ShutString
import Derived.ChangeOld
import Derived.Below
import Derived.Lib.SmallJoins
import Derived.Test.YtbacdcegfinekaaCl
import Derived.Test.YtbacdcegfinekaaFs
namespace Go.Proofs.Ytbacdcegfinekaa.fnExactDequeStep
open Go.ChangeShapes Go.WideShapes Go.ChangeAt Go.RowKit Go.Joins
open Go.ChangeMaps (open_string shut_string)
set_option linter.unusedVariables false
set_option linter.unusedSimpArgs false

theorem own : ownKnob Try.prog.godebug = none := by kernel_rfl
theorem laidOut : laidOutB Try.prog = true := by kernel_rfl
theorem cellsP : Try.prog.cellsOf 26 = 2 := by kernel_rfl

set_option maxRecDepth 100000 in
theorem lifted (os : Os) (started : os.Started) (H : Type) (enc : TypeId × Value → H) :
    ReturnsInHanded {} Try.checked os 3 .any (Rows.fnExactDequeStepSpec.pre6 enc Try.prog Try.f3 Rows.fnExactDequeStepRow.domain false) (Rows.fnExactDequeStepSpec.post enc Try.prog Try.f3 false true false false) := by
  refine returnsInHanded_of_change (C := Try.checked) own started (by kernel_rfl) Try.func3
    (ChangeSpec.witness6 (enc := enc) (C := Try.checked) false ⟨#[], #[.int .i64 0, .agg #[.slice none 0 0, .slice none 0 0, .int .i64 0, .int .i64 0, .int .i64 0], .agg #[.bool false, .int .i64 0]], []⟩ 8 (by kernel_rfl) (by kernel_rfl) (by kernel_rfl) (by kernel_rfl)) ?_
  intro W base args ds gs before hval0 hW hcnd _
  have hval : ∀ (j : Nat) t v, Try.f3.params[j]? = some t → args[j]? = some v → Value.okWide Try.prog W .any base t v := hval0
  have hW' := hW
  obtain ⟨p, q, hA0, hV, rfl, hfz, hnd⟩ := hW
  have hA : DataW.TrodAll enc Try.prog W 0 (fun _ => true) true Try.f3.params.toList args.toList ds p := hA0
  rw [Try.params3] at hA hval
  obtain ⟨v0, vs0, d0, ds0, p0, q0, hargs, rfl, rfl, h0, r0⟩ := trodAll_cons hA
  obtain ⟨v1, vs1, d1, ds1, p1, q1, rfl, rfl, rfl, h1, r1⟩ := trodAll_cons r0
  obtain ⟨v2, vs2, d2, ds2, p2, q2, rfl, rfl, rfl, h2, r2⟩ := trodAll_cons r1
  obtain ⟨rfl, rfl, rfl⟩ := trodAll_nil r2
  obtain rfl : args = #[v0, v1, v2] := by cases args; simp_all
  obtain ⟨rfl, rfl⟩ := trodVars_none hV
  have k0 := h0
  have lt0 : ∀ x ∈ p0, x.block < W.heap.size := by obtain ⟨m, hm⟩ := k0; exact DataW.trod_lt m _ _ _ hm
  obtain ⟨a0, rfl, -, -, w0⟩ := open_int Try.underlying3 (hval 0 3 v0 rfl rfl) h0
  have k1 := h1
  have lt1 : ∀ x ∈ p1, x.block < W.heap.size := by obtain ⟨m, hm⟩ := k1; exact DataW.trod_lt m _ _ _ hm
  obtain ⟨ia1, n1, ic1, pa1, m1, pc1, fi1, nx1, dr1, I1, P1, rfl, w1, w1b⟩ := open_deque (hval 1 24 v1 rfl rfl) h1
  have k2 := h2
  have lt2 : ∀ x ∈ p2, x.block < W.heap.size := by obtain ⟨m, hm⟩ := k2; exact DataW.trod_lt m _ _ _ hm
  obtain ⟨c20, c21, y20, y21, m2, rfl, -, -, hy20, hy21⟩ := open_agg2 Try.underlying26 (by kernel_rfl) cellsP (hval 2 26 v2 rfl rfl) h2
  obtain ⟨a20, e20, -⟩ := DataW.trod_bool Try.underlying4 hy20
  obtain ⟨a21, e21, -, -⟩ := DataW.trod_int Try.underlying3 hy21
  simp only [List.cons.injEq, and_true] at e20 e21
  subst e20 e21
  clear hA0 hval0
  refine (law_FnExactDequeStep a0 ia1 n1 ic1 pa1 m1 pc1 fi1 nx1 dr1 I1 P1 a20 a21 W w1 w1b).mono fun e W' ⟨he, bel⟩ => ?_
  subst he
  exact ⟨_, rfl, _, _, _, [], _, [], hW', trodAll_mk1 (shut_bool Try.underlying4 _), (trodAll_cons_mk (Below.trod laidOut (by kernel_rfl) (of_decide_eq_true (by kernel_rfl)) k0 bel lt0) (trodAll_cons_mk (Below.trod laidOut (by kernel_rfl) (of_decide_eq_true (by kernel_rfl)) k1 bel lt1) (trodAll_cons_mk (Below.trod laidOut (by kernel_rfl) (of_decide_eq_true (by kernel_rfl)) k2 bel lt2) trodAll_mk0))), rfl, bel.frame _, fun h => by cases h⟩

theorem k1 : Rows.fnExactDequeStepRow.wf (OpenSpec.ofChange Rows.fnExactDequeStepSpec) = true := by kernel_rfl
theorem k4 : Try.f3.params.all (Try.prog.readableRec ·) = true := by kernel_rfl
theorem k5 : namedTie Try.prog Rows.fnExactDequeStepRow.named Rows.fnExactDequeStepSpec.vars = true := by kernel_rfl
theorem k6 : (Rows.fnExactDequeStepRow.stops == []) = true := by kernel_rfl
theorem k8 : (Rows.fnExactDequeStepRow.knobs == []) = true := by kernel_rfl
theorem k10 : (Rows.fnExactDequeStepRow.inPlace == Try.prog.inPlace 3) = true := by kernel_rfl
theorem k11 : (Rows.fnExactDequeStepRow.unfollowed == Try.prog.unfollowed 3) = true := by kernel_rfl
theorem k12 : (Rows.fnExactDequeStepRow.recurses == Try.prog.recurses 3) = true := by kernel_rfl
theorem k13 : (Rows.fnExactDequeStepRow.named == Try.prog.varsNamed 3) = true := by kernel_rfl
theorem k14 : (Rows.fnExactDequeStepRow.maps == (Try.f3.params.toList ++ Rows.fnExactDequeStepSpec.plain.varTypes Try.prog).any (Try.prog.mapsRec ·)) = true := by kernel_rfl
theorem k15 : (Rows.fnExactDequeStepRow.ifaces == (Try.f3.params.toList ++ Rows.fnExactDequeStepSpec.plain.varTypes Try.prog).any (Try.prog.ifacesRec ·)) = true := by kernel_rfl
theorem k16 : (Rows.fnExactDequeStepRow.mapsOut == Try.prog.mapsAmong Try.f3.resultTypes.toList) = true := by kernel_rfl
theorem k17 : (Rows.fnExactDequeStepRow.loops == (Try.f3.params.toList ++ Rows.fnExactDequeStepSpec.plain.varTypes Try.prog).any (Try.prog.loopsFrom ·)) = true := by kernel_rfl
theorem k17b : (Rows.fnExactDequeStepRow.wideKeys == (Try.f3.params.toList ++ Rows.fnExactDequeStepSpec.plain.varTypes Try.prog ++ Try.f3.resultTypes.toList).any (Try.prog.wideKeysFrom ·)) = true := by kernel_rfl
theorem k18 : Rows.fnExactDequeStepSpec.vars.all (Try.prog.varReadable ·) = true := by kernel_rfl
theorem k19 : Try.f3.resultTypes.all (fun t => Try.prog.readableRec t && decide (t < Try.prog.types.size)) = true := by kernel_rfl
theorem k20 : (Rows.fnExactDequeStepRow.ifacesOut == Try.f3.resultTypes.toList.any (Try.prog.ifacesRec ·)) = true := by kernel_rfl
theorem k21 : (Rows.fnExactDequeStepRow.loopsOut == Try.f3.resultTypes.toList.any (Try.prog.loopsFrom ·)) = true := by kernel_rfl
theorem k23 : Rows.fnExactDequeStepRow.shortTexts.isNone = true := by kernel_rfl
theorem k26 : (Rows.fnExactDequeStepRow.pinned == Rows.fnExactDequeStepRow.pinnedBy) = true := by kernel_rfl
theorem k27 : (Rows.fnExactDequeStepRow.veiled == (Try.f3.params.toList ++ Rows.fnExactDequeStepSpec.plain.varTypes Try.prog ++ Try.f3.resultTypes.toList).any (Try.prog.veiledRec ·)) = true := by kernel_rfl
theorem k28 : Rows.fnExactDequeStepRow.veiledFits Try.prog Try.f3.params.toList (Try.f3.params.toList ++ Rows.fnExactDequeStepSpec.plain.varTypes Try.prog ++ Try.f3.resultTypes.toList) = true := by kernel_rfl
theorem k22 : (Rows.fnExactDequeStepRow.plainKeys == Try.prog.plainKeys) = true := by
  rw [show Rows.fnExactDequeStepRow.plainKeys = Rows.fnExactDequeStepRow.plainKeys from rfl]
  exact Cl.f22
theorem k24b : (Rows.fnExactDequeStepRow.lifted == Try.prog.liftsFinal) = true := by
  rw [show Rows.fnExactDequeStepRow.lifted = Rows.fnExactDequeStepRow.lifted from rfl]
  exact Cl.f24b
theorem k24c : (Try.prog.make == some Rows.fnExactDequeStepRow.make) = true := by
  rw [show Rows.fnExactDequeStepRow.make = Rows.fnExactDequeStepRow.make from rfl]
  exact Cl.f24c
set_option maxRecDepth 100000 in
theorem closed : joinedFacts Try.prog 3 Try.f3 Rows.fnExactDequeStepSpec Rows.fnExactDequeStepRow = true := by
  unfold joinedFacts
  simp only [k1, Cl.f2, Cl.f3, k4, k5, k6, Cl.f7, k8, Cl.f9, k10, k11, k12, k13, k14, k15, k16, k17, k17b, k18, k19, k20, k21, k22, k23, Cl.f23b, Cl.f24, k24b, k24c, k26, k27, k28, Bool.and_self, Bool.true_and, Bool.and_true]
  kernel_rfl
theorem named : Try.prog.funcNamed Rows.fnExactDequeStepRow.func = some 3 := by kernel_rfl


theorem over : Rows.fnExactDequeStepRow.holds Try.pinned (OpenSpec.ofChange Rows.fnExactDequeStepSpec) :=
  OpenClaim.holds_of_wide 3 Try.f3 rfl rfl rfl rfl rfl rfl rfl ⟨rfl, rfl, rfl, rfl, rfl⟩ rfl rfl rfl rfl rfl named Try.func3 closed
    (of_decide_eq_true (by kernel_rfl)) (by unfold Func.isWrapper; first | (rw [if_pos (by decide +kernel)]; kernel_rfl) | (rw [if_neg (by decide +kernel)]; exact ⟨rfl, rfl⟩))
    (fun os started H enc _ => lifted os started H enc)

/-- The statement, whole. -/
theorem proved : Rows.FnExactDequeStepSaid := over
#print axioms proved
end Go.Proofs.Ytbacdcegfinekaa.fnExactDequeStep
