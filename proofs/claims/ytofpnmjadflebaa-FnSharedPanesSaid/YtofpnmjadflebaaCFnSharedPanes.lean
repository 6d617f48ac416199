/-
  For every text of bytes the costs of the drawn queries are those of the model, and the first query alone takes at most the combinations that its panes take. For every input that can be read as data, with no condition.
-/
import Derived.Test.YtofpnmjadflebaaRw
import Derived.Test.Ytofpnmjadflebaa9yc
import Derived.WalkKit
import Derived.ProofKit
import Derived.OpenShut
import Derived.ShutString
import Derived.ChangeOld
import Derived.Below
import Derived.Lib.SmallJoins
import Derived.Test.YtofpnmjadflebaaCl
namespace Go.Proofs.Ytofpnmjadflebaa.fnSharedPanes
open Go.ChangeShapes Go.WideShapes Go.ChangeAt Go.RowKit Go.Joins
open Go.ChangeMaps (open_string shut_string)
set_option linter.unusedVariables false
set_option linter.unusedSimpArgs false

theorem own : ownKnob Try.prog.godebug = none := by kernel_rfl
theorem laidOut : laidOutB Try.prog = true := by kernel_rfl

set_option maxRecDepth 100000 in
theorem lifted (os : Os) (started : os.Started) (H : Type) (enc : TypeId × Value → H) :
    ReturnsInHanded {} Try.checked os 8 .any (Rows.fnSharedPanesSpec.pre6 enc Try.prog Try.f8 Rows.fnSharedPanesRow.domain false) (Rows.fnSharedPanesSpec.post enc Try.prog Try.f8 false true false false) := by
  refine returnsInHanded_of_change (C := Try.checked) own started (by kernel_rfl) Try.func8
    (ChangeSpec.witness6 (enc := enc) (C := Try.checked) false ⟨#[], #[.slice none 0 0], []⟩ 8 (by kernel_rfl) (by kernel_rfl) (by kernel_rfl) (by kernel_rfl)) ?_
  intro W base args ds gs before hval0 hW hcnd _
  have hval : ∀ (j : Nat) t v, Try.f8.params[j]? = some t → args[j]? = some v → Value.okWide Try.prog W .any base t v := hval0
  have hW' := hW
  obtain ⟨p, q, hA0, hV, rfl, hfz, hnd⟩ := hW
  have hA : DataW.TrodAll enc Try.prog W 0 (fun _ => true) true Try.f8.params.toList args.toList ds p := hA0
  rw [Try.params8] at hA hval
  obtain ⟨v0, vs0, d0, ds0, p0, q0, hargs, rfl, rfl, h0, r0⟩ := trodAll_cons hA
  obtain ⟨rfl, rfl, rfl⟩ := trodAll_nil r0
  obtain rfl : args = #[v0] := by cases args; simp_all
  obtain ⟨rfl, rfl⟩ := trodVars_none hV
  have k0 := h0
  have lt0 : ∀ x ∈ p0, x.block < W.heap.size := by obtain ⟨m, hm⟩ := k0; exact DataW.trod_lt m _ _ _ hm
  obtain ⟨a0, len0, cap0, rfl⟩ := okWide_slice Try.underlying22 (hval 0 22 v0 rfl rfl)
  obtain ⟨z0, w0⟩ : ∃ zs, IsRow .u8 W a0 len0 cap0 zs := by
    obtain ⟨fuel, hf⟩ := h0
    rcases open_ints Try.underlying22 Try.underlying5 (by kernel_rfl) hf with ⟨hcs, _⟩ | ⟨x, l, c, zs, hcs, _, hl, hm, hz, _, hcell, hwz⟩
    · simp [Value.cells] at hcs
      obtain ⟨rfl, rfl, rfl⟩ := hcs
      exact ⟨[], .inl ⟨rfl, rfl, rfl, rfl⟩⟩
    · simp [Value.cells] at hcs
      obtain ⟨rfl, rfl, rfl⟩ := hcs
      exact ⟨zs, .inr ⟨_, rfl, hl, hm, by simpa using hz, hcell, hwz⟩⟩
  clear hA0 hval0
  refine (law_FnSharedPanes a0 len0 cap0 z0 W w0).mono fun e W' ⟨he, bel⟩ => ?_
  subst he
  exact ⟨_, rfl, _, _, _, [], _, [], hW', trodAll_mk1 (shut_bool Try.underlying4 _), (trodAll_cons_mk (Below.trod laidOut (by kernel_rfl) (of_decide_eq_true (by kernel_rfl)) k0 bel lt0) trodAll_mk0), rfl, bel.frame _, fun h => by cases h⟩

theorem k1 : Rows.fnSharedPanesRow.wf (OpenSpec.ofChange Rows.fnSharedPanesSpec) = true := by kernel_rfl
theorem k4 : Try.f8.params.all (Try.prog.readableRec ·) = true := by kernel_rfl
theorem k5 : namedTie Try.prog Rows.fnSharedPanesRow.named Rows.fnSharedPanesSpec.vars = true := by kernel_rfl
theorem k6 : (Rows.fnSharedPanesRow.stops == []) = true := by kernel_rfl
theorem k8 : (Rows.fnSharedPanesRow.knobs == []) = true := by kernel_rfl
theorem k10 : (Rows.fnSharedPanesRow.inPlace == Try.prog.inPlace 8) = true := by kernel_rfl
theorem k11 : (Rows.fnSharedPanesRow.unfollowed == Try.prog.unfollowed 8) = true := by kernel_rfl
theorem k12 : (Rows.fnSharedPanesRow.recurses == Try.prog.recurses 8) = true := by kernel_rfl
theorem k13 : (Rows.fnSharedPanesRow.named == Try.prog.varsNamed 8) = true := by kernel_rfl
theorem k14 : (Rows.fnSharedPanesRow.maps == (Try.f8.params.toList ++ Rows.fnSharedPanesSpec.plain.varTypes Try.prog).any (Try.prog.mapsRec ·)) = true := by kernel_rfl
theorem k15 : (Rows.fnSharedPanesRow.ifaces == (Try.f8.params.toList ++ Rows.fnSharedPanesSpec.plain.varTypes Try.prog).any (Try.prog.ifacesRec ·)) = true := by kernel_rfl
theorem k16 : (Rows.fnSharedPanesRow.mapsOut == Try.prog.mapsAmong Try.f8.resultTypes.toList) = true := by kernel_rfl
theorem k17 : (Rows.fnSharedPanesRow.loops == (Try.f8.params.toList ++ Rows.fnSharedPanesSpec.plain.varTypes Try.prog).any (Try.prog.loopsFrom ·)) = true := by kernel_rfl
theorem k17b : (Rows.fnSharedPanesRow.wideKeys == (Try.f8.params.toList ++ Rows.fnSharedPanesSpec.plain.varTypes Try.prog ++ Try.f8.resultTypes.toList).any (Try.prog.wideKeysFrom ·)) = true := by kernel_rfl
theorem k18 : Rows.fnSharedPanesSpec.vars.all (Try.prog.varReadable ·) = true := by kernel_rfl
theorem k19 : Try.f8.resultTypes.all (fun t => Try.prog.readableRec t && decide (t < Try.prog.types.size)) = true := by kernel_rfl
theorem k20 : (Rows.fnSharedPanesRow.ifacesOut == Try.f8.resultTypes.toList.any (Try.prog.ifacesRec ·)) = true := by kernel_rfl
theorem k21 : (Rows.fnSharedPanesRow.loopsOut == Try.f8.resultTypes.toList.any (Try.prog.loopsFrom ·)) = true := by kernel_rfl
theorem k23 : Rows.fnSharedPanesRow.shortTexts.isNone = true := by kernel_rfl
theorem k26 : (Rows.fnSharedPanesRow.pinned == Rows.fnSharedPanesRow.pinnedBy) = true := by kernel_rfl
theorem k27 : (Rows.fnSharedPanesRow.veiled == (Try.f8.params.toList ++ Rows.fnSharedPanesSpec.plain.varTypes Try.prog ++ Try.f8.resultTypes.toList).any (Try.prog.veiledRec ·)) = true := by kernel_rfl
theorem k28 : Rows.fnSharedPanesRow.veiledFits Try.prog Try.f8.params.toList (Try.f8.params.toList ++ Rows.fnSharedPanesSpec.plain.varTypes Try.prog ++ Try.f8.resultTypes.toList) = true := by kernel_rfl
theorem k22 : (Rows.fnSharedPanesRow.plainKeys == Try.prog.plainKeys) = true := by
  rw [show Rows.fnSharedPanesRow.plainKeys = Rows.fnQueriesValidRow.plainKeys from rfl]
  exact Cl.f22
theorem k24b : (Rows.fnSharedPanesRow.lifted == Try.prog.liftsFinal) = true := by
  rw [show Rows.fnSharedPanesRow.lifted = Rows.fnQueriesValidRow.lifted from rfl]
  exact Cl.f24b
theorem k24c : (Try.prog.make == some Rows.fnSharedPanesRow.make) = true := by
  rw [show Rows.fnSharedPanesRow.make = Rows.fnQueriesValidRow.make from rfl]
  exact Cl.f24c
set_option maxRecDepth 100000 in
theorem closed : joinedFacts Try.prog 8 Try.f8 Rows.fnSharedPanesSpec Rows.fnSharedPanesRow = true := by
  unfold joinedFacts
  simp only [k1, Cl.f2, Cl.f3, k4, k5, k6, Cl.f7, k8, Cl.f9, k10, k11, k12, k13, k14, k15, k16, k17, k17b, k18, k19, k20, k21, k22, k23, Cl.f23b, Cl.f24, k24b, k24c, k26, k27, k28, Bool.and_self, Bool.true_and, Bool.and_true]
  kernel_rfl
theorem named : Try.prog.funcNamed Rows.fnSharedPanesRow.func = some 8 := by kernel_rfl


theorem over : Rows.fnSharedPanesRow.holds Try.pinned (OpenSpec.ofChange Rows.fnSharedPanesSpec) :=
  OpenClaim.holds_of_wide 8 Try.f8 rfl rfl rfl rfl rfl rfl rfl ⟨rfl, rfl, rfl, rfl, rfl⟩ rfl rfl rfl rfl rfl named Try.func8 closed
    (of_decide_eq_true (by kernel_rfl)) (by unfold Func.isWrapper; first | (rw [if_pos (by decide +kernel)]; kernel_rfl) | (rw [if_neg (by decide +kernel)]; exact ⟨rfl, rfl⟩))
    (fun os started H enc _ => lifted os started H enc)

/-- The statement, whole. -/
theorem proved : Rows.FnSharedPanesSaid := over
#print axioms proved
end Go.Proofs.Ytofpnmjadflebaa.fnSharedPanes
