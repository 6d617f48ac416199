/-
  The law that panes have the numbers of items. For every input that can be read as data, with no condition.
-/
import Derived.Test.YtfmkjpbmaogjpaaGreatRw
import Derived.Test.YtfmkjpbmaogjpaaGreatPn
import Derived.WalkKit
import Derived.ProofKit
import Derived.OpenShut
import Derived.ShutString
import Derived.ChangeOld
import Derived.Below
import Derived.Lib.SmallJoins
import Derived.Test.YtfmkjpbmaogjpaaGreatCl
namespace Go.Proofs.YtfmkjpbmaogjpaaGreat.fnPaneNumbers
open Go.ChangeShapes Go.WideShapes Go.ChangeAt Go.RowKit Go.Joins
open Go.ChangeMaps (open_string shut_string)
set_option linter.unusedVariables false
set_option linter.unusedSimpArgs false

theorem own : ownKnob Tryz.prog.godebug = none := by kernel_rfl
theorem laidOut : laidOutB Tryz.prog = true := by kernel_rfl

set_option maxRecDepth 100000 in
theorem lifted (os : Os) (started : os.Started) (H : Type) (enc : TypeId × Value → H) :
    ReturnsInHanded {} Tryz.checked os 12 .any (Rows.fnPaneNumbersSpec.pre6 enc Tryz.prog Tryz.f12 Rows.fnPaneNumbersRow.domain false) (Rows.fnPaneNumbersSpec.post enc Tryz.prog Tryz.f12 false true false false) := by
  refine returnsInHanded_of_change (C := Tryz.checked) own started (by kernel_rfl) Tryz.func12
    (ChangeSpec.witness6 (enc := enc) (C := Tryz.checked) false ⟨#[], #[.slice none 0 0], []⟩ 8 (by kernel_rfl) (by kernel_rfl) (by kernel_rfl) (by kernel_rfl)) ?_
  intro W base args ds gs before hval0 hW hcnd _
  have hval : ∀ (j : Nat) t v, Tryz.f12.params[j]? = some t → args[j]? = some v → Value.okWide Tryz.prog W .any base t v := hval0
  have hW' := hW
  obtain ⟨p, q, hA0, hV, rfl, hfz, hnd⟩ := hW
  have hA : DataW.TrodAll enc Tryz.prog W 0 (fun _ => true) true Tryz.f12.params.toList args.toList ds p := hA0
  rw [Tryz.params12] at hA hval
  obtain ⟨v0, vs0, d0, ds0, p0, q0, hargs, rfl, rfl, h0, r0⟩ := trodAll_cons hA
  obtain ⟨rfl, rfl, rfl⟩ := trodAll_nil r0
  obtain rfl : args = #[v0] := by cases args; simp_all
  obtain ⟨rfl, rfl⟩ := trodVars_none hV
  have k0 := h0
  have lt0 : ∀ x ∈ p0, x.block < W.heap.size := by obtain ⟨m, hm⟩ := k0; exact DataW.trod_lt m _ _ _ hm
  obtain ⟨a0, len0, cap0, rfl⟩ := okWide_slice Tryz.underlying22 (hval 0 22 v0 rfl rfl)
  obtain ⟨z0, w0⟩ : ∃ zs, IsRow .u8 W a0 len0 cap0 zs := by
    obtain ⟨fuel, hf⟩ := h0
    rcases open_ints Tryz.underlying22 Tryz.underlying5 (by kernel_rfl) hf with ⟨hcs, _⟩ | ⟨x, l, c, zs, hcs, _, hl, hm, hz, _, hcell, hwz⟩
    · simp [Value.cells] at hcs
      obtain ⟨rfl, rfl, rfl⟩ := hcs
      exact ⟨[], .inl ⟨rfl, rfl, rfl, rfl⟩⟩
    · simp [Value.cells] at hcs
      obtain ⟨rfl, rfl, rfl⟩ := hcs
      exact ⟨zs, .inr ⟨_, rfl, hl, hm, by simpa using hz, hcell, hwz⟩⟩
  clear hA0 hval0
  refine (law_FnPaneNumbers a0 len0 cap0 z0 W w0).mono fun e W' ⟨he, bel⟩ => ?_
  subst he
  exact ⟨_, rfl, _, _, _, [], _, [], hW', trodAll_mk1 (shut_bool Tryz.underlying4 _), (trodAll_cons_mk (Below.trod laidOut (by kernel_rfl) (of_decide_eq_true (by kernel_rfl)) k0 bel lt0) trodAll_mk0), rfl, bel.frame _, fun h => by cases h⟩

theorem k1 : Rows.fnPaneNumbersRow.wf (OpenSpec.ofChange Rows.fnPaneNumbersSpec) = true := by kernel_rfl
theorem k4 : Tryz.f12.params.all (Tryz.prog.readableRec ·) = true := by kernel_rfl
theorem k5 : namedTie Tryz.prog Rows.fnPaneNumbersRow.named Rows.fnPaneNumbersSpec.vars = true := by kernel_rfl
theorem k6 : (Rows.fnPaneNumbersRow.stops == []) = true := by kernel_rfl
theorem k8 : (Rows.fnPaneNumbersRow.knobs == []) = true := by kernel_rfl
theorem k10 : (Rows.fnPaneNumbersRow.inPlace == Tryz.prog.inPlace 12) = true := by kernel_rfl
theorem k11 : (Rows.fnPaneNumbersRow.unfollowed == Tryz.prog.unfollowed 12) = true := by kernel_rfl
theorem k12 : (Rows.fnPaneNumbersRow.recurses == Tryz.prog.recurses 12) = true := by kernel_rfl
theorem k13 : (Rows.fnPaneNumbersRow.named == Tryz.prog.varsNamed 12) = true := by kernel_rfl
theorem k14 : (Rows.fnPaneNumbersRow.maps == (Tryz.f12.params.toList ++ Rows.fnPaneNumbersSpec.plain.varTypes Tryz.prog).any (Tryz.prog.mapsRec ·)) = true := by kernel_rfl
theorem k15 : (Rows.fnPaneNumbersRow.ifaces == (Tryz.f12.params.toList ++ Rows.fnPaneNumbersSpec.plain.varTypes Tryz.prog).any (Tryz.prog.ifacesRec ·)) = true := by kernel_rfl
theorem k16 : (Rows.fnPaneNumbersRow.mapsOut == Tryz.prog.mapsAmong Tryz.f12.resultTypes.toList) = true := by kernel_rfl
theorem k17 : (Rows.fnPaneNumbersRow.loops == (Tryz.f12.params.toList ++ Rows.fnPaneNumbersSpec.plain.varTypes Tryz.prog).any (Tryz.prog.loopsFrom ·)) = true := by kernel_rfl
theorem k17b : (Rows.fnPaneNumbersRow.wideKeys == (Tryz.f12.params.toList ++ Rows.fnPaneNumbersSpec.plain.varTypes Tryz.prog ++ Tryz.f12.resultTypes.toList).any (Tryz.prog.wideKeysFrom ·)) = true := by kernel_rfl
theorem k18 : Rows.fnPaneNumbersSpec.vars.all (Tryz.prog.varReadable ·) = true := by kernel_rfl
theorem k19 : Tryz.f12.resultTypes.all (fun t => Tryz.prog.readableRec t && decide (t < Tryz.prog.types.size)) = true := by kernel_rfl
theorem k20 : (Rows.fnPaneNumbersRow.ifacesOut == Tryz.f12.resultTypes.toList.any (Tryz.prog.ifacesRec ·)) = true := by kernel_rfl
theorem k21 : (Rows.fnPaneNumbersRow.loopsOut == Tryz.f12.resultTypes.toList.any (Tryz.prog.loopsFrom ·)) = true := by kernel_rfl
theorem k23 : Rows.fnPaneNumbersRow.shortTexts.isNone = true := by kernel_rfl
theorem k26 : (Rows.fnPaneNumbersRow.pinned == Rows.fnPaneNumbersRow.pinnedBy) = true := by kernel_rfl
theorem k27 : (Rows.fnPaneNumbersRow.veiled == (Tryz.f12.params.toList ++ Rows.fnPaneNumbersSpec.plain.varTypes Tryz.prog ++ Tryz.f12.resultTypes.toList).any (Tryz.prog.veiledRec ·)) = true := by kernel_rfl
theorem k28 : Rows.fnPaneNumbersRow.veiledFits Tryz.prog Tryz.f12.params.toList (Tryz.f12.params.toList ++ Rows.fnPaneNumbersSpec.plain.varTypes Tryz.prog ++ Tryz.f12.resultTypes.toList) = true := by kernel_rfl
theorem k22 : (Rows.fnPaneNumbersRow.plainKeys == Tryz.prog.plainKeys) = true := by
  rw [show Rows.fnPaneNumbersRow.plainKeys = Rows.fnRemoveFirstRow.plainKeys from rfl]
  exact Cl.f22
theorem k24b : (Rows.fnPaneNumbersRow.lifted == Tryz.prog.liftsFinal) = true := by
  rw [show Rows.fnPaneNumbersRow.lifted = Rows.fnRemoveFirstRow.lifted from rfl]
  exact Cl.f24b
theorem k24c : (Tryz.prog.make == some Rows.fnPaneNumbersRow.make) = true := by
  rw [show Rows.fnPaneNumbersRow.make = Rows.fnRemoveFirstRow.make from rfl]
  exact Cl.f24c
set_option maxRecDepth 100000 in
theorem closed : joinedFacts Tryz.prog 12 Tryz.f12 Rows.fnPaneNumbersSpec Rows.fnPaneNumbersRow = true := by
  unfold joinedFacts
  simp only [k1, Cl.f2, Cl.f3, k4, k5, k6, Cl.f7, k8, Cl.f9, k10, k11, k12, k13, k14, k15, k16, k17, k17b, k18, k19, k20, k21, k22, k23, Cl.f23b, Cl.f24, k24b, k24c, k26, k27, k28, Bool.and_self, Bool.true_and, Bool.and_true]
  kernel_rfl
theorem named : Tryz.prog.funcNamed Rows.fnPaneNumbersRow.func = some 12 := by kernel_rfl


theorem over : Rows.fnPaneNumbersRow.holds Tryz.pinned (OpenSpec.ofChange Rows.fnPaneNumbersSpec) :=
  OpenClaim.holds_of_wide 12 Tryz.f12 rfl rfl rfl rfl rfl rfl rfl ⟨rfl, rfl, rfl, rfl, rfl⟩ rfl rfl rfl rfl rfl named Tryz.func12 closed
    (of_decide_eq_true (by kernel_rfl)) (by unfold Func.isWrapper; first | (rw [if_pos (by decide +kernel)]; kernel_rfl) | (rw [if_neg (by decide +kernel)]; exact ⟨rfl, rfl⟩))
    (fun os started H enc _ => lifted os started H enc)

/-- The statement, whole. -/
theorem proved : Rows.FnPaneNumbersSaid := over
#print axioms proved
end Go.Proofs.YtfmkjpbmaogjpaaGreat.fnPaneNumbers
