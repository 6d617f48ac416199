/-
  For every text of bytes the deque of a run, its numbers and whether it can be made are those of the model; the numbers are those of the windows, and the deque left is valid, with the window's size. For every input that can be read as data, with no condition.
-/
import Derived.Test.YtolgclajlklmaaaGreatRw
import Derived.Test.YtolgclajlklmaaaGreat6lg
import Derived.WalkKit
import Derived.ProofKit
import Derived.OpenShut
import Derived.ShutString
import Derived.ChangeOld
import Derived.Below
import Derived.Lib.SmallJoins
import Derived.Test.YtolgclajlklmaaaGreatCl
namespace Go.Proofs.YtolgclajlklmaaaGreat.fnDequeRun
open Go.ChangeShapes Go.WideShapes Go.ChangeAt Go.RowKit Go.Joins
open Go.ChangeMaps (open_string shut_string)
set_option linter.unusedVariables false
set_option linter.unusedSimpArgs false

theorem own : ownKnob Tryz.prog.godebug = none := by kernel_rfl
theorem laidOut : laidOutB Tryz.prog = true := by kernel_rfl

set_option maxRecDepth 100000 in
theorem lifted (os : Os) (started : os.Started) (H : Type) (enc : TypeId × Value → H) :
    ReturnsInHanded {} Tryz.checked os 3 .any (Rows.fnDequeRunSpec.pre6 enc Tryz.prog Tryz.f3 Rows.fnDequeRunRow.domain false) (Rows.fnDequeRunSpec.post enc Tryz.prog Tryz.f3 false true false false) := by
  refine returnsInHanded_of_change (C := Tryz.checked) own started (by kernel_rfl) Tryz.func3
    (ChangeSpec.witness6 (enc := enc) (C := Tryz.checked) false ⟨#[], #[.slice none 0 0], []⟩ 8 (by kernel_rfl) (by kernel_rfl) (by kernel_rfl) (by kernel_rfl)) ?_
  intro W base args ds gs before hval0 hW hcnd _
  have hval : ∀ (j : Nat) t v, Tryz.f3.params[j]? = some t → args[j]? = some v → Value.okWide Tryz.prog W .any base t v := hval0
  have hW' := hW
  obtain ⟨p, q, hA0, hV, rfl, hfz, hnd⟩ := hW
  have hA : DataW.TrodAll enc Tryz.prog W 0 (fun _ => true) true Tryz.f3.params.toList args.toList ds p := hA0
  rw [Tryz.params3] at hA hval
  obtain ⟨v0, vs0, d0, ds0, p0, q0, hargs, rfl, rfl, h0, r0⟩ := trodAll_cons hA
  obtain ⟨rfl, rfl, rfl⟩ := trodAll_nil r0
  obtain rfl : args = #[v0] := by cases args; simp_all
  obtain ⟨rfl, rfl⟩ := trodVars_none hV
  have k0 := h0
  have lt0 : ∀ x ∈ p0, x.block < W.heap.size := by obtain ⟨m, hm⟩ := k0; exact DataW.trod_lt m _ _ _ hm
  obtain ⟨a0, len0, cap0, rfl⟩ := okWide_slice Tryz.underlying22 (hval 0 22 v0 rfl rfl)
  obtain ⟨z0, w0⟩ : ∃ zs, IsRow .u8 W a0 len0 cap0 zs := by
    obtain ⟨fuel, hf⟩ := h0
    rcases open_ints Tryz.underlying22 Tryz.underlying5 (by kernel_rfl) hf with ⟨hcs, _⟩ | ⟨x, l, c, zs, hcs, _, hl, hm, hz, _, hcell, hwz⟩
    · simp [Value.cells] at hcs
      obtain ⟨rfl, rfl, rfl⟩ := hcs
      exact ⟨[], .inl ⟨rfl, rfl, rfl, rfl⟩⟩
    · simp [Value.cells] at hcs
      obtain ⟨rfl, rfl, rfl⟩ := hcs
      exact ⟨zs, .inr ⟨_, rfl, hl, hm, by simpa using hz, hcell, hwz⟩⟩
  clear hA0 hval0
  refine (law_FnDequeRun a0 len0 cap0 z0 W w0).mono fun e W' ⟨he, bel⟩ => ?_
  subst he
  exact ⟨_, rfl, _, _, _, [], _, [], hW', trodAll_mk1 (shut_bool Tryz.underlying4 _), (trodAll_cons_mk (Below.trod laidOut (by kernel_rfl) (of_decide_eq_true (by kernel_rfl)) k0 bel lt0) trodAll_mk0), rfl, bel.frame _, fun h => by cases h⟩

theorem k1 : Rows.fnDequeRunRow.wf (OpenSpec.ofChange Rows.fnDequeRunSpec) = true := by kernel_rfl
theorem k4 : Tryz.f3.params.all (Tryz.prog.readableRec ·) = true := by kernel_rfl
theorem k5 : namedTie Tryz.prog Rows.fnDequeRunRow.named Rows.fnDequeRunSpec.vars = true := by kernel_rfl
theorem k6 : (Rows.fnDequeRunRow.stops == []) = true := by kernel_rfl
theorem k8 : (Rows.fnDequeRunRow.knobs == []) = true := by kernel_rfl
theorem k10 : (Rows.fnDequeRunRow.inPlace == Tryz.prog.inPlace 3) = true := by kernel_rfl
theorem k11 : (Rows.fnDequeRunRow.unfollowed == Tryz.prog.unfollowed 3) = true := by kernel_rfl
theorem k12 : (Rows.fnDequeRunRow.recurses == Tryz.prog.recurses 3) = true := by kernel_rfl
theorem k13 : (Rows.fnDequeRunRow.named == Tryz.prog.varsNamed 3) = true := by kernel_rfl
theorem k14 : (Rows.fnDequeRunRow.maps == (Tryz.f3.params.toList ++ Rows.fnDequeRunSpec.plain.varTypes Tryz.prog).any (Tryz.prog.mapsRec ·)) = true := by kernel_rfl
theorem k15 : (Rows.fnDequeRunRow.ifaces == (Tryz.f3.params.toList ++ Rows.fnDequeRunSpec.plain.varTypes Tryz.prog).any (Tryz.prog.ifacesRec ·)) = true := by kernel_rfl
theorem k16 : (Rows.fnDequeRunRow.mapsOut == Tryz.prog.mapsAmong Tryz.f3.resultTypes.toList) = true := by kernel_rfl
theorem k17 : (Rows.fnDequeRunRow.loops == (Tryz.f3.params.toList ++ Rows.fnDequeRunSpec.plain.varTypes Tryz.prog).any (Tryz.prog.loopsFrom ·)) = true := by kernel_rfl
theorem k17b : (Rows.fnDequeRunRow.wideKeys == (Tryz.f3.params.toList ++ Rows.fnDequeRunSpec.plain.varTypes Tryz.prog ++ Tryz.f3.resultTypes.toList).any (Tryz.prog.wideKeysFrom ·)) = true := by kernel_rfl
theorem k18 : Rows.fnDequeRunSpec.vars.all (Tryz.prog.varReadable ·) = true := by kernel_rfl
theorem k19 : Tryz.f3.resultTypes.all (fun t => Tryz.prog.readableRec t && decide (t < Tryz.prog.types.size)) = true := by kernel_rfl
theorem k20 : (Rows.fnDequeRunRow.ifacesOut == Tryz.f3.resultTypes.toList.any (Tryz.prog.ifacesRec ·)) = true := by kernel_rfl
theorem k21 : (Rows.fnDequeRunRow.loopsOut == Tryz.f3.resultTypes.toList.any (Tryz.prog.loopsFrom ·)) = true := by kernel_rfl
theorem k23 : Rows.fnDequeRunRow.shortTexts.isNone = true := by kernel_rfl
theorem k26 : (Rows.fnDequeRunRow.pinned == Rows.fnDequeRunRow.pinnedBy) = true := by kernel_rfl
theorem k27 : (Rows.fnDequeRunRow.veiled == (Tryz.f3.params.toList ++ Rows.fnDequeRunSpec.plain.varTypes Tryz.prog ++ Tryz.f3.resultTypes.toList).any (Tryz.prog.veiledRec ·)) = true := by kernel_rfl
theorem k28 : Rows.fnDequeRunRow.veiledFits Tryz.prog Tryz.f3.params.toList (Tryz.f3.params.toList ++ Rows.fnDequeRunSpec.plain.varTypes Tryz.prog ++ Tryz.f3.resultTypes.toList) = true := by kernel_rfl
theorem k22 : (Rows.fnDequeRunRow.plainKeys == Tryz.prog.plainKeys) = true := by
  rw [show Rows.fnDequeRunRow.plainKeys = Rows.fnDequeRunRow.plainKeys from rfl]
  exact Cl.f22
theorem k24b : (Rows.fnDequeRunRow.lifted == Tryz.prog.liftsFinal) = true := by
  rw [show Rows.fnDequeRunRow.lifted = Rows.fnDequeRunRow.lifted from rfl]
  exact Cl.f24b
theorem k24c : (Tryz.prog.make == some Rows.fnDequeRunRow.make) = true := by
  rw [show Rows.fnDequeRunRow.make = Rows.fnDequeRunRow.make from rfl]
  exact Cl.f24c
set_option maxRecDepth 100000 in
theorem closed : joinedFacts Tryz.prog 3 Tryz.f3 Rows.fnDequeRunSpec Rows.fnDequeRunRow = true := by
  unfold joinedFacts
  simp only [k1, Cl.f2, Cl.f3, k4, k5, k6, Cl.f7, k8, Cl.f9, k10, k11, k12, k13, k14, k15, k16, k17, k17b, k18, k19, k20, k21, k22, k23, Cl.f23b, Cl.f24, k24b, k24c, k26, k27, k28, Bool.and_self, Bool.true_and, Bool.and_true]
  kernel_rfl
theorem named : Tryz.prog.funcNamed Rows.fnDequeRunRow.func = some 3 := by kernel_rfl


theorem over : Rows.fnDequeRunRow.holds Tryz.pinned (OpenSpec.ofChange Rows.fnDequeRunSpec) :=
  OpenClaim.holds_of_wide 3 Tryz.f3 rfl rfl rfl rfl rfl rfl rfl ⟨rfl, rfl, rfl, rfl, rfl⟩ rfl rfl rfl rfl rfl named Tryz.func3 closed
    (of_decide_eq_true (by kernel_rfl)) (by unfold Func.isWrapper; first | (rw [if_pos (by decide +kernel)]; kernel_rfl) | (rw [if_neg (by decide +kernel)]; exact ⟨rfl, rfl⟩))
    (fun os started H enc _ => lifted os started H enc)

/-- The statement, whole. -/
theorem proved : Rows.FnDequeRunSaid := over
#print axioms proved
end Go.Proofs.YtolgclajlklmaaaGreat.fnDequeRun
