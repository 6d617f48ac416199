/-
  The law FnExactPaneNumbers returns true: at all arguments the program's PaneNumbers answers as the model's, writes into no argument, and its answer owns its memory. For every input that can be read as data, with no condition.
-/
import Derived.Test.YtfmkjpbmaogjpaaGreatRw
import Derived.Test.YtfmkjpbmaogjpaaGreat5s
import Derived.WalkKit
import Derived.ProofKit
import Derived.OpenShut
import Derived.ShutString
import Derived.ChangeOld
import Derived.Below
import Derived.Lib.SmallJoins
import Derived.Test.YtfmkjpbmaogjpaaGreatCl
namespace Go.Proofs.YtfmkjpbmaogjpaaGreat.fnExactPaneNumbers
open Go.ChangeShapes Go.WideShapes Go.ChangeAt Go.RowKit Go.Joins
open Go.ChangeMaps (open_string shut_string)
set_option linter.unusedVariables false
set_option linter.unusedSimpArgs false

theorem own : ownKnob Tryz.prog.godebug = none := by kernel_rfl
theorem laidOut : laidOutB Tryz.prog = true := by kernel_rfl

set_option maxRecDepth 100000 in
theorem lifted (os : Os) (started : os.Started) (H : Type) (enc : TypeId × Value → H) :
    ReturnsInHanded {} Tryz.checked os 14 .any (Rows.fnExactPaneNumbersSpec.pre6 enc Tryz.prog Tryz.f14 Rows.fnExactPaneNumbersRow.domain false) (Rows.fnExactPaneNumbersSpec.post enc Tryz.prog Tryz.f14 false true false false) := by
  refine returnsInHanded_of_change (C := Tryz.checked) own started (by kernel_rfl) Tryz.func14
    (ChangeSpec.witness6 (enc := enc) (C := Tryz.checked) false ⟨#[], #[.int .i64 0, .slice none 0 0, .int .i64 0, .int .i64 0], []⟩ 8 (by kernel_rfl) (by kernel_rfl) (by kernel_rfl) (by kernel_rfl)) ?_
  intro W base args ds gs before hval0 hW hcnd _
  have hval : ∀ (j : Nat) t v, Tryz.f14.params[j]? = some t → args[j]? = some v → Value.okWide Tryz.prog W .any base t v := hval0
  have hW' := hW
  obtain ⟨p, q, hA0, hV, rfl, hfz, hnd⟩ := hW
  have hA : DataW.TrodAll enc Tryz.prog W 0 (fun _ => true) true Tryz.f14.params.toList args.toList ds p := hA0
  rw [Tryz.params14] at hA hval
  obtain ⟨v0, vs0, d0, ds0, p0, q0, hargs, rfl, rfl, h0, r0⟩ := trodAll_cons hA
  obtain ⟨v1, vs1, d1, ds1, p1, q1, rfl, rfl, rfl, h1, r1⟩ := trodAll_cons r0
  obtain ⟨v2, vs2, d2, ds2, p2, q2, rfl, rfl, rfl, h2, r2⟩ := trodAll_cons r1
  obtain ⟨v3, vs3, d3, ds3, p3, q3, rfl, rfl, rfl, h3, r3⟩ := trodAll_cons r2
  obtain ⟨rfl, rfl, rfl⟩ := trodAll_nil r3
  obtain rfl : args = #[v0, v1, v2, v3] := by cases args; simp_all
  obtain ⟨rfl, rfl⟩ := trodVars_none hV
  have k0 := h0
  have lt0 : ∀ x ∈ p0, x.block < W.heap.size := by obtain ⟨m, hm⟩ := k0; exact DataW.trod_lt m _ _ _ hm
  obtain ⟨a0, rfl, -, -, w0⟩ := open_int Tryz.underlying3 (hval 0 3 v0 rfl rfl) h0
  have k1 := h1
  have lt1 : ∀ x ∈ p1, x.block < W.heap.size := by obtain ⟨m, hm⟩ := k1; exact DataW.trod_lt m _ _ _ hm
  obtain ⟨a1, len1, cap1, rfl⟩ := okWide_slice Tryz.underlying34 (hval 1 34 v1 rfl rfl)
  obtain ⟨z1, w1⟩ : ∃ zs, IsRow .i64 W a1 len1 cap1 zs := by
    obtain ⟨fuel, hf⟩ := h1
    rcases open_ints Tryz.underlying34 Tryz.underlying3 (by kernel_rfl) hf with ⟨hcs, _⟩ | ⟨x, l, c, zs, hcs, _, hl, hm, hz, _, hcell, hwz⟩
    · simp [Value.cells] at hcs
      obtain ⟨rfl, rfl, rfl⟩ := hcs
      exact ⟨[], .inl ⟨rfl, rfl, rfl, rfl⟩⟩
    · simp [Value.cells] at hcs
      obtain ⟨rfl, rfl, rfl⟩ := hcs
      exact ⟨zs, .inr ⟨_, rfl, hl, hm, by simpa using hz, hcell, hwz⟩⟩
  have k2 := h2
  have lt2 : ∀ x ∈ p2, x.block < W.heap.size := by obtain ⟨m, hm⟩ := k2; exact DataW.trod_lt m _ _ _ hm
  obtain ⟨a2, rfl, -, -, w2⟩ := open_int Tryz.underlying3 (hval 2 3 v2 rfl rfl) h2
  have k3 := h3
  have lt3 : ∀ x ∈ p3, x.block < W.heap.size := by obtain ⟨m, hm⟩ := k3; exact DataW.trod_lt m _ _ _ hm
  obtain ⟨a3, rfl, -, -, w3⟩ := open_int Tryz.underlying3 (hval 3 3 v3 rfl rfl) h3
  clear hA0 hval0
  refine (law_FnExactPaneNumbers a0 a1 len1 cap1 z1 a2 a3 W w1).mono fun e W' ⟨he, bel⟩ => ?_
  subst he
  exact ⟨_, rfl, _, _, _, [], _, [], hW', trodAll_mk1 (shut_bool Tryz.underlying4 _), (trodAll_cons_mk (Below.trod laidOut (by kernel_rfl) (of_decide_eq_true (by kernel_rfl)) k0 bel lt0) (trodAll_cons_mk (Below.trod laidOut (by kernel_rfl) (of_decide_eq_true (by kernel_rfl)) k1 bel lt1) (trodAll_cons_mk (Below.trod laidOut (by kernel_rfl) (of_decide_eq_true (by kernel_rfl)) k2 bel lt2) (trodAll_cons_mk (Below.trod laidOut (by kernel_rfl) (of_decide_eq_true (by kernel_rfl)) k3 bel lt3) trodAll_mk0)))), rfl, bel.frame _, fun h => by cases h⟩

theorem k1 : Rows.fnExactPaneNumbersRow.wf (OpenSpec.ofChange Rows.fnExactPaneNumbersSpec) = true := by kernel_rfl
theorem k4 : Tryz.f14.params.all (Tryz.prog.readableRec ·) = true := by kernel_rfl
theorem k5 : namedTie Tryz.prog Rows.fnExactPaneNumbersRow.named Rows.fnExactPaneNumbersSpec.vars = true := by kernel_rfl
theorem k6 : (Rows.fnExactPaneNumbersRow.stops == []) = true := by kernel_rfl
theorem k8 : (Rows.fnExactPaneNumbersRow.knobs == []) = true := by kernel_rfl
theorem k10 : (Rows.fnExactPaneNumbersRow.inPlace == Tryz.prog.inPlace 14) = true := by kernel_rfl
theorem k11 : (Rows.fnExactPaneNumbersRow.unfollowed == Tryz.prog.unfollowed 14) = true := by kernel_rfl
theorem k12 : (Rows.fnExactPaneNumbersRow.recurses == Tryz.prog.recurses 14) = true := by kernel_rfl
theorem k13 : (Rows.fnExactPaneNumbersRow.named == Tryz.prog.varsNamed 14) = true := by kernel_rfl
theorem k14 : (Rows.fnExactPaneNumbersRow.maps == (Tryz.f14.params.toList ++ Rows.fnExactPaneNumbersSpec.plain.varTypes Tryz.prog).any (Tryz.prog.mapsRec ·)) = true := by kernel_rfl
theorem k15 : (Rows.fnExactPaneNumbersRow.ifaces == (Tryz.f14.params.toList ++ Rows.fnExactPaneNumbersSpec.plain.varTypes Tryz.prog).any (Tryz.prog.ifacesRec ·)) = true := by kernel_rfl
theorem k16 : (Rows.fnExactPaneNumbersRow.mapsOut == Tryz.prog.mapsAmong Tryz.f14.resultTypes.toList) = true := by kernel_rfl
theorem k17 : (Rows.fnExactPaneNumbersRow.loops == (Tryz.f14.params.toList ++ Rows.fnExactPaneNumbersSpec.plain.varTypes Tryz.prog).any (Tryz.prog.loopsFrom ·)) = true := by kernel_rfl
theorem k17b : (Rows.fnExactPaneNumbersRow.wideKeys == (Tryz.f14.params.toList ++ Rows.fnExactPaneNumbersSpec.plain.varTypes Tryz.prog ++ Tryz.f14.resultTypes.toList).any (Tryz.prog.wideKeysFrom ·)) = true := by kernel_rfl
theorem k18 : Rows.fnExactPaneNumbersSpec.vars.all (Tryz.prog.varReadable ·) = true := by kernel_rfl
theorem k19 : Tryz.f14.resultTypes.all (fun t => Tryz.prog.readableRec t && decide (t < Tryz.prog.types.size)) = true := by kernel_rfl
theorem k20 : (Rows.fnExactPaneNumbersRow.ifacesOut == Tryz.f14.resultTypes.toList.any (Tryz.prog.ifacesRec ·)) = true := by kernel_rfl
theorem k21 : (Rows.fnExactPaneNumbersRow.loopsOut == Tryz.f14.resultTypes.toList.any (Tryz.prog.loopsFrom ·)) = true := by kernel_rfl
theorem k23 : Rows.fnExactPaneNumbersRow.shortTexts.isNone = true := by kernel_rfl
theorem k26 : (Rows.fnExactPaneNumbersRow.pinned == Rows.fnExactPaneNumbersRow.pinnedBy) = true := by kernel_rfl
theorem k27 : (Rows.fnExactPaneNumbersRow.veiled == (Tryz.f14.params.toList ++ Rows.fnExactPaneNumbersSpec.plain.varTypes Tryz.prog ++ Tryz.f14.resultTypes.toList).any (Tryz.prog.veiledRec ·)) = true := by kernel_rfl
theorem k28 : Rows.fnExactPaneNumbersRow.veiledFits Tryz.prog Tryz.f14.params.toList (Tryz.f14.params.toList ++ Rows.fnExactPaneNumbersSpec.plain.varTypes Tryz.prog ++ Tryz.f14.resultTypes.toList) = true := by kernel_rfl
theorem k22 : (Rows.fnExactPaneNumbersRow.plainKeys == Tryz.prog.plainKeys) = true := by
  rw [show Rows.fnExactPaneNumbersRow.plainKeys = Rows.fnRemoveFirstRow.plainKeys from rfl]
  exact Cl.f22
theorem k24b : (Rows.fnExactPaneNumbersRow.lifted == Tryz.prog.liftsFinal) = true := by
  rw [show Rows.fnExactPaneNumbersRow.lifted = Rows.fnRemoveFirstRow.lifted from rfl]
  exact Cl.f24b
theorem k24c : (Tryz.prog.make == some Rows.fnExactPaneNumbersRow.make) = true := by
  rw [show Rows.fnExactPaneNumbersRow.make = Rows.fnRemoveFirstRow.make from rfl]
  exact Cl.f24c
set_option maxRecDepth 100000 in
theorem closed : joinedFacts Tryz.prog 14 Tryz.f14 Rows.fnExactPaneNumbersSpec Rows.fnExactPaneNumbersRow = true := by
  unfold joinedFacts
  simp only [k1, Cl.f2, Cl.f3, k4, k5, k6, Cl.f7, k8, Cl.f9, k10, k11, k12, k13, k14, k15, k16, k17, k17b, k18, k19, k20, k21, k22, k23, Cl.f23b, Cl.f24, k24b, k24c, k26, k27, k28, Bool.and_self, Bool.true_and, Bool.and_true]
  kernel_rfl
theorem named : Tryz.prog.funcNamed Rows.fnExactPaneNumbersRow.func = some 14 := by kernel_rfl


theorem over : Rows.fnExactPaneNumbersRow.holds Tryz.pinned (OpenSpec.ofChange Rows.fnExactPaneNumbersSpec) :=
  OpenClaim.holds_of_wide 14 Tryz.f14 rfl rfl rfl rfl rfl rfl rfl ⟨rfl, rfl, rfl, rfl, rfl⟩ rfl rfl rfl rfl rfl named Tryz.func14 closed
    (of_decide_eq_true (by kernel_rfl)) (by unfold Func.isWrapper; first | (rw [if_pos (by decide +kernel)]; kernel_rfl) | (rw [if_neg (by decide +kernel)]; exact ⟨rfl, rfl⟩))
    (fun os started H enc _ => lifted os started H enc)

/-- The statement, whole. -/
theorem proved : Rows.FnExactPaneNumbersSaid := over
#print axioms proved
end Go.Proofs.YtfmkjpbmaogjpaaGreat.fnExactPaneNumbers
