/-
  At every list of queries and every number of items SharedCosts answers as its model, both sums; it writes into no argument. For every input that can be read as data, with no condition.
-/
import Derived.Test.YtolgclajlklmaaaRw
import Derived.Test.Ytolgclajlklmaaa9t
import Derived.WalkKit
import Derived.ProofKit
import Derived.OpenShut
import Derived.ShutString
import Derived.ChangeOld
import Derived.Below
import Derived.Lib.SmallJoins
import Derived.Test.YtolgclajlklmaaaCl
import Derived.Deep.SlicePairs
namespace Go.Proofs.Ytolgclajlklmaaa.fnExactSharedCosts
open Go.ChangeShapes Go.WideShapes Go.ChangeAt Go.RowKit Go.Joins
open Go.ChangeMaps (open_string shut_string)
set_option linter.unusedVariables false
set_option linter.unusedSimpArgs false

theorem own : ownKnob Try.prog.godebug = none := by kernel_rfl
theorem laidOut : laidOutB Try.prog = true := by kernel_rfl

set_option maxRecDepth 100000 in
theorem lifted (os : Os) (started : os.Started) (H : Type) (enc : TypeId × Value → H) :
    ReturnsInHanded {} Try.checked os 11 .any (Rows.fnExactSharedCostsSpec.pre6 enc Try.prog Try.f11 Rows.fnExactSharedCostsRow.domain false) (Rows.fnExactSharedCostsSpec.post enc Try.prog Try.f11 false true false false) := by
  refine returnsInHanded_of_change (C := Try.checked) own started (by kernel_rfl) Try.func11
    (ChangeSpec.witness6 (enc := enc) (C := Try.checked) false ⟨#[], #[.slice none 0 0, .int .i64 0], []⟩ 8 (by kernel_rfl) (by kernel_rfl) (by kernel_rfl) (by kernel_rfl)) ?_
  intro W base args ds gs before hval0 hW hcnd _
  have hval : ∀ (j : Nat) t v, Try.f11.params[j]? = some t → args[j]? = some v → Value.okWide Try.prog W .any base t v := hval0
  have hW' := hW
  obtain ⟨p, q, hA0, hV, rfl, hfz, hnd⟩ := hW
  have hA : DataW.TrodAll enc Try.prog W 0 (fun _ => true) true Try.f11.params.toList args.toList ds p := hA0
  rw [Try.params11] at hA hval
  obtain ⟨v0, vs0, d0, ds0, p0, q0, hargs, rfl, rfl, h0, r0⟩ := trodAll_cons hA
  obtain ⟨v1, vs1, d1, ds1, p1, q1, rfl, rfl, rfl, h1, r1⟩ := trodAll_cons r0
  obtain ⟨rfl, rfl, rfl⟩ := trodAll_nil r1
  obtain rfl : args = #[v0, v1] := by cases args; simp_all
  obtain ⟨rfl, rfl⟩ := trodVars_none hV
  have k0 := h0
  have lt0 : ∀ x ∈ p0, x.block < W.heap.size := by obtain ⟨m, hm⟩ := k0; exact DataW.trod_lt m _ _ _ hm
  obtain ⟨a0, len0, cap0, rfl⟩ := okWide_slice Try.underlying55 (hval 0 55 v0 rfl rfl)
  obtain ⟨z0, w0⟩ : ∃ l, Qrs W a0 len0 cap0 l := by
    obtain ⟨fuel, hf⟩ := h0
    rcases Deep.open_slice_pairs Try.underlying55 Try.underlying63 (by kernel_rfl) (by kernel_rfl) (by kernel_rfl) (by kernel_rfl) (by kernel_rfl) hf with ⟨hcs, _⟩ | ⟨x, l, c, m, k, V0, V1, D0, D1, P0, P1, hcs, -, hl, hm, hmm, -, hcell⟩
    · simp [Value.cells] at hcs
      obtain ⟨rfl, rfl, rfl⟩ := hcs
      exact ⟨[], rfl, Nat.le_refl _, by simp [maxLen], .inl rfl⟩
    · simp [Value.cells] at hcs
      obtain ⟨rfl, rfl, rfl⟩ := hcs
      have hlm : len0 ≤ m := by rw [hmm]; split <;> omega
      have each : ∀ i, ∃ o : Int × Int, i < len0 → V0 i = .int .i64 o.1 ∧ V1 i = .int .i64 o.2 := by
        intro i
        by_cases hi : i < len0
        · obtain ⟨-, -, t0, t1⟩ := hcell i (by omega)
          obtain ⟨p, e0, -, -⟩ := DataW.trod_int Try.underlying3 t0
          obtain ⟨y, e1, -, -⟩ := DataW.trod_int Try.underlying3 t1
          simp only [List.cons.injEq, and_true] at e0 e1
          exact ⟨(p, y), fun _ => ⟨e0, e1⟩⟩
        · exact ⟨(0, 0), fun h => absurd h hi⟩
      obtain ⟨f, hfo⟩ := Classical.axiomOfChoice each
      refine ⟨(List.range len0).map f, by simp, hl, hm, ?_⟩
      by_cases h00 : len0 = 0
      · exact .inl h00
      · have hc0 := (hcell 0 (by omega)).1
        obtain ⟨b, off, spot⟩ := x
        have hspot : spot = none := by simpa [Addr.add] using World.cell?_spot hc0
        subst hspot
        refine .inr ⟨b, off, rfl, World.block_lt_of_cell? _ _ hc0, fun i hi => ?_⟩
        obtain ⟨q0, q1, -, -⟩ := hcell i (by omega)
        rw [(hfo i hi).1, Addr.add_lit] at q0
        rw [(hfo i hi).2, Addr.add_lit] at q1
        have e : ((List.range len0).map f)[i]?.getD (0, 0) = f i := by simp [hi]
        rw [e]
        exact ⟨q0, q1⟩
  have k1 := h1
  have lt1 : ∀ x ∈ p1, x.block < W.heap.size := by obtain ⟨m, hm⟩ := k1; exact DataW.trod_lt m _ _ _ hm
  obtain ⟨a1, rfl, -, -, w1⟩ := open_int Try.underlying3 (hval 1 3 v1 rfl rfl) h1
  clear hA0 hval0
  refine (law_FnExactSharedCosts a0 len0 cap0 z0 a1 W w0).mono fun e W' ⟨he, bel⟩ => ?_
  subst he
  exact ⟨_, rfl, _, _, _, [], _, [], hW', trodAll_mk1 (shut_bool Try.underlying4 _), (trodAll_cons_mk (Below.trod laidOut (by kernel_rfl) (of_decide_eq_true (by kernel_rfl)) k0 bel lt0) (trodAll_cons_mk (Below.trod laidOut (by kernel_rfl) (of_decide_eq_true (by kernel_rfl)) k1 bel lt1) trodAll_mk0)), rfl, bel.frame _, fun h => by cases h⟩

theorem k1 : Rows.fnExactSharedCostsRow.wf (OpenSpec.ofChange Rows.fnExactSharedCostsSpec) = true := by kernel_rfl
theorem k4 : Try.f11.params.all (Try.prog.readableRec ·) = true := by kernel_rfl
theorem k5 : namedTie Try.prog Rows.fnExactSharedCostsRow.named Rows.fnExactSharedCostsSpec.vars = true := by kernel_rfl
theorem k6 : (Rows.fnExactSharedCostsRow.stops == []) = true := by kernel_rfl
theorem k8 : (Rows.fnExactSharedCostsRow.knobs == []) = true := by kernel_rfl
theorem k10 : (Rows.fnExactSharedCostsRow.inPlace == Try.prog.inPlace 11) = true := by kernel_rfl
theorem k11 : (Rows.fnExactSharedCostsRow.unfollowed == Try.prog.unfollowed 11) = true := by kernel_rfl
theorem k12 : (Rows.fnExactSharedCostsRow.recurses == Try.prog.recurses 11) = true := by kernel_rfl
theorem k13 : (Rows.fnExactSharedCostsRow.named == Try.prog.varsNamed 11) = true := by kernel_rfl
theorem k14 : (Rows.fnExactSharedCostsRow.maps == (Try.f11.params.toList ++ Rows.fnExactSharedCostsSpec.plain.varTypes Try.prog).any (Try.prog.mapsRec ·)) = true := by kernel_rfl
theorem k15 : (Rows.fnExactSharedCostsRow.ifaces == (Try.f11.params.toList ++ Rows.fnExactSharedCostsSpec.plain.varTypes Try.prog).any (Try.prog.ifacesRec ·)) = true := by kernel_rfl
theorem k16 : (Rows.fnExactSharedCostsRow.mapsOut == Try.prog.mapsAmong Try.f11.resultTypes.toList) = true := by kernel_rfl
theorem k17 : (Rows.fnExactSharedCostsRow.loops == (Try.f11.params.toList ++ Rows.fnExactSharedCostsSpec.plain.varTypes Try.prog).any (Try.prog.loopsFrom ·)) = true := by kernel_rfl
theorem k17b : (Rows.fnExactSharedCostsRow.wideKeys == (Try.f11.params.toList ++ Rows.fnExactSharedCostsSpec.plain.varTypes Try.prog ++ Try.f11.resultTypes.toList).any (Try.prog.wideKeysFrom ·)) = true := by kernel_rfl
theorem k18 : Rows.fnExactSharedCostsSpec.vars.all (Try.prog.varReadable ·) = true := by kernel_rfl
theorem k19 : Try.f11.resultTypes.all (fun t => Try.prog.readableRec t && decide (t < Try.prog.types.size)) = true := by kernel_rfl
theorem k20 : (Rows.fnExactSharedCostsRow.ifacesOut == Try.f11.resultTypes.toList.any (Try.prog.ifacesRec ·)) = true := by kernel_rfl
theorem k21 : (Rows.fnExactSharedCostsRow.loopsOut == Try.f11.resultTypes.toList.any (Try.prog.loopsFrom ·)) = true := by kernel_rfl
theorem k23 : Rows.fnExactSharedCostsRow.shortTexts.isNone = true := by kernel_rfl
theorem k26 : (Rows.fnExactSharedCostsRow.pinned == Rows.fnExactSharedCostsRow.pinnedBy) = true := by kernel_rfl
theorem k27 : (Rows.fnExactSharedCostsRow.veiled == (Try.f11.params.toList ++ Rows.fnExactSharedCostsSpec.plain.varTypes Try.prog ++ Try.f11.resultTypes.toList).any (Try.prog.veiledRec ·)) = true := by kernel_rfl
theorem k28 : Rows.fnExactSharedCostsRow.veiledFits Try.prog Try.f11.params.toList (Try.f11.params.toList ++ Rows.fnExactSharedCostsSpec.plain.varTypes Try.prog ++ Try.f11.resultTypes.toList) = true := by kernel_rfl
theorem k22 : (Rows.fnExactSharedCostsRow.plainKeys == Try.prog.plainKeys) = true := by
  rw [show Rows.fnExactSharedCostsRow.plainKeys = Rows.fnExactDequeRunRow.plainKeys from rfl]
  exact Cl.f22
theorem k24b : (Rows.fnExactSharedCostsRow.lifted == Try.prog.liftsFinal) = true := by
  rw [show Rows.fnExactSharedCostsRow.lifted = Rows.fnExactDequeRunRow.lifted from rfl]
  exact Cl.f24b
theorem k24c : (Try.prog.make == some Rows.fnExactSharedCostsRow.make) = true := by
  rw [show Rows.fnExactSharedCostsRow.make = Rows.fnExactDequeRunRow.make from rfl]
  exact Cl.f24c
set_option maxRecDepth 100000 in
theorem closed : joinedFacts Try.prog 11 Try.f11 Rows.fnExactSharedCostsSpec Rows.fnExactSharedCostsRow = true := by
  unfold joinedFacts
  simp only [k1, Cl.f2, Cl.f3, k4, k5, k6, Cl.f7, k8, Cl.f9, k10, k11, k12, k13, k14, k15, k16, k17, k17b, k18, k19, k20, k21, k22, k23, Cl.f23b, Cl.f24, k24b, k24c, k26, k27, k28, Bool.and_self, Bool.true_and, Bool.and_true]
  kernel_rfl
theorem named : Try.prog.funcNamed Rows.fnExactSharedCostsRow.func = some 11 := by kernel_rfl


theorem over : Rows.fnExactSharedCostsRow.holds Try.pinned (OpenSpec.ofChange Rows.fnExactSharedCostsSpec) :=
  OpenClaim.holds_of_wide 11 Try.f11 rfl rfl rfl rfl rfl rfl rfl ⟨rfl, rfl, rfl, rfl, rfl⟩ rfl rfl rfl rfl rfl named Try.func11 closed
    (of_decide_eq_true (by kernel_rfl)) (by unfold Func.isWrapper; first | (rw [if_pos (by decide +kernel)]; kernel_rfl) | (rw [if_neg (by decide +kernel)]; exact ⟨rfl, rfl⟩))
    (fun os started H enc _ => lifted os started H enc)

/-- The statement, whole. -/
theorem proved : Rows.FnExactSharedCostsSaid := over
#print axioms proved
end Go.Proofs.Ytolgclajlklmaaa.fnExactSharedCosts
