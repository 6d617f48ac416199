/-
  No cell of these rows narrows 'for every input' (looked for: loops, veiled, ifaces, maps, wideKeys, modest, calm, conditions, laid).
  DERIVED. THE GIVEN ROWS OF THIS SEAT. 4 by the template 'for every input the law returns true; each argument reads behind the call as it read before'; 0 by the template 'total and deterministic' (their statements: YtehfijijapfomaaGreatTotals.lean).
  GIVEN WITH THE SEED: the statements are not yours to turn. If you find one false, say at which input.
  Laid BY PROGRAM, IN A SANDBOX (cutbox-rows.mjs): the forced cells as the released guide's own fill.sh prints them over the translation a62cb5ebccef4014… (all of the seat's roots in one cut). By AI agents, Wed Nov 11 2026. No macro, syntax, notation, axiom, sorry.
-/
import Derived.Test.YtehfijijapfomaaGreatChecked
import GoSem.Claim
import GoSem.ClaimJoined
import GoSem.ClaimMapViews
import Derived.JoinedTies
import Derived.KernelRfl
namespace Go.Proofs.YtehfijijapfomaaGreat
/- THE CELL 'sum', in the pinned program and in every row, IS THE sha256 OF THE DUMP (.gsa) THAT YtehfijijapfomaaGreatProg.lean LOADS. Nothing in Lean hashes anything: it is a label: what it is worth is what the hold of that sum in a sandbox is worth. -/
noncomputable def Tryz.pinned : Pinned := { name := "ytehfijijapfomaagreat", sum := "a62cb5ebccef401454bd928e66fd3cbcac59124a242b574e1ebc014ecfc398c0", checked := Tryz.checked }
namespace Rows
def none {H : Type} : Left H := { results := [], args := [] }

/-- 'laws.FnExactInverseStep': WHATEVER THE INPUT: true; the input reads as it did. -/
def fnExactInverseStepSpec : ChangeSpec := { name := "fnExactInverseStep", fn := fun _ => fun
  | [d1, d2, d3] => { results := [.lit (.bool true)], args := [d1, d2, d3] }
  | _ => none }
def fnExactInverseStepRow : OpenClaim := { program := "ytehfijijapfomaagreat", sum := "a62cb5ebccef401454bd928e66fd3cbcac59124a242b574e1ebc014ecfc398c0", func := "loop.example/windowaggregates/laws.FnExactInverseStep", spec := "fnExactInverseStep", unfollowed := true, recurses := true, apart := false }
def FnExactInverseStepSaid : Prop := fnExactInverseStepRow.holds Tryz.pinned (OpenSpec.ofChange fnExactInverseStepSpec)

/-- ITS FALSE NEIGHBOUR: 'it returns false'. Refute it at one input. -/
def fnExactInverseStepWrong : ChangeSpec := { name := "fnExactInverseStep", fn := fun _ => fun
  | [d1, d2, d3] => { results := [.lit (.bool false)], args := [d1, d2, d3] }
  | _ => none }
def FnExactInverseStepWrongFalsely : Prop := fnExactInverseStepRow.holds Tryz.pinned (OpenSpec.ofChange fnExactInverseStepWrong)

/-- 'laws.FnExactInverseRun': WHATEVER THE INPUT: true; the input reads as it did. -/
def fnExactInverseRunSpec : ChangeSpec := { name := "fnExactInverseRun", fn := fun _ => fun
  | [d1, d2] => { results := [.lit (.bool true)], args := [d1, d2] }
  | _ => none }
def fnExactInverseRunRow : OpenClaim := { program := "ytehfijijapfomaagreat", sum := "a62cb5ebccef401454bd928e66fd3cbcac59124a242b574e1ebc014ecfc398c0", func := "loop.example/windowaggregates/laws.FnExactInverseRun", spec := "fnExactInverseRun", unfollowed := true, recurses := true, apart := false }
def FnExactInverseRunSaid : Prop := fnExactInverseRunRow.holds Tryz.pinned (OpenSpec.ofChange fnExactInverseRunSpec)

/-- ITS FALSE NEIGHBOUR: 'it returns false'. Refute it at one input. -/
def fnExactInverseRunWrong : ChangeSpec := { name := "fnExactInverseRun", fn := fun _ => fun
  | [d1, d2] => { results := [.lit (.bool false)], args := [d1, d2] }
  | _ => none }
def FnExactInverseRunWrongFalsely : Prop := fnExactInverseRunRow.holds Tryz.pinned (OpenSpec.ofChange fnExactInverseRunWrong)

/-- 'laws.FnExactStacksStep': WHATEVER THE INPUT: true; the input reads as it did. -/
def fnExactStacksStepSpec : ChangeSpec := { name := "fnExactStacksStep", fn := fun _ => fun
  | [d1, d2, d3] => { results := [.lit (.bool true)], args := [d1, d2, d3] }
  | _ => none }
def fnExactStacksStepRow : OpenClaim := { program := "ytehfijijapfomaagreat", sum := "a62cb5ebccef401454bd928e66fd3cbcac59124a242b574e1ebc014ecfc398c0", func := "loop.example/windowaggregates/laws.FnExactStacksStep", spec := "fnExactStacksStep", unfollowed := true, recurses := true, apart := false }
def FnExactStacksStepSaid : Prop := fnExactStacksStepRow.holds Tryz.pinned (OpenSpec.ofChange fnExactStacksStepSpec)

/-- ITS FALSE NEIGHBOUR: 'it returns false'. Refute it at one input. -/
def fnExactStacksStepWrong : ChangeSpec := { name := "fnExactStacksStep", fn := fun _ => fun
  | [d1, d2, d3] => { results := [.lit (.bool false)], args := [d1, d2, d3] }
  | _ => none }
def FnExactStacksStepWrongFalsely : Prop := fnExactStacksStepRow.holds Tryz.pinned (OpenSpec.ofChange fnExactStacksStepWrong)

/-- 'laws.FnExactStacksRun': WHATEVER THE INPUT: true; the input reads as it did. -/
def fnExactStacksRunSpec : ChangeSpec := { name := "fnExactStacksRun", fn := fun _ => fun
  | [d1, d2] => { results := [.lit (.bool true)], args := [d1, d2] }
  | _ => none }
def fnExactStacksRunRow : OpenClaim := { program := "ytehfijijapfomaagreat", sum := "a62cb5ebccef401454bd928e66fd3cbcac59124a242b574e1ebc014ecfc398c0", func := "loop.example/windowaggregates/laws.FnExactStacksRun", spec := "fnExactStacksRun", unfollowed := true, recurses := true, apart := false }
def FnExactStacksRunSaid : Prop := fnExactStacksRunRow.holds Tryz.pinned (OpenSpec.ofChange fnExactStacksRunSpec)

/-- ITS FALSE NEIGHBOUR: 'it returns false'. Refute it at one input. -/
def fnExactStacksRunWrong : ChangeSpec := { name := "fnExactStacksRun", fn := fun _ => fun
  | [d1, d2] => { results := [.lit (.bool false)], args := [d1, d2] }
  | _ => none }
def FnExactStacksRunWrongFalsely : Prop := fnExactStacksRunRow.holds Tryz.pinned (OpenSpec.ofChange fnExactStacksRunWrong)

/- THE SECOND FORM. 'bulk': how many values and letters a reading holds, each counted each time it is reached (what is shared counts as often as it is met; a slice's spare places count too). A statement '..UptoSaid' is the law's where the arguments, and the package variables that the reading takes, are together of bulk at most 1048576: NARROWER than '..Said'. Prove '..Said' where nothing that the law and all that it calls make is longer than what came in: it says more and counts as full. Else prove '..UptoSaid'. A law counts once. -/
mutual
def uptoBulk {H : Type} : DataW H → Nat
  | .lit (.string bytes) => bytes.length + 1
  | .lit _ => 1
  | .nil => 1
  | .ptr d => uptoBulk d + 1
  | .slice elems spare => uptoBulkAll elems + uptoBulkAll spare + 1
  | .agg parts => uptoBulkAll parts + 1
  | .iface _ d => uptoBulk d + 1
  | .map entries => uptoBulkEntries entries + 1
  | .held _ => 1
def uptoBulkAll {H : Type} : List (DataW H) → Nat
  | [] => 0
  | d :: r => uptoBulk d + uptoBulkAll r
def uptoBulkEntries {H : Type} : List (Lit × DataW H) → Nat
  | [] => 0
  | x :: r => uptoBulkEntry x + uptoBulkEntries r
def uptoBulkEntry {H : Type} : Lit × DataW H → Nat
  | (.string bytes, d) => bytes.length + uptoBulk d + 1
  | (_, d) => uptoBulk d + 1
 end
def uptoSmall : (H : Type) → List (DataW H) → Bool := fun _ ds => decide (uptoBulkAll ds ≤ 1048576)
def OpenSpec.upto (s : _root_.Go.ChangeSpec) : _root_.Go.OpenSpec := { _root_.Go.OpenSpec.ofChange s with cond := some uptoSmall }

/-- 'laws.FnExactInverseStep', WHERE WHAT IT READS IS OF BULK AT MOST 1048576: true; the input reads as it did. -/
def fnExactInverseStepUptoRow : OpenClaim := { program := "ytehfijijapfomaagreat", sum := "a62cb5ebccef401454bd928e66fd3cbcac59124a242b574e1ebc014ecfc398c0", func := "loop.example/windowaggregates/laws.FnExactInverseStep", spec := "fnExactInverseStep", unfollowed := true, recurses := true, apart := false, narrowed := true }
def FnExactInverseStepUptoSaid : Prop := fnExactInverseStepUptoRow.holds Tryz.pinned (OpenSpec.upto fnExactInverseStepSpec)

/-- 'laws.FnExactInverseRun', WHERE WHAT IT READS IS OF BULK AT MOST 1048576: true; the input reads as it did. -/
def fnExactInverseRunUptoRow : OpenClaim := { program := "ytehfijijapfomaagreat", sum := "a62cb5ebccef401454bd928e66fd3cbcac59124a242b574e1ebc014ecfc398c0", func := "loop.example/windowaggregates/laws.FnExactInverseRun", spec := "fnExactInverseRun", unfollowed := true, recurses := true, apart := false, narrowed := true }
def FnExactInverseRunUptoSaid : Prop := fnExactInverseRunUptoRow.holds Tryz.pinned (OpenSpec.upto fnExactInverseRunSpec)

/-- 'laws.FnExactStacksStep', WHERE WHAT IT READS IS OF BULK AT MOST 1048576: true; the input reads as it did. -/
def fnExactStacksStepUptoRow : OpenClaim := { program := "ytehfijijapfomaagreat", sum := "a62cb5ebccef401454bd928e66fd3cbcac59124a242b574e1ebc014ecfc398c0", func := "loop.example/windowaggregates/laws.FnExactStacksStep", spec := "fnExactStacksStep", unfollowed := true, recurses := true, apart := false, narrowed := true }
def FnExactStacksStepUptoSaid : Prop := fnExactStacksStepUptoRow.holds Tryz.pinned (OpenSpec.upto fnExactStacksStepSpec)

/-- 'laws.FnExactStacksRun', WHERE WHAT IT READS IS OF BULK AT MOST 1048576: true; the input reads as it did. -/
def fnExactStacksRunUptoRow : OpenClaim := { program := "ytehfijijapfomaagreat", sum := "a62cb5ebccef401454bd928e66fd3cbcac59124a242b574e1ebc014ecfc398c0", func := "loop.example/windowaggregates/laws.FnExactStacksRun", spec := "fnExactStacksRun", unfollowed := true, recurses := true, apart := false, narrowed := true }
def FnExactStacksRunUptoSaid : Prop := fnExactStacksRunUptoRow.holds Tryz.pinned (OpenSpec.upto fnExactStacksRunSpec)

end Rows
end Go.Proofs.YtehfijijapfomaaGreat
