/-
  No cell of these rows narrows 'for every input' (looked for: loops, veiled, ifaces, maps, wideKeys, modest, calm, conditions, laid).
  DERIVED. THE GIVEN ROWS OF THIS SEAT. 7 by the template 'for every input the law returns true; each argument reads behind the call as it read before'; 0 by the template 'total and deterministic' (their statements: YtflmkojpblpofaaGreatTotals.lean).
  GIVEN WITH THE SEED: the statements are not yours to turn. If you find one false, say at which input.
  Laid BY PROGRAM, IN A SANDBOX (cutbox-rows.mjs): the forced cells as the released guide's own fill.sh prints them over the translation 7d894b5ddd095fa1… (all of the seat's roots in one cut). By AI agents, Wed Nov 11 2026. No macro, syntax, notation, axiom, sorry.
-/
import Derived.Test.YtflmkojpblpofaaGreatChecked
import GoSem.Claim
import GoSem.ClaimJoined
import GoSem.ClaimMapViews
import Derived.JoinedTies
import Derived.KernelRfl
namespace Go.Proofs.YtflmkojpblpofaaGreat
/- THE CELL 'sum', in the pinned program and in every row, IS THE sha256 OF THE DUMP (.gsa) THAT YtflmkojpblpofaaGreatProg.lean LOADS. Nothing in Lean hashes anything: it is a label: what it is worth is what the hold of that sum in a sandbox is worth. -/
noncomputable def Tryz.pinned : Pinned := { name := "ytflmkojpblpofaagreat", sum := "7d894b5ddd095fa12d24bf6fd3fdd355334df7e52a5249a7c1861965c4285a58", checked := Tryz.checked }
namespace Rows
def none {H : Type} : Left H := { results := [], args := [] }

/-- 'laws.FnExactStacksStep': WHATEVER THE INPUT: true; the input reads as it did. -/
def fnExactStacksStepSpec : ChangeSpec := { name := "fnExactStacksStep", fn := fun _ => fun
  | [d1, d2, d3] => { results := [.lit (.bool true)], args := [d1, d2, d3] }
  | _ => none }
def fnExactStacksStepRow : OpenClaim := { program := "ytflmkojpblpofaagreat", sum := "7d894b5ddd095fa12d24bf6fd3fdd355334df7e52a5249a7c1861965c4285a58", func := "loop.example/windowaggregates/laws.FnExactStacksStep", spec := "fnExactStacksStep", unfollowed := true, recurses := true, apart := false }
def FnExactStacksStepSaid : Prop := fnExactStacksStepRow.holds Tryz.pinned (OpenSpec.ofChange fnExactStacksStepSpec)

/-- ITS FALSE NEIGHBOUR: 'it returns false'. Refute it at one input. -/
def fnExactStacksStepWrong : ChangeSpec := { name := "fnExactStacksStep", fn := fun _ => fun
  | [d1, d2, d3] => { results := [.lit (.bool false)], args := [d1, d2, d3] }
  | _ => none }
def FnExactStacksStepWrongFalsely : Prop := fnExactStacksStepRow.holds Tryz.pinned (OpenSpec.ofChange fnExactStacksStepWrong)

/-- 'laws.FnExactStacksRun': WHATEVER THE INPUT: true; the input reads as it did. -/
def fnExactStacksRunSpec : ChangeSpec := { name := "fnExactStacksRun", fn := fun _ => fun
  | [d1, d2] => { results := [.lit (.bool true)], args := [d1, d2] }
  | _ => none }
def fnExactStacksRunRow : OpenClaim := { program := "ytflmkojpblpofaagreat", sum := "7d894b5ddd095fa12d24bf6fd3fdd355334df7e52a5249a7c1861965c4285a58", func := "loop.example/windowaggregates/laws.FnExactStacksRun", spec := "fnExactStacksRun", unfollowed := true, recurses := true, apart := false }
def FnExactStacksRunSaid : Prop := fnExactStacksRunRow.holds Tryz.pinned (OpenSpec.ofChange fnExactStacksRunSpec)

/-- ITS FALSE NEIGHBOUR: 'it returns false'. Refute it at one input. -/
def fnExactStacksRunWrong : ChangeSpec := { name := "fnExactStacksRun", fn := fun _ => fun
  | [d1, d2] => { results := [.lit (.bool false)], args := [d1, d2] }
  | _ => none }
def FnExactStacksRunWrongFalsely : Prop := fnExactStacksRunRow.holds Tryz.pinned (OpenSpec.ofChange fnExactStacksRunWrong)

/-- 'laws.FnExactQueueStep': WHATEVER THE INPUT: true; the input reads as it did. -/
def fnExactQueueStepSpec : ChangeSpec := { name := "fnExactQueueStep", fn := fun _ => fun
  | [d1, d2, d3] => { results := [.lit (.bool true)], args := [d1, d2, d3] }
  | _ => none }
def fnExactQueueStepRow : OpenClaim := { program := "ytflmkojpblpofaagreat", sum := "7d894b5ddd095fa12d24bf6fd3fdd355334df7e52a5249a7c1861965c4285a58", func := "loop.example/windowaggregates/laws.FnExactQueueStep", spec := "fnExactQueueStep", unfollowed := true, recurses := true, apart := false }
def FnExactQueueStepSaid : Prop := fnExactQueueStepRow.holds Tryz.pinned (OpenSpec.ofChange fnExactQueueStepSpec)

/-- ITS FALSE NEIGHBOUR: 'it returns false'. Refute it at one input. -/
def fnExactQueueStepWrong : ChangeSpec := { name := "fnExactQueueStep", fn := fun _ => fun
  | [d1, d2, d3] => { results := [.lit (.bool false)], args := [d1, d2, d3] }
  | _ => none }
def FnExactQueueStepWrongFalsely : Prop := fnExactQueueStepRow.holds Tryz.pinned (OpenSpec.ofChange fnExactQueueStepWrong)

/-- 'laws.FnExactQueueValue': WHATEVER THE INPUT: true; the input reads as it did. -/
def fnExactQueueValueSpec : ChangeSpec := { name := "fnExactQueueValue", fn := fun _ => fun
  | [d1, d2] => { results := [.lit (.bool true)], args := [d1, d2] }
  | _ => none }
def fnExactQueueValueRow : OpenClaim := { program := "ytflmkojpblpofaagreat", sum := "7d894b5ddd095fa12d24bf6fd3fdd355334df7e52a5249a7c1861965c4285a58", func := "loop.example/windowaggregates/laws.FnExactQueueValue", spec := "fnExactQueueValue", unfollowed := true, recurses := true, apart := false }
def FnExactQueueValueSaid : Prop := fnExactQueueValueRow.holds Tryz.pinned (OpenSpec.ofChange fnExactQueueValueSpec)

/-- ITS FALSE NEIGHBOUR: 'it returns false'. Refute it at one input. -/
def fnExactQueueValueWrong : ChangeSpec := { name := "fnExactQueueValue", fn := fun _ => fun
  | [d1, d2] => { results := [.lit (.bool false)], args := [d1, d2] }
  | _ => none }
def FnExactQueueValueWrongFalsely : Prop := fnExactQueueValueRow.holds Tryz.pinned (OpenSpec.ofChange fnExactQueueValueWrong)

/-- 'laws.FnExactQueueRun': WHATEVER THE INPUT: true; the input reads as it did. -/
def fnExactQueueRunSpec : ChangeSpec := { name := "fnExactQueueRun", fn := fun _ => fun
  | [d1, d2] => { results := [.lit (.bool true)], args := [d1, d2] }
  | _ => none }
def fnExactQueueRunRow : OpenClaim := { program := "ytflmkojpblpofaagreat", sum := "7d894b5ddd095fa12d24bf6fd3fdd355334df7e52a5249a7c1861965c4285a58", func := "loop.example/windowaggregates/laws.FnExactQueueRun", spec := "fnExactQueueRun", unfollowed := true, recurses := true, apart := false }
def FnExactQueueRunSaid : Prop := fnExactQueueRunRow.holds Tryz.pinned (OpenSpec.ofChange fnExactQueueRunSpec)

/-- ITS FALSE NEIGHBOUR: 'it returns false'. Refute it at one input. -/
def fnExactQueueRunWrong : ChangeSpec := { name := "fnExactQueueRun", fn := fun _ => fun
  | [d1, d2] => { results := [.lit (.bool false)], args := [d1, d2] }
  | _ => none }
def FnExactQueueRunWrongFalsely : Prop := fnExactQueueRunRow.holds Tryz.pinned (OpenSpec.ofChange fnExactQueueRunWrong)

/-- 'laws.FnExactQueueCosts': WHATEVER THE INPUT: true; the input reads as it did. -/
def fnExactQueueCostsSpec : ChangeSpec := { name := "fnExactQueueCosts", fn := fun _ => fun
  | [d1, d2] => { results := [.lit (.bool true)], args := [d1, d2] }
  | _ => none }
def fnExactQueueCostsRow : OpenClaim := { program := "ytflmkojpblpofaagreat", sum := "7d894b5ddd095fa12d24bf6fd3fdd355334df7e52a5249a7c1861965c4285a58", func := "loop.example/windowaggregates/laws.FnExactQueueCosts", spec := "fnExactQueueCosts", unfollowed := true, recurses := true, apart := false }
def FnExactQueueCostsSaid : Prop := fnExactQueueCostsRow.holds Tryz.pinned (OpenSpec.ofChange fnExactQueueCostsSpec)

/-- ITS FALSE NEIGHBOUR: 'it returns false'. Refute it at one input. -/
def fnExactQueueCostsWrong : ChangeSpec := { name := "fnExactQueueCosts", fn := fun _ => fun
  | [d1, d2] => { results := [.lit (.bool false)], args := [d1, d2] }
  | _ => none }
def FnExactQueueCostsWrongFalsely : Prop := fnExactQueueCostsRow.holds Tryz.pinned (OpenSpec.ofChange fnExactQueueCostsWrong)

/-- 'laws.FnExactStacksCosts': WHATEVER THE INPUT: true; the input reads as it did. -/
def fnExactStacksCostsSpec : ChangeSpec := { name := "fnExactStacksCosts", fn := fun _ => fun
  | [d1, d2] => { results := [.lit (.bool true)], args := [d1, d2] }
  | _ => none }
def fnExactStacksCostsRow : OpenClaim := { program := "ytflmkojpblpofaagreat", sum := "7d894b5ddd095fa12d24bf6fd3fdd355334df7e52a5249a7c1861965c4285a58", func := "loop.example/windowaggregates/laws.FnExactStacksCosts", spec := "fnExactStacksCosts", unfollowed := true, recurses := true, apart := false }
def FnExactStacksCostsSaid : Prop := fnExactStacksCostsRow.holds Tryz.pinned (OpenSpec.ofChange fnExactStacksCostsSpec)

/-- ITS FALSE NEIGHBOUR: 'it returns false'. Refute it at one input. -/
def fnExactStacksCostsWrong : ChangeSpec := { name := "fnExactStacksCosts", fn := fun _ => fun
  | [d1, d2] => { results := [.lit (.bool false)], args := [d1, d2] }
  | _ => none }
def FnExactStacksCostsWrongFalsely : Prop := fnExactStacksCostsRow.holds Tryz.pinned (OpenSpec.ofChange fnExactStacksCostsWrong)

/- THE SECOND FORM. 'bulk': how many values and letters a reading holds, each counted each time it is reached (what is shared counts as often as it is met; a slice's spare places count too). A statement '..UptoSaid' is the law's where the arguments, and the package variables that the reading takes, are together of bulk at most 1048576: NARROWER than '..Said'. Prove '..Said' where nothing that the law and all that it calls make is longer than what came in: it says more and counts as full. Else prove '..UptoSaid'. A law counts once. -/
mutual
def uptoBulk {H : Type} : DataW H → Nat
  | .lit (.string bytes) => bytes.length + 1
  | .lit _ => 1
  | .nil => 1
  | .ptr d => uptoBulk d + 1
  | .slice elems spare => uptoBulkAll elems + uptoBulkAll spare + 1
  | .agg parts => uptoBulkAll parts + 1
  | .iface _ d => uptoBulk d + 1
  | .map entries => uptoBulkEntries entries + 1
  | .held _ => 1
def uptoBulkAll {H : Type} : List (DataW H) → Nat
  | [] => 0
  | d :: r => uptoBulk d + uptoBulkAll r
def uptoBulkEntries {H : Type} : List (Lit × DataW H) → Nat
  | [] => 0
  | x :: r => uptoBulkEntry x + uptoBulkEntries r
def uptoBulkEntry {H : Type} : Lit × DataW H → Nat
  | (.string bytes, d) => bytes.length + uptoBulk d + 1
  | (_, d) => uptoBulk d + 1
 end
def uptoSmall : (H : Type) → List (DataW H) → Bool := fun _ ds => decide (uptoBulkAll ds ≤ 1048576)
def OpenSpec.upto (s : _root_.Go.ChangeSpec) : _root_.Go.OpenSpec := { _root_.Go.OpenSpec.ofChange s with cond := some uptoSmall }

/-- 'laws.FnExactStacksStep', WHERE WHAT IT READS IS OF BULK AT MOST 1048576: true; the input reads as it did. -/
def fnExactStacksStepUptoRow : OpenClaim := { program := "ytflmkojpblpofaagreat", sum := "7d894b5ddd095fa12d24bf6fd3fdd355334df7e52a5249a7c1861965c4285a58", func := "loop.example/windowaggregates/laws.FnExactStacksStep", spec := "fnExactStacksStep", unfollowed := true, recurses := true, apart := false, narrowed := true }
def FnExactStacksStepUptoSaid : Prop := fnExactStacksStepUptoRow.holds Tryz.pinned (OpenSpec.upto fnExactStacksStepSpec)

/-- 'laws.FnExactStacksRun', WHERE WHAT IT READS IS OF BULK AT MOST 1048576: true; the input reads as it did. -/
def fnExactStacksRunUptoRow : OpenClaim := { program := "ytflmkojpblpofaagreat", sum := "7d894b5ddd095fa12d24bf6fd3fdd355334df7e52a5249a7c1861965c4285a58", func := "loop.example/windowaggregates/laws.FnExactStacksRun", spec := "fnExactStacksRun", unfollowed := true, recurses := true, apart := false, narrowed := true }
def FnExactStacksRunUptoSaid : Prop := fnExactStacksRunUptoRow.holds Tryz.pinned (OpenSpec.upto fnExactStacksRunSpec)

/-- 'laws.FnExactQueueStep', WHERE WHAT IT READS IS OF BULK AT MOST 1048576: true; the input reads as it did. -/
def fnExactQueueStepUptoRow : OpenClaim := { program := "ytflmkojpblpofaagreat", sum := "7d894b5ddd095fa12d24bf6fd3fdd355334df7e52a5249a7c1861965c4285a58", func := "loop.example/windowaggregates/laws.FnExactQueueStep", spec := "fnExactQueueStep", unfollowed := true, recurses := true, apart := false, narrowed := true }
def FnExactQueueStepUptoSaid : Prop := fnExactQueueStepUptoRow.holds Tryz.pinned (OpenSpec.upto fnExactQueueStepSpec)

/-- 'laws.FnExactQueueValue', WHERE WHAT IT READS IS OF BULK AT MOST 1048576: true; the input reads as it did. -/
def fnExactQueueValueUptoRow : OpenClaim := { program := "ytflmkojpblpofaagreat", sum := "7d894b5ddd095fa12d24bf6fd3fdd355334df7e52a5249a7c1861965c4285a58", func := "loop.example/windowaggregates/laws.FnExactQueueValue", spec := "fnExactQueueValue", unfollowed := true, recurses := true, apart := false, narrowed := true }
def FnExactQueueValueUptoSaid : Prop := fnExactQueueValueUptoRow.holds Tryz.pinned (OpenSpec.upto fnExactQueueValueSpec)

/-- 'laws.FnExactQueueRun', WHERE WHAT IT READS IS OF BULK AT MOST 1048576: true; the input reads as it did. -/
def fnExactQueueRunUptoRow : OpenClaim := { program := "ytflmkojpblpofaagreat", sum := "7d894b5ddd095fa12d24bf6fd3fdd355334df7e52a5249a7c1861965c4285a58", func := "loop.example/windowaggregates/laws.FnExactQueueRun", spec := "fnExactQueueRun", unfollowed := true, recurses := true, apart := false, narrowed := true }
def FnExactQueueRunUptoSaid : Prop := fnExactQueueRunUptoRow.holds Tryz.pinned (OpenSpec.upto fnExactQueueRunSpec)

/-- 'laws.FnExactQueueCosts', WHERE WHAT IT READS IS OF BULK AT MOST 1048576: true; the input reads as it did. -/
def fnExactQueueCostsUptoRow : OpenClaim := { program := "ytflmkojpblpofaagreat", sum := "7d894b5ddd095fa12d24bf6fd3fdd355334df7e52a5249a7c1861965c4285a58", func := "loop.example/windowaggregates/laws.FnExactQueueCosts", spec := "fnExactQueueCosts", unfollowed := true, recurses := true, apart := false, narrowed := true }
def FnExactQueueCostsUptoSaid : Prop := fnExactQueueCostsUptoRow.holds Tryz.pinned (OpenSpec.upto fnExactQueueCostsSpec)

/-- 'laws.FnExactStacksCosts', WHERE WHAT IT READS IS OF BULK AT MOST 1048576: true; the input reads as it did. -/
def fnExactStacksCostsUptoRow : OpenClaim := { program := "ytflmkojpblpofaagreat", sum := "7d894b5ddd095fa12d24bf6fd3fdd355334df7e52a5249a7c1861965c4285a58", func := "loop.example/windowaggregates/laws.FnExactStacksCosts", spec := "fnExactStacksCosts", unfollowed := true, recurses := true, apart := false, narrowed := true }
def FnExactStacksCostsUptoSaid : Prop := fnExactStacksCostsUptoRow.holds Tryz.pinned (OpenSpec.upto fnExactStacksCostsSpec)

end Rows
end Go.Proofs.YtflmkojpblpofaaGreat
