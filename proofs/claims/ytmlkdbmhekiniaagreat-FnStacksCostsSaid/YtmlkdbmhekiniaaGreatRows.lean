/-
  No cell of these rows narrows 'for every input' (looked for: loops, veiled, ifaces, maps, wideKeys, modest, calm, conditions, laid).
  DERIVED. THE GIVEN ROWS OF THIS SEAT. 10 by the template 'for every input the law returns true; each argument reads behind the call as it read before'; 0 by the template 'total and deterministic' (their statements: YtmlkdbmhekiniaaGreatTotals.lean).
  GIVEN WITH THE SEED: the statements are not yours to turn. If you find one false, say at which input.
  Laid BY PROGRAM, IN A SANDBOX (cutbox-rows.mjs): the forced cells as the released guide's own fill.sh prints them over the translation 46c42a4aec74de00… (all of the seat's roots in one cut). By AI agents, Wed Nov 11 2026. No macro, syntax, notation, axiom, sorry.
-/
import Derived.Test.YtmlkdbmhekiniaaGreatChecked
import GoSem.Claim
import GoSem.ClaimJoined
import GoSem.ClaimMapViews
import Derived.JoinedTies
import Derived.KernelRfl
namespace Go.Proofs.YtmlkdbmhekiniaaGreat
/- THE CELL 'sum', in the pinned program and in every row, IS THE sha256 OF THE DUMP (.gsa) THAT YtmlkdbmhekiniaaGreatProg.lean LOADS. Nothing in Lean hashes anything: it is a label: what it is worth is what the hold of that sum in a sandbox is worth. -/
noncomputable def Tryz.pinned : Pinned := { name := "ytmlkdbmhekiniaagreat", sum := "46c42a4aec74de00ad57db69324a56d702faeee40188a3a7c9257d4d8c01d9fd", checked := Tryz.checked }
namespace Rows
def none {H : Type} : Left H := { results := [], args := [] }

/-- 'laws.FnInverseStep': WHATEVER THE INPUT: true; the input reads as it did. -/
def fnInverseStepSpec : ChangeSpec := { name := "fnInverseStep", fn := fun _ => fun
  | [d] => { results := [.lit (.bool true)], args := [d] }
  | _ => none }
def fnInverseStepRow : OpenClaim := { program := "ytmlkdbmhekiniaagreat", sum := "46c42a4aec74de00ad57db69324a56d702faeee40188a3a7c9257d4d8c01d9fd", func := "loop.example/windowaggregates/laws.FnInverseStep", spec := "fnInverseStep", unfollowed := true, recurses := true, apart := false }
def FnInverseStepSaid : Prop := fnInverseStepRow.holds Tryz.pinned (OpenSpec.ofChange fnInverseStepSpec)

/-- ITS FALSE NEIGHBOUR: 'it returns false'. Refute it at one input. -/
def fnInverseStepWrong : ChangeSpec := { name := "fnInverseStep", fn := fun _ => fun
  | [d] => { results := [.lit (.bool false)], args := [d] }
  | _ => none }
def FnInverseStepWrongFalsely : Prop := fnInverseStepRow.holds Tryz.pinned (OpenSpec.ofChange fnInverseStepWrong)

/-- 'laws.FnInverseTurn': WHATEVER THE INPUT: true; the input reads as it did. -/
def fnInverseTurnSpec : ChangeSpec := { name := "fnInverseTurn", fn := fun _ => fun
  | [d] => { results := [.lit (.bool true)], args := [d] }
  | _ => none }
def fnInverseTurnRow : OpenClaim := { program := "ytmlkdbmhekiniaagreat", sum := "46c42a4aec74de00ad57db69324a56d702faeee40188a3a7c9257d4d8c01d9fd", func := "loop.example/windowaggregates/laws.FnInverseTurn", spec := "fnInverseTurn", unfollowed := true, recurses := true, apart := false }
def FnInverseTurnSaid : Prop := fnInverseTurnRow.holds Tryz.pinned (OpenSpec.ofChange fnInverseTurnSpec)

/-- ITS FALSE NEIGHBOUR: 'it returns false'. Refute it at one input. -/
def fnInverseTurnWrong : ChangeSpec := { name := "fnInverseTurn", fn := fun _ => fun
  | [d] => { results := [.lit (.bool false)], args := [d] }
  | _ => none }
def FnInverseTurnWrongFalsely : Prop := fnInverseTurnRow.holds Tryz.pinned (OpenSpec.ofChange fnInverseTurnWrong)

/-- 'laws.FnStacksCosts': WHATEVER THE INPUT: true; the input reads as it did. -/
def fnStacksCostsSpec : ChangeSpec := { name := "fnStacksCosts", fn := fun _ => fun
  | [d] => { results := [.lit (.bool true)], args := [d] }
  | _ => none }
def fnStacksCostsRow : OpenClaim := { program := "ytmlkdbmhekiniaagreat", sum := "46c42a4aec74de00ad57db69324a56d702faeee40188a3a7c9257d4d8c01d9fd", func := "loop.example/windowaggregates/laws.FnStacksCosts", spec := "fnStacksCosts", unfollowed := true, recurses := true, apart := false }
def FnStacksCostsSaid : Prop := fnStacksCostsRow.holds Tryz.pinned (OpenSpec.ofChange fnStacksCostsSpec)

/-- ITS FALSE NEIGHBOUR: 'it returns false'. Refute it at one input. -/
def fnStacksCostsWrong : ChangeSpec := { name := "fnStacksCosts", fn := fun _ => fun
  | [d] => { results := [.lit (.bool false)], args := [d] }
  | _ => none }
def FnStacksCostsWrongFalsely : Prop := fnStacksCostsRow.holds Tryz.pinned (OpenSpec.ofChange fnStacksCostsWrong)

/-- 'laws.FnExactStacksCosts': WHATEVER THE INPUT: true; the input reads as it did. -/
def fnExactStacksCostsSpec : ChangeSpec := { name := "fnExactStacksCosts", fn := fun _ => fun
  | [d1, d2] => { results := [.lit (.bool true)], args := [d1, d2] }
  | _ => none }
def fnExactStacksCostsRow : OpenClaim := { program := "ytmlkdbmhekiniaagreat", sum := "46c42a4aec74de00ad57db69324a56d702faeee40188a3a7c9257d4d8c01d9fd", func := "loop.example/windowaggregates/laws.FnExactStacksCosts", spec := "fnExactStacksCosts", unfollowed := true, recurses := true, apart := false }
def FnExactStacksCostsSaid : Prop := fnExactStacksCostsRow.holds Tryz.pinned (OpenSpec.ofChange fnExactStacksCostsSpec)

/-- ITS FALSE NEIGHBOUR: 'it returns false'. Refute it at one input. -/
def fnExactStacksCostsWrong : ChangeSpec := { name := "fnExactStacksCosts", fn := fun _ => fun
  | [d1, d2] => { results := [.lit (.bool false)], args := [d1, d2] }
  | _ => none }
def FnExactStacksCostsWrongFalsely : Prop := fnExactStacksCostsRow.holds Tryz.pinned (OpenSpec.ofChange fnExactStacksCostsWrong)

/-- 'laws.FnRemoveItems': WHATEVER THE INPUT: true; the input reads as it did. -/
def fnRemoveItemsSpec : ChangeSpec := { name := "fnRemoveItems", fn := fun _ => fun
  | [d1, d2] => { results := [.lit (.bool true)], args := [d1, d2] }
  | _ => none }
def fnRemoveItemsRow : OpenClaim := { program := "ytmlkdbmhekiniaagreat", sum := "46c42a4aec74de00ad57db69324a56d702faeee40188a3a7c9257d4d8c01d9fd", func := "loop.example/windowaggregates/laws.FnRemoveItems", spec := "fnRemoveItems", unfollowed := true, recurses := true, apart := false }
def FnRemoveItemsSaid : Prop := fnRemoveItemsRow.holds Tryz.pinned (OpenSpec.ofChange fnRemoveItemsSpec)

/-- ITS FALSE NEIGHBOUR: 'it returns false'. Refute it at one input. -/
def fnRemoveItemsWrong : ChangeSpec := { name := "fnRemoveItems", fn := fun _ => fun
  | [d1, d2] => { results := [.lit (.bool false)], args := [d1, d2] }
  | _ => none }
def FnRemoveItemsWrongFalsely : Prop := fnRemoveItemsRow.holds Tryz.pinned (OpenSpec.ofChange fnRemoveItemsWrong)

/-- 'laws.FnStacksRun': WHATEVER THE INPUT: true; the input reads as it did. -/
def fnStacksRunSpec : ChangeSpec := { name := "fnStacksRun", fn := fun _ => fun
  | [d] => { results := [.lit (.bool true)], args := [d] }
  | _ => none }
def fnStacksRunRow : OpenClaim := { program := "ytmlkdbmhekiniaagreat", sum := "46c42a4aec74de00ad57db69324a56d702faeee40188a3a7c9257d4d8c01d9fd", func := "loop.example/windowaggregates/laws.FnStacksRun", spec := "fnStacksRun", unfollowed := true, recurses := true, apart := false }
def FnStacksRunSaid : Prop := fnStacksRunRow.holds Tryz.pinned (OpenSpec.ofChange fnStacksRunSpec)

/-- ITS FALSE NEIGHBOUR: 'it returns false'. Refute it at one input. -/
def fnStacksRunWrong : ChangeSpec := { name := "fnStacksRun", fn := fun _ => fun
  | [d] => { results := [.lit (.bool false)], args := [d] }
  | _ => none }
def FnStacksRunWrongFalsely : Prop := fnStacksRunRow.holds Tryz.pinned (OpenSpec.ofChange fnStacksRunWrong)

/-- 'laws.FnInverseRun': WHATEVER THE INPUT: true; the input reads as it did. -/
def fnInverseRunSpec : ChangeSpec := { name := "fnInverseRun", fn := fun _ => fun
  | [d] => { results := [.lit (.bool true)], args := [d] }
  | _ => none }
def fnInverseRunRow : OpenClaim := { program := "ytmlkdbmhekiniaagreat", sum := "46c42a4aec74de00ad57db69324a56d702faeee40188a3a7c9257d4d8c01d9fd", func := "loop.example/windowaggregates/laws.FnInverseRun", spec := "fnInverseRun", unfollowed := true, recurses := true, apart := false }
def FnInverseRunSaid : Prop := fnInverseRunRow.holds Tryz.pinned (OpenSpec.ofChange fnInverseRunSpec)

/-- ITS FALSE NEIGHBOUR: 'it returns false'. Refute it at one input. -/
def fnInverseRunWrong : ChangeSpec := { name := "fnInverseRun", fn := fun _ => fun
  | [d] => { results := [.lit (.bool false)], args := [d] }
  | _ => none }
def FnInverseRunWrongFalsely : Prop := fnInverseRunRow.holds Tryz.pinned (OpenSpec.ofChange fnInverseRunWrong)

/-- 'laws.FnExactStacksRun': WHATEVER THE INPUT: true; the input reads as it did. -/
def fnExactStacksRunSpec : ChangeSpec := { name := "fnExactStacksRun", fn := fun _ => fun
  | [d1, d2] => { results := [.lit (.bool true)], args := [d1, d2] }
  | _ => none }
def fnExactStacksRunRow : OpenClaim := { program := "ytmlkdbmhekiniaagreat", sum := "46c42a4aec74de00ad57db69324a56d702faeee40188a3a7c9257d4d8c01d9fd", func := "loop.example/windowaggregates/laws.FnExactStacksRun", spec := "fnExactStacksRun", unfollowed := true, recurses := true, apart := false }
def FnExactStacksRunSaid : Prop := fnExactStacksRunRow.holds Tryz.pinned (OpenSpec.ofChange fnExactStacksRunSpec)

/-- ITS FALSE NEIGHBOUR: 'it returns false'. Refute it at one input. -/
def fnExactStacksRunWrong : ChangeSpec := { name := "fnExactStacksRun", fn := fun _ => fun
  | [d1, d2] => { results := [.lit (.bool false)], args := [d1, d2] }
  | _ => none }
def FnExactStacksRunWrongFalsely : Prop := fnExactStacksRunRow.holds Tryz.pinned (OpenSpec.ofChange fnExactStacksRunWrong)

/-- 'laws.FnExactInverseRun': WHATEVER THE INPUT: true; the input reads as it did. -/
def fnExactInverseRunSpec : ChangeSpec := { name := "fnExactInverseRun", fn := fun _ => fun
  | [d1, d2] => { results := [.lit (.bool true)], args := [d1, d2] }
  | _ => none }
def fnExactInverseRunRow : OpenClaim := { program := "ytmlkdbmhekiniaagreat", sum := "46c42a4aec74de00ad57db69324a56d702faeee40188a3a7c9257d4d8c01d9fd", func := "loop.example/windowaggregates/laws.FnExactInverseRun", spec := "fnExactInverseRun", unfollowed := true, recurses := true, apart := false }
def FnExactInverseRunSaid : Prop := fnExactInverseRunRow.holds Tryz.pinned (OpenSpec.ofChange fnExactInverseRunSpec)

/-- ITS FALSE NEIGHBOUR: 'it returns false'. Refute it at one input. -/
def fnExactInverseRunWrong : ChangeSpec := { name := "fnExactInverseRun", fn := fun _ => fun
  | [d1, d2] => { results := [.lit (.bool false)], args := [d1, d2] }
  | _ => none }
def FnExactInverseRunWrongFalsely : Prop := fnExactInverseRunRow.holds Tryz.pinned (OpenSpec.ofChange fnExactInverseRunWrong)

/-- 'laws.FnStacksStep': WHATEVER THE INPUT: true; the input reads as it did. -/
def fnStacksStepSpec : ChangeSpec := { name := "fnStacksStep", fn := fun _ => fun
  | [d] => { results := [.lit (.bool true)], args := [d] }
  | _ => none }
def fnStacksStepRow : OpenClaim := { program := "ytmlkdbmhekiniaagreat", sum := "46c42a4aec74de00ad57db69324a56d702faeee40188a3a7c9257d4d8c01d9fd", func := "loop.example/windowaggregates/laws.FnStacksStep", spec := "fnStacksStep", unfollowed := true, recurses := true, apart := false }
def FnStacksStepSaid : Prop := fnStacksStepRow.holds Tryz.pinned (OpenSpec.ofChange fnStacksStepSpec)

/-- ITS FALSE NEIGHBOUR: 'it returns false'. Refute it at one input. -/
def fnStacksStepWrong : ChangeSpec := { name := "fnStacksStep", fn := fun _ => fun
  | [d] => { results := [.lit (.bool false)], args := [d] }
  | _ => none }
def FnStacksStepWrongFalsely : Prop := fnStacksStepRow.holds Tryz.pinned (OpenSpec.ofChange fnStacksStepWrong)

/- THE SECOND FORM. 'bulk': how many values and letters a reading holds, each counted each time it is reached (what is shared counts as often as it is met; a slice's spare places count too). A statement '..UptoSaid' is the law's where the arguments, and the package variables that the reading takes, are together of bulk at most 1048576: NARROWER than '..Said'. Prove '..Said' where nothing that the law and all that it calls make is longer than what came in: it says more and counts as full. Else prove '..UptoSaid'. A law counts once. -/
mutual
def uptoBulk {H : Type} : DataW H → Nat
  | .lit (.string bytes) => bytes.length + 1
  | .lit _ => 1
  | .nil => 1
  | .ptr d => uptoBulk d + 1
  | .slice elems spare => uptoBulkAll elems + uptoBulkAll spare + 1
  | .agg parts => uptoBulkAll parts + 1
  | .iface _ d => uptoBulk d + 1
  | .map entries => uptoBulkEntries entries + 1
  | .held _ => 1
def uptoBulkAll {H : Type} : List (DataW H) → Nat
  | [] => 0
  | d :: r => uptoBulk d + uptoBulkAll r
def uptoBulkEntries {H : Type} : List (Lit × DataW H) → Nat
  | [] => 0
  | x :: r => uptoBulkEntry x + uptoBulkEntries r
def uptoBulkEntry {H : Type} : Lit × DataW H → Nat
  | (.string bytes, d) => bytes.length + uptoBulk d + 1
  | (_, d) => uptoBulk d + 1
 end
def uptoSmall : (H : Type) → List (DataW H) → Bool := fun _ ds => decide (uptoBulkAll ds ≤ 1048576)
def OpenSpec.upto (s : _root_.Go.ChangeSpec) : _root_.Go.OpenSpec := { _root_.Go.OpenSpec.ofChange s with cond := some uptoSmall }

/-- 'laws.FnInverseStep', WHERE WHAT IT READS IS OF BULK AT MOST 1048576: true; the input reads as it did. -/
def fnInverseStepUptoRow : OpenClaim := { program := "ytmlkdbmhekiniaagreat", sum := "46c42a4aec74de00ad57db69324a56d702faeee40188a3a7c9257d4d8c01d9fd", func := "loop.example/windowaggregates/laws.FnInverseStep", spec := "fnInverseStep", unfollowed := true, recurses := true, apart := false, narrowed := true }
def FnInverseStepUptoSaid : Prop := fnInverseStepUptoRow.holds Tryz.pinned (OpenSpec.upto fnInverseStepSpec)

/-- 'laws.FnInverseTurn', WHERE WHAT IT READS IS OF BULK AT MOST 1048576: true; the input reads as it did. -/
def fnInverseTurnUptoRow : OpenClaim := { program := "ytmlkdbmhekiniaagreat", sum := "46c42a4aec74de00ad57db69324a56d702faeee40188a3a7c9257d4d8c01d9fd", func := "loop.example/windowaggregates/laws.FnInverseTurn", spec := "fnInverseTurn", unfollowed := true, recurses := true, apart := false, narrowed := true }
def FnInverseTurnUptoSaid : Prop := fnInverseTurnUptoRow.holds Tryz.pinned (OpenSpec.upto fnInverseTurnSpec)

/-- 'laws.FnStacksCosts', WHERE WHAT IT READS IS OF BULK AT MOST 1048576: true; the input reads as it did. -/
def fnStacksCostsUptoRow : OpenClaim := { program := "ytmlkdbmhekiniaagreat", sum := "46c42a4aec74de00ad57db69324a56d702faeee40188a3a7c9257d4d8c01d9fd", func := "loop.example/windowaggregates/laws.FnStacksCosts", spec := "fnStacksCosts", unfollowed := true, recurses := true, apart := false, narrowed := true }
def FnStacksCostsUptoSaid : Prop := fnStacksCostsUptoRow.holds Tryz.pinned (OpenSpec.upto fnStacksCostsSpec)

/-- 'laws.FnExactStacksCosts', WHERE WHAT IT READS IS OF BULK AT MOST 1048576: true; the input reads as it did. -/
def fnExactStacksCostsUptoRow : OpenClaim := { program := "ytmlkdbmhekiniaagreat", sum := "46c42a4aec74de00ad57db69324a56d702faeee40188a3a7c9257d4d8c01d9fd", func := "loop.example/windowaggregates/laws.FnExactStacksCosts", spec := "fnExactStacksCosts", unfollowed := true, recurses := true, apart := false, narrowed := true }
def FnExactStacksCostsUptoSaid : Prop := fnExactStacksCostsUptoRow.holds Tryz.pinned (OpenSpec.upto fnExactStacksCostsSpec)

/-- 'laws.FnRemoveItems', WHERE WHAT IT READS IS OF BULK AT MOST 1048576: true; the input reads as it did. -/
def fnRemoveItemsUptoRow : OpenClaim := { program := "ytmlkdbmhekiniaagreat", sum := "46c42a4aec74de00ad57db69324a56d702faeee40188a3a7c9257d4d8c01d9fd", func := "loop.example/windowaggregates/laws.FnRemoveItems", spec := "fnRemoveItems", unfollowed := true, recurses := true, apart := false, narrowed := true }
def FnRemoveItemsUptoSaid : Prop := fnRemoveItemsUptoRow.holds Tryz.pinned (OpenSpec.upto fnRemoveItemsSpec)

/-- 'laws.FnStacksRun', WHERE WHAT IT READS IS OF BULK AT MOST 1048576: true; the input reads as it did. -/
def fnStacksRunUptoRow : OpenClaim := { program := "ytmlkdbmhekiniaagreat", sum := "46c42a4aec74de00ad57db69324a56d702faeee40188a3a7c9257d4d8c01d9fd", func := "loop.example/windowaggregates/laws.FnStacksRun", spec := "fnStacksRun", unfollowed := true, recurses := true, apart := false, narrowed := true }
def FnStacksRunUptoSaid : Prop := fnStacksRunUptoRow.holds Tryz.pinned (OpenSpec.upto fnStacksRunSpec)

/-- 'laws.FnInverseRun', WHERE WHAT IT READS IS OF BULK AT MOST 1048576: true; the input reads as it did. -/
def fnInverseRunUptoRow : OpenClaim := { program := "ytmlkdbmhekiniaagreat", sum := "46c42a4aec74de00ad57db69324a56d702faeee40188a3a7c9257d4d8c01d9fd", func := "loop.example/windowaggregates/laws.FnInverseRun", spec := "fnInverseRun", unfollowed := true, recurses := true, apart := false, narrowed := true }
def FnInverseRunUptoSaid : Prop := fnInverseRunUptoRow.holds Tryz.pinned (OpenSpec.upto fnInverseRunSpec)

/-- 'laws.FnExactStacksRun', WHERE WHAT IT READS IS OF BULK AT MOST 1048576: true; the input reads as it did. -/
def fnExactStacksRunUptoRow : OpenClaim := { program := "ytmlkdbmhekiniaagreat", sum := "46c42a4aec74de00ad57db69324a56d702faeee40188a3a7c9257d4d8c01d9fd", func := "loop.example/windowaggregates/laws.FnExactStacksRun", spec := "fnExactStacksRun", unfollowed := true, recurses := true, apart := false, narrowed := true }
def FnExactStacksRunUptoSaid : Prop := fnExactStacksRunUptoRow.holds Tryz.pinned (OpenSpec.upto fnExactStacksRunSpec)

/-- 'laws.FnExactInverseRun', WHERE WHAT IT READS IS OF BULK AT MOST 1048576: true; the input reads as it did. -/
def fnExactInverseRunUptoRow : OpenClaim := { program := "ytmlkdbmhekiniaagreat", sum := "46c42a4aec74de00ad57db69324a56d702faeee40188a3a7c9257d4d8c01d9fd", func := "loop.example/windowaggregates/laws.FnExactInverseRun", spec := "fnExactInverseRun", unfollowed := true, recurses := true, apart := false, narrowed := true }
def FnExactInverseRunUptoSaid : Prop := fnExactInverseRunUptoRow.holds Tryz.pinned (OpenSpec.upto fnExactInverseRunSpec)

/-- 'laws.FnStacksStep', WHERE WHAT IT READS IS OF BULK AT MOST 1048576: true; the input reads as it did. -/
def fnStacksStepUptoRow : OpenClaim := { program := "ytmlkdbmhekiniaagreat", sum := "46c42a4aec74de00ad57db69324a56d702faeee40188a3a7c9257d4d8c01d9fd", func := "loop.example/windowaggregates/laws.FnStacksStep", spec := "fnStacksStep", unfollowed := true, recurses := true, apart := false, narrowed := true }
def FnStacksStepUptoSaid : Prop := fnStacksStepUptoRow.holds Tryz.pinned (OpenSpec.upto fnStacksStepSpec)

end Rows
end Go.Proofs.YtmlkdbmhekiniaaGreat
