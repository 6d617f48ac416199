/-
  No cell of these rows narrows 'for every input' (looked for: loops, veiled, ifaces, maps, wideKeys, modest, calm, conditions, laid).
  DERIVED. THE GIVEN ROWS OF THIS SEAT. 10 by the template 'for every input the law returns true; each argument reads behind the call as it read before'; 0 by the template 'total and deterministic' (their statements: YticoalgnkddapaaGreatTotals.lean).
  GIVEN WITH THE SEED: the statements are not yours to turn. If you find one false, say at which input.
  Laid BY PROGRAM, IN A SANDBOX (cutbox-rows.mjs): the forced cells as the released guide's own fill.sh prints them over the translation 6be3522676adb2cc… (all of the seat's roots in one cut). By AI agents, Wed Nov 11 2026. No macro, syntax, notation, axiom, sorry.
-/
import Derived.Test.YticoalgnkddapaaGreatChecked
import GoSem.Claim
import GoSem.ClaimJoined
import GoSem.ClaimMapViews
import Derived.JoinedTies
import Derived.KernelRfl
namespace Go.Proofs.YticoalgnkddapaaGreat
/- THE CELL 'sum', in the pinned program and in every row, IS THE sha256 OF THE DUMP (.gsa) THAT YticoalgnkddapaaGreatProg.lean LOADS. Nothing in Lean hashes anything: it is a label: what it is worth is what the hold of that sum in a sandbox is worth. -/
noncomputable def Tryz.pinned : Pinned := { name := "yticoalgnkddapaagreat", sum := "6be3522676adb2cca5130c9445c9fe7dd5c5100b60eebc1a9c0c4c859d39c6b9", checked := Tryz.checked }
namespace Rows
def none {H : Type} : Left H := { results := [], args := [] }

/-- 'laws.FnStacksRun': WHATEVER THE INPUT: true; the input reads as it did. -/
def fnStacksRunSpec : ChangeSpec := { name := "fnStacksRun", fn := fun _ => fun
  | [d] => { results := [.lit (.bool true)], args := [d] }
  | _ => none }
def fnStacksRunRow : OpenClaim := { program := "yticoalgnkddapaagreat", sum := "6be3522676adb2cca5130c9445c9fe7dd5c5100b60eebc1a9c0c4c859d39c6b9", func := "loop.example/windowaggregates/laws.FnStacksRun", spec := "fnStacksRun", unfollowed := true, recurses := true, apart := false }
def FnStacksRunSaid : Prop := fnStacksRunRow.holds Tryz.pinned (OpenSpec.ofChange fnStacksRunSpec)

/-- ITS FALSE NEIGHBOUR: 'it returns false'. Refute it at one input. -/
def fnStacksRunWrong : ChangeSpec := { name := "fnStacksRun", fn := fun _ => fun
  | [d] => { results := [.lit (.bool false)], args := [d] }
  | _ => none }
def FnStacksRunWrongFalsely : Prop := fnStacksRunRow.holds Tryz.pinned (OpenSpec.ofChange fnStacksRunWrong)

/-- 'laws.FnStacksCost': WHATEVER THE INPUT: true; the input reads as it did. -/
def fnStacksCostSpec : ChangeSpec := { name := "fnStacksCost", fn := fun _ => fun
  | [d] => { results := [.lit (.bool true)], args := [d] }
  | _ => none }
def fnStacksCostRow : OpenClaim := { program := "yticoalgnkddapaagreat", sum := "6be3522676adb2cca5130c9445c9fe7dd5c5100b60eebc1a9c0c4c859d39c6b9", func := "loop.example/windowaggregates/laws.FnStacksCost", spec := "fnStacksCost", unfollowed := true, recurses := true, apart := false }
def FnStacksCostSaid : Prop := fnStacksCostRow.holds Tryz.pinned (OpenSpec.ofChange fnStacksCostSpec)

/-- ITS FALSE NEIGHBOUR: 'it returns false'. Refute it at one input. -/
def fnStacksCostWrong : ChangeSpec := { name := "fnStacksCost", fn := fun _ => fun
  | [d] => { results := [.lit (.bool false)], args := [d] }
  | _ => none }
def FnStacksCostWrongFalsely : Prop := fnStacksCostRow.holds Tryz.pinned (OpenSpec.ofChange fnStacksCostWrong)

/-- 'laws.FnStacksStep': WHATEVER THE INPUT: true; the input reads as it did. -/
def fnStacksStepSpec : ChangeSpec := { name := "fnStacksStep", fn := fun _ => fun
  | [d] => { results := [.lit (.bool true)], args := [d] }
  | _ => none }
def fnStacksStepRow : OpenClaim := { program := "yticoalgnkddapaagreat", sum := "6be3522676adb2cca5130c9445c9fe7dd5c5100b60eebc1a9c0c4c859d39c6b9", func := "loop.example/windowaggregates/laws.FnStacksStep", spec := "fnStacksStep", unfollowed := true, recurses := true, apart := false }
def FnStacksStepSaid : Prop := fnStacksStepRow.holds Tryz.pinned (OpenSpec.ofChange fnStacksStepSpec)

/-- ITS FALSE NEIGHBOUR: 'it returns false'. Refute it at one input. -/
def fnStacksStepWrong : ChangeSpec := { name := "fnStacksStep", fn := fun _ => fun
  | [d] => { results := [.lit (.bool false)], args := [d] }
  | _ => none }
def FnStacksStepWrongFalsely : Prop := fnStacksStepRow.holds Tryz.pinned (OpenSpec.ofChange fnStacksStepWrong)

/-- 'laws.FnStacksPush': WHATEVER THE INPUT: true; the input reads as it did. -/
def fnStacksPushSpec : ChangeSpec := { name := "fnStacksPush", fn := fun _ => fun
  | [d] => { results := [.lit (.bool true)], args := [d] }
  | _ => none }
def fnStacksPushRow : OpenClaim := { program := "yticoalgnkddapaagreat", sum := "6be3522676adb2cca5130c9445c9fe7dd5c5100b60eebc1a9c0c4c859d39c6b9", func := "loop.example/windowaggregates/laws.FnStacksPush", spec := "fnStacksPush", unfollowed := true, recurses := true, apart := false }
def FnStacksPushSaid : Prop := fnStacksPushRow.holds Tryz.pinned (OpenSpec.ofChange fnStacksPushSpec)

/-- ITS FALSE NEIGHBOUR: 'it returns false'. Refute it at one input. -/
def fnStacksPushWrong : ChangeSpec := { name := "fnStacksPush", fn := fun _ => fun
  | [d] => { results := [.lit (.bool false)], args := [d] }
  | _ => none }
def FnStacksPushWrongFalsely : Prop := fnStacksPushRow.holds Tryz.pinned (OpenSpec.ofChange fnStacksPushWrong)

/-- 'laws.FnStacksFront': WHATEVER THE INPUT: true; the input reads as it did. -/
def fnStacksFrontSpec : ChangeSpec := { name := "fnStacksFront", fn := fun _ => fun
  | [d] => { results := [.lit (.bool true)], args := [d] }
  | _ => none }
def fnStacksFrontRow : OpenClaim := { program := "yticoalgnkddapaagreat", sum := "6be3522676adb2cca5130c9445c9fe7dd5c5100b60eebc1a9c0c4c859d39c6b9", func := "loop.example/windowaggregates/laws.FnStacksFront", spec := "fnStacksFront", unfollowed := true, recurses := true, apart := false }
def FnStacksFrontSaid : Prop := fnStacksFrontRow.holds Tryz.pinned (OpenSpec.ofChange fnStacksFrontSpec)

/-- ITS FALSE NEIGHBOUR: 'it returns false'. Refute it at one input. -/
def fnStacksFrontWrong : ChangeSpec := { name := "fnStacksFront", fn := fun _ => fun
  | [d] => { results := [.lit (.bool false)], args := [d] }
  | _ => none }
def FnStacksFrontWrongFalsely : Prop := fnStacksFrontRow.holds Tryz.pinned (OpenSpec.ofChange fnStacksFrontWrong)

/-- 'laws.FnStacksDrain': WHATEVER THE INPUT: true; the input reads as it did. -/
def fnStacksDrainSpec : ChangeSpec := { name := "fnStacksDrain", fn := fun _ => fun
  | [d] => { results := [.lit (.bool true)], args := [d] }
  | _ => none }
def fnStacksDrainRow : OpenClaim := { program := "yticoalgnkddapaagreat", sum := "6be3522676adb2cca5130c9445c9fe7dd5c5100b60eebc1a9c0c4c859d39c6b9", func := "loop.example/windowaggregates/laws.FnStacksDrain", spec := "fnStacksDrain", unfollowed := true, recurses := true, apart := false }
def FnStacksDrainSaid : Prop := fnStacksDrainRow.holds Tryz.pinned (OpenSpec.ofChange fnStacksDrainSpec)

/-- ITS FALSE NEIGHBOUR: 'it returns false'. Refute it at one input. -/
def fnStacksDrainWrong : ChangeSpec := { name := "fnStacksDrain", fn := fun _ => fun
  | [d] => { results := [.lit (.bool false)], args := [d] }
  | _ => none }
def FnStacksDrainWrongFalsely : Prop := fnStacksDrainRow.holds Tryz.pinned (OpenSpec.ofChange fnStacksDrainWrong)

/-- 'laws.FnStacksFlips': WHATEVER THE INPUT: true; the input reads as it did. -/
def fnStacksFlipsSpec : ChangeSpec := { name := "fnStacksFlips", fn := fun _ => fun
  | [d] => { results := [.lit (.bool true)], args := [d] }
  | _ => none }
def fnStacksFlipsRow : OpenClaim := { program := "yticoalgnkddapaagreat", sum := "6be3522676adb2cca5130c9445c9fe7dd5c5100b60eebc1a9c0c4c859d39c6b9", func := "loop.example/windowaggregates/laws.FnStacksFlips", spec := "fnStacksFlips", unfollowed := true, recurses := true, apart := false }
def FnStacksFlipsSaid : Prop := fnStacksFlipsRow.holds Tryz.pinned (OpenSpec.ofChange fnStacksFlipsSpec)

/-- ITS FALSE NEIGHBOUR: 'it returns false'. Refute it at one input. -/
def fnStacksFlipsWrong : ChangeSpec := { name := "fnStacksFlips", fn := fun _ => fun
  | [d] => { results := [.lit (.bool false)], args := [d] }
  | _ => none }
def FnStacksFlipsWrongFalsely : Prop := fnStacksFlipsRow.holds Tryz.pinned (OpenSpec.ofChange fnStacksFlipsWrong)

/-- 'laws.FnInverseStep': WHATEVER THE INPUT: true; the input reads as it did. -/
def fnInverseStepSpec : ChangeSpec := { name := "fnInverseStep", fn := fun _ => fun
  | [d] => { results := [.lit (.bool true)], args := [d] }
  | _ => none }
def fnInverseStepRow : OpenClaim := { program := "yticoalgnkddapaagreat", sum := "6be3522676adb2cca5130c9445c9fe7dd5c5100b60eebc1a9c0c4c859d39c6b9", func := "loop.example/windowaggregates/laws.FnInverseStep", spec := "fnInverseStep", unfollowed := true, recurses := true, apart := false }
def FnInverseStepSaid : Prop := fnInverseStepRow.holds Tryz.pinned (OpenSpec.ofChange fnInverseStepSpec)

/-- ITS FALSE NEIGHBOUR: 'it returns false'. Refute it at one input. -/
def fnInverseStepWrong : ChangeSpec := { name := "fnInverseStep", fn := fun _ => fun
  | [d] => { results := [.lit (.bool false)], args := [d] }
  | _ => none }
def FnInverseStepWrongFalsely : Prop := fnInverseStepRow.holds Tryz.pinned (OpenSpec.ofChange fnInverseStepWrong)

/-- 'laws.FnInverseTurn': WHATEVER THE INPUT: true; the input reads as it did. -/
def fnInverseTurnSpec : ChangeSpec := { name := "fnInverseTurn", fn := fun _ => fun
  | [d] => { results := [.lit (.bool true)], args := [d] }
  | _ => none }
def fnInverseTurnRow : OpenClaim := { program := "yticoalgnkddapaagreat", sum := "6be3522676adb2cca5130c9445c9fe7dd5c5100b60eebc1a9c0c4c859d39c6b9", func := "loop.example/windowaggregates/laws.FnInverseTurn", spec := "fnInverseTurn", unfollowed := true, recurses := true, apart := false }
def FnInverseTurnSaid : Prop := fnInverseTurnRow.holds Tryz.pinned (OpenSpec.ofChange fnInverseTurnSpec)

/-- ITS FALSE NEIGHBOUR: 'it returns false'. Refute it at one input. -/
def fnInverseTurnWrong : ChangeSpec := { name := "fnInverseTurn", fn := fun _ => fun
  | [d] => { results := [.lit (.bool false)], args := [d] }
  | _ => none }
def FnInverseTurnWrongFalsely : Prop := fnInverseTurnRow.holds Tryz.pinned (OpenSpec.ofChange fnInverseTurnWrong)

/-- 'laws.FnDequeRun': WHATEVER THE INPUT: true; the input reads as it did. -/
def fnDequeRunSpec : ChangeSpec := { name := "fnDequeRun", fn := fun _ => fun
  | [d] => { results := [.lit (.bool true)], args := [d] }
  | _ => none }
def fnDequeRunRow : OpenClaim := { program := "yticoalgnkddapaagreat", sum := "6be3522676adb2cca5130c9445c9fe7dd5c5100b60eebc1a9c0c4c859d39c6b9", func := "loop.example/windowaggregates/laws.FnDequeRun", spec := "fnDequeRun", unfollowed := true, recurses := true, apart := false }
def FnDequeRunSaid : Prop := fnDequeRunRow.holds Tryz.pinned (OpenSpec.ofChange fnDequeRunSpec)

/-- ITS FALSE NEIGHBOUR: 'it returns false'. Refute it at one input. -/
def fnDequeRunWrong : ChangeSpec := { name := "fnDequeRun", fn := fun _ => fun
  | [d] => { results := [.lit (.bool false)], args := [d] }
  | _ => none }
def FnDequeRunWrongFalsely : Prop := fnDequeRunRow.holds Tryz.pinned (OpenSpec.ofChange fnDequeRunWrong)

/- THE SECOND FORM. 'bulk': how many values and letters a reading holds, each counted each time it is reached (what is shared counts as often as it is met; a slice's spare places count too). A statement '..UptoSaid' is the law's where the arguments, and the package variables that the reading takes, are together of bulk at most 1048576: NARROWER than '..Said'. Prove '..Said' where nothing that the law and all that it calls make is longer than what came in: it says more and counts as full. Else prove '..UptoSaid'. A law counts once. -/
mutual
def uptoBulk {H : Type} : DataW H → Nat
  | .lit (.string bytes) => bytes.length + 1
  | .lit _ => 1
  | .nil => 1
  | .ptr d => uptoBulk d + 1
  | .slice elems spare => uptoBulkAll elems + uptoBulkAll spare + 1
  | .agg parts => uptoBulkAll parts + 1
  | .iface _ d => uptoBulk d + 1
  | .map entries => uptoBulkEntries entries + 1
  | .held _ => 1
def uptoBulkAll {H : Type} : List (DataW H) → Nat
  | [] => 0
  | d :: r => uptoBulk d + uptoBulkAll r
def uptoBulkEntries {H : Type} : List (Lit × DataW H) → Nat
  | [] => 0
  | x :: r => uptoBulkEntry x + uptoBulkEntries r
def uptoBulkEntry {H : Type} : Lit × DataW H → Nat
  | (.string bytes, d) => bytes.length + uptoBulk d + 1
  | (_, d) => uptoBulk d + 1
 end
def uptoSmall : (H : Type) → List (DataW H) → Bool := fun _ ds => decide (uptoBulkAll ds ≤ 1048576)
def OpenSpec.upto (s : _root_.Go.ChangeSpec) : _root_.Go.OpenSpec := { _root_.Go.OpenSpec.ofChange s with cond := some uptoSmall }

/-- 'laws.FnStacksRun', WHERE WHAT IT READS IS OF BULK AT MOST 1048576: true; the input reads as it did. -/
def fnStacksRunUptoRow : OpenClaim := { program := "yticoalgnkddapaagreat", sum := "6be3522676adb2cca5130c9445c9fe7dd5c5100b60eebc1a9c0c4c859d39c6b9", func := "loop.example/windowaggregates/laws.FnStacksRun", spec := "fnStacksRun", unfollowed := true, recurses := true, apart := false, narrowed := true }
def FnStacksRunUptoSaid : Prop := fnStacksRunUptoRow.holds Tryz.pinned (OpenSpec.upto fnStacksRunSpec)

/-- 'laws.FnStacksCost', WHERE WHAT IT READS IS OF BULK AT MOST 1048576: true; the input reads as it did. -/
def fnStacksCostUptoRow : OpenClaim := { program := "yticoalgnkddapaagreat", sum := "6be3522676adb2cca5130c9445c9fe7dd5c5100b60eebc1a9c0c4c859d39c6b9", func := "loop.example/windowaggregates/laws.FnStacksCost", spec := "fnStacksCost", unfollowed := true, recurses := true, apart := false, narrowed := true }
def FnStacksCostUptoSaid : Prop := fnStacksCostUptoRow.holds Tryz.pinned (OpenSpec.upto fnStacksCostSpec)

/-- 'laws.FnStacksStep', WHERE WHAT IT READS IS OF BULK AT MOST 1048576: true; the input reads as it did. -/
def fnStacksStepUptoRow : OpenClaim := { program := "yticoalgnkddapaagreat", sum := "6be3522676adb2cca5130c9445c9fe7dd5c5100b60eebc1a9c0c4c859d39c6b9", func := "loop.example/windowaggregates/laws.FnStacksStep", spec := "fnStacksStep", unfollowed := true, recurses := true, apart := false, narrowed := true }
def FnStacksStepUptoSaid : Prop := fnStacksStepUptoRow.holds Tryz.pinned (OpenSpec.upto fnStacksStepSpec)

/-- 'laws.FnStacksPush', WHERE WHAT IT READS IS OF BULK AT MOST 1048576: true; the input reads as it did. -/
def fnStacksPushUptoRow : OpenClaim := { program := "yticoalgnkddapaagreat", sum := "6be3522676adb2cca5130c9445c9fe7dd5c5100b60eebc1a9c0c4c859d39c6b9", func := "loop.example/windowaggregates/laws.FnStacksPush", spec := "fnStacksPush", unfollowed := true, recurses := true, apart := false, narrowed := true }
def FnStacksPushUptoSaid : Prop := fnStacksPushUptoRow.holds Tryz.pinned (OpenSpec.upto fnStacksPushSpec)

/-- 'laws.FnStacksFront', WHERE WHAT IT READS IS OF BULK AT MOST 1048576: true; the input reads as it did. -/
def fnStacksFrontUptoRow : OpenClaim := { program := "yticoalgnkddapaagreat", sum := "6be3522676adb2cca5130c9445c9fe7dd5c5100b60eebc1a9c0c4c859d39c6b9", func := "loop.example/windowaggregates/laws.FnStacksFront", spec := "fnStacksFront", unfollowed := true, recurses := true, apart := false, narrowed := true }
def FnStacksFrontUptoSaid : Prop := fnStacksFrontUptoRow.holds Tryz.pinned (OpenSpec.upto fnStacksFrontSpec)

/-- 'laws.FnStacksDrain', WHERE WHAT IT READS IS OF BULK AT MOST 1048576: true; the input reads as it did. -/
def fnStacksDrainUptoRow : OpenClaim := { program := "yticoalgnkddapaagreat", sum := "6be3522676adb2cca5130c9445c9fe7dd5c5100b60eebc1a9c0c4c859d39c6b9", func := "loop.example/windowaggregates/laws.FnStacksDrain", spec := "fnStacksDrain", unfollowed := true, recurses := true, apart := false, narrowed := true }
def FnStacksDrainUptoSaid : Prop := fnStacksDrainUptoRow.holds Tryz.pinned (OpenSpec.upto fnStacksDrainSpec)

/-- 'laws.FnStacksFlips', WHERE WHAT IT READS IS OF BULK AT MOST 1048576: true; the input reads as it did. -/
def fnStacksFlipsUptoRow : OpenClaim := { program := "yticoalgnkddapaagreat", sum := "6be3522676adb2cca5130c9445c9fe7dd5c5100b60eebc1a9c0c4c859d39c6b9", func := "loop.example/windowaggregates/laws.FnStacksFlips", spec := "fnStacksFlips", unfollowed := true, recurses := true, apart := false, narrowed := true }
def FnStacksFlipsUptoSaid : Prop := fnStacksFlipsUptoRow.holds Tryz.pinned (OpenSpec.upto fnStacksFlipsSpec)

/-- 'laws.FnInverseStep', WHERE WHAT IT READS IS OF BULK AT MOST 1048576: true; the input reads as it did. -/
def fnInverseStepUptoRow : OpenClaim := { program := "yticoalgnkddapaagreat", sum := "6be3522676adb2cca5130c9445c9fe7dd5c5100b60eebc1a9c0c4c859d39c6b9", func := "loop.example/windowaggregates/laws.FnInverseStep", spec := "fnInverseStep", unfollowed := true, recurses := true, apart := false, narrowed := true }
def FnInverseStepUptoSaid : Prop := fnInverseStepUptoRow.holds Tryz.pinned (OpenSpec.upto fnInverseStepSpec)

/-- 'laws.FnInverseTurn', WHERE WHAT IT READS IS OF BULK AT MOST 1048576: true; the input reads as it did. -/
def fnInverseTurnUptoRow : OpenClaim := { program := "yticoalgnkddapaagreat", sum := "6be3522676adb2cca5130c9445c9fe7dd5c5100b60eebc1a9c0c4c859d39c6b9", func := "loop.example/windowaggregates/laws.FnInverseTurn", spec := "fnInverseTurn", unfollowed := true, recurses := true, apart := false, narrowed := true }
def FnInverseTurnUptoSaid : Prop := fnInverseTurnUptoRow.holds Tryz.pinned (OpenSpec.upto fnInverseTurnSpec)

/-- 'laws.FnDequeRun', WHERE WHAT IT READS IS OF BULK AT MOST 1048576: true; the input reads as it did. -/
def fnDequeRunUptoRow : OpenClaim := { program := "yticoalgnkddapaagreat", sum := "6be3522676adb2cca5130c9445c9fe7dd5c5100b60eebc1a9c0c4c859d39c6b9", func := "loop.example/windowaggregates/laws.FnDequeRun", spec := "fnDequeRun", unfollowed := true, recurses := true, apart := false, narrowed := true }
def FnDequeRunUptoSaid : Prop := fnDequeRunUptoRow.holds Tryz.pinned (OpenSpec.upto fnDequeRunSpec)

end Rows
end Go.Proofs.YticoalgnkddapaaGreat
