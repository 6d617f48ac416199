/-
  No cell of these rows narrows 'for every input' (looked for: loops, veiled, ifaces, maps, wideKeys, modest, calm, conditions, laid).
  DERIVED. THE GIVEN ROWS OF THIS SEAT. 9 by the template 'for every input the law returns true; each argument reads behind the call as it read before'; 0 by the template 'total and deterministic' (their statements: YtbacdcegfinekaaTotals.lean).
  GIVEN WITH THE SEED: the statements are not yours to turn. If you find one false, say at which input.
  Laid BY PROGRAM, IN A SANDBOX (cutbox-rows.mjs): the forced cells as the released guide's own fill.sh prints them over the translation 3361c24108865fe8… (all of the seat's roots in one cut). By AI agents, Wed Nov 11 2026. No macro, syntax, notation, axiom, sorry.
-/
import Derived.Test.YtbacdcegfinekaaChecked
import GoSem.Claim
import GoSem.ClaimJoined
import GoSem.ClaimMapViews
import Derived.JoinedTies
import Derived.KernelRfl
namespace Go.Proofs.Ytbacdcegfinekaa
/- THE CELL 'sum', in the pinned program and in every row, IS THE sha256 OF THE DUMP (.gsa) THAT YtbacdcegfinekaaProg.lean LOADS. Nothing in Lean hashes anything: it is a label: what it is worth is what the hold of that sum in a sandbox is worth. -/
noncomputable def Try.pinned : Pinned := { name := "ytbacdcegfinekaa", sum := "3361c24108865fe883c1b50d41686456b92c1e43de633f86e288d15a3dd2aec6", checked := Try.checked }
namespace Rows
def none {H : Type} : Left H := { results := [], args := [] }

/-- 'laws.FnExactDequeStep': WHATEVER THE INPUT: true; the input reads as it did. -/
def fnExactDequeStepSpec : ChangeSpec := { name := "fnExactDequeStep", fn := fun _ => fun
  | [d1, d2, d3] => { results := [.lit (.bool true)], args := [d1, d2, d3] }
  | _ => none }
def fnExactDequeStepRow : OpenClaim := { program := "ytbacdcegfinekaa", sum := "3361c24108865fe883c1b50d41686456b92c1e43de633f86e288d15a3dd2aec6", func := "loop.example/windowaggregates/laws.FnExactDequeStep", spec := "fnExactDequeStep", unfollowed := true, recurses := true, apart := false }
def FnExactDequeStepSaid : Prop := fnExactDequeStepRow.holds Try.pinned (OpenSpec.ofChange fnExactDequeStepSpec)

/-- ITS FALSE NEIGHBOUR: 'it returns false'. Refute it at one input. -/
def fnExactDequeStepWrong : ChangeSpec := { name := "fnExactDequeStep", fn := fun _ => fun
  | [d1, d2, d3] => { results := [.lit (.bool false)], args := [d1, d2, d3] }
  | _ => none }
def FnExactDequeStepWrongFalsely : Prop := fnExactDequeStepRow.holds Try.pinned (OpenSpec.ofChange fnExactDequeStepWrong)

/-- 'laws.FnExactDequeRun': WHATEVER THE INPUT: true; the input reads as it did. -/
def fnExactDequeRunSpec : ChangeSpec := { name := "fnExactDequeRun", fn := fun _ => fun
  | [d1, d2] => { results := [.lit (.bool true)], args := [d1, d2] }
  | _ => none }
def fnExactDequeRunRow : OpenClaim := { program := "ytbacdcegfinekaa", sum := "3361c24108865fe883c1b50d41686456b92c1e43de633f86e288d15a3dd2aec6", func := "loop.example/windowaggregates/laws.FnExactDequeRun", spec := "fnExactDequeRun", unfollowed := true, recurses := true, apart := false }
def FnExactDequeRunSaid : Prop := fnExactDequeRunRow.holds Try.pinned (OpenSpec.ofChange fnExactDequeRunSpec)

/-- ITS FALSE NEIGHBOUR: 'it returns false'. Refute it at one input. -/
def fnExactDequeRunWrong : ChangeSpec := { name := "fnExactDequeRun", fn := fun _ => fun
  | [d1, d2] => { results := [.lit (.bool false)], args := [d1, d2] }
  | _ => none }
def FnExactDequeRunWrongFalsely : Prop := fnExactDequeRunRow.holds Try.pinned (OpenSpec.ofChange fnExactDequeRunWrong)

/-- 'laws.FnDequeStep': WHATEVER THE INPUT: true; the input reads as it did. -/
def fnDequeStepSpec : ChangeSpec := { name := "fnDequeStep", fn := fun _ => fun
  | [d] => { results := [.lit (.bool true)], args := [d] }
  | _ => none }
def fnDequeStepRow : OpenClaim := { program := "ytbacdcegfinekaa", sum := "3361c24108865fe883c1b50d41686456b92c1e43de633f86e288d15a3dd2aec6", func := "loop.example/windowaggregates/laws.FnDequeStep", spec := "fnDequeStep", unfollowed := true, recurses := true, apart := false }
def FnDequeStepSaid : Prop := fnDequeStepRow.holds Try.pinned (OpenSpec.ofChange fnDequeStepSpec)

/-- ITS FALSE NEIGHBOUR: 'it returns false'. Refute it at one input. -/
def fnDequeStepWrong : ChangeSpec := { name := "fnDequeStep", fn := fun _ => fun
  | [d] => { results := [.lit (.bool false)], args := [d] }
  | _ => none }
def FnDequeStepWrongFalsely : Prop := fnDequeStepRow.holds Try.pinned (OpenSpec.ofChange fnDequeStepWrong)

/-- 'laws.FnDequeNumber': WHATEVER THE INPUT: true; the input reads as it did. -/
def fnDequeNumberSpec : ChangeSpec := { name := "fnDequeNumber", fn := fun _ => fun
  | [d] => { results := [.lit (.bool true)], args := [d] }
  | _ => none }
def fnDequeNumberRow : OpenClaim := { program := "ytbacdcegfinekaa", sum := "3361c24108865fe883c1b50d41686456b92c1e43de633f86e288d15a3dd2aec6", func := "loop.example/windowaggregates/laws.FnDequeNumber", spec := "fnDequeNumber", unfollowed := true, recurses := true, apart := false }
def FnDequeNumberSaid : Prop := fnDequeNumberRow.holds Try.pinned (OpenSpec.ofChange fnDequeNumberSpec)

/-- ITS FALSE NEIGHBOUR: 'it returns false'. Refute it at one input. -/
def fnDequeNumberWrong : ChangeSpec := { name := "fnDequeNumber", fn := fun _ => fun
  | [d] => { results := [.lit (.bool false)], args := [d] }
  | _ => none }
def FnDequeNumberWrongFalsely : Prop := fnDequeNumberRow.holds Try.pinned (OpenSpec.ofChange fnDequeNumberWrong)

/-- 'laws.FnDequeOrder': WHATEVER THE INPUT: true; the input reads as it did. -/
def fnDequeOrderSpec : ChangeSpec := { name := "fnDequeOrder", fn := fun _ => fun
  | [d] => { results := [.lit (.bool true)], args := [d] }
  | _ => none }
def fnDequeOrderRow : OpenClaim := { program := "ytbacdcegfinekaa", sum := "3361c24108865fe883c1b50d41686456b92c1e43de633f86e288d15a3dd2aec6", func := "loop.example/windowaggregates/laws.FnDequeOrder", spec := "fnDequeOrder", unfollowed := true, recurses := true, apart := false }
def FnDequeOrderSaid : Prop := fnDequeOrderRow.holds Try.pinned (OpenSpec.ofChange fnDequeOrderSpec)

/-- ITS FALSE NEIGHBOUR: 'it returns false'. Refute it at one input. -/
def fnDequeOrderWrong : ChangeSpec := { name := "fnDequeOrder", fn := fun _ => fun
  | [d] => { results := [.lit (.bool false)], args := [d] }
  | _ => none }
def FnDequeOrderWrongFalsely : Prop := fnDequeOrderRow.holds Try.pinned (OpenSpec.ofChange fnDequeOrderWrong)

/-- 'laws.FnDequeDrops': WHATEVER THE INPUT: true; the input reads as it did. -/
def fnDequeDropsSpec : ChangeSpec := { name := "fnDequeDrops", fn := fun _ => fun
  | [d] => { results := [.lit (.bool true)], args := [d] }
  | _ => none }
def fnDequeDropsRow : OpenClaim := { program := "ytbacdcegfinekaa", sum := "3361c24108865fe883c1b50d41686456b92c1e43de633f86e288d15a3dd2aec6", func := "loop.example/windowaggregates/laws.FnDequeDrops", spec := "fnDequeDrops", unfollowed := true, recurses := true, apart := false }
def FnDequeDropsSaid : Prop := fnDequeDropsRow.holds Try.pinned (OpenSpec.ofChange fnDequeDropsSpec)

/-- ITS FALSE NEIGHBOUR: 'it returns false'. Refute it at one input. -/
def fnDequeDropsWrong : ChangeSpec := { name := "fnDequeDrops", fn := fun _ => fun
  | [d] => { results := [.lit (.bool false)], args := [d] }
  | _ => none }
def FnDequeDropsWrongFalsely : Prop := fnDequeDropsRow.holds Try.pinned (OpenSpec.ofChange fnDequeDropsWrong)

/-- 'laws.FnExactDequeNumber': WHATEVER THE INPUT: true; the input reads as it did. -/
def fnExactDequeNumberSpec : ChangeSpec := { name := "fnExactDequeNumber", fn := fun _ => fun
  | [d1, d2] => { results := [.lit (.bool true)], args := [d1, d2] }
  | _ => none }
def fnExactDequeNumberRow : OpenClaim := { program := "ytbacdcegfinekaa", sum := "3361c24108865fe883c1b50d41686456b92c1e43de633f86e288d15a3dd2aec6", func := "loop.example/windowaggregates/laws.FnExactDequeNumber", spec := "fnExactDequeNumber", unfollowed := true, recurses := true, apart := false }
def FnExactDequeNumberSaid : Prop := fnExactDequeNumberRow.holds Try.pinned (OpenSpec.ofChange fnExactDequeNumberSpec)

/-- ITS FALSE NEIGHBOUR: 'it returns false'. Refute it at one input. -/
def fnExactDequeNumberWrong : ChangeSpec := { name := "fnExactDequeNumber", fn := fun _ => fun
  | [d1, d2] => { results := [.lit (.bool false)], args := [d1, d2] }
  | _ => none }
def FnExactDequeNumberWrongFalsely : Prop := fnExactDequeNumberRow.holds Try.pinned (OpenSpec.ofChange fnExactDequeNumberWrong)

/-- 'laws.FnExactDequeValid': WHATEVER THE INPUT: true; the input reads as it did. -/
def fnExactDequeValidSpec : ChangeSpec := { name := "fnExactDequeValid", fn := fun _ => fun
  | [d1, d2] => { results := [.lit (.bool true)], args := [d1, d2] }
  | _ => none }
def fnExactDequeValidRow : OpenClaim := { program := "ytbacdcegfinekaa", sum := "3361c24108865fe883c1b50d41686456b92c1e43de633f86e288d15a3dd2aec6", func := "loop.example/windowaggregates/laws.FnExactDequeValid", spec := "fnExactDequeValid", unfollowed := true, recurses := true, apart := false }
def FnExactDequeValidSaid : Prop := fnExactDequeValidRow.holds Try.pinned (OpenSpec.ofChange fnExactDequeValidSpec)

/-- ITS FALSE NEIGHBOUR: 'it returns false'. Refute it at one input. -/
def fnExactDequeValidWrong : ChangeSpec := { name := "fnExactDequeValid", fn := fun _ => fun
  | [d1, d2] => { results := [.lit (.bool false)], args := [d1, d2] }
  | _ => none }
def FnExactDequeValidWrongFalsely : Prop := fnExactDequeValidRow.holds Try.pinned (OpenSpec.ofChange fnExactDequeValidWrong)

/-- 'laws.FnExactInverseValid': WHATEVER THE INPUT: true; the input reads as it did. -/
def fnExactInverseValidSpec : ChangeSpec := { name := "fnExactInverseValid", fn := fun _ => fun
  | [d1, d2] => { results := [.lit (.bool true)], args := [d1, d2] }
  | _ => none }
def fnExactInverseValidRow : OpenClaim := { program := "ytbacdcegfinekaa", sum := "3361c24108865fe883c1b50d41686456b92c1e43de633f86e288d15a3dd2aec6", func := "loop.example/windowaggregates/laws.FnExactInverseValid", spec := "fnExactInverseValid", unfollowed := true, recurses := true, apart := false }
def FnExactInverseValidSaid : Prop := fnExactInverseValidRow.holds Try.pinned (OpenSpec.ofChange fnExactInverseValidSpec)

/-- ITS FALSE NEIGHBOUR: 'it returns false'. Refute it at one input. -/
def fnExactInverseValidWrong : ChangeSpec := { name := "fnExactInverseValid", fn := fun _ => fun
  | [d1, d2] => { results := [.lit (.bool false)], args := [d1, d2] }
  | _ => none }
def FnExactInverseValidWrongFalsely : Prop := fnExactInverseValidRow.holds Try.pinned (OpenSpec.ofChange fnExactInverseValidWrong)

/- THE SECOND FORM. 'bulk': how many values and letters a reading holds, each counted each time it is reached (what is shared counts as often as it is met; a slice's spare places count too). A statement '..UptoSaid' is the law's where the arguments, and the package variables that the reading takes, are together of bulk at most 1048576: NARROWER than '..Said'. Prove '..Said' where nothing that the law and all that it calls make is longer than what came in: it says more and counts as full. Else prove '..UptoSaid'. A law counts once. -/
mutual
def uptoBulk {H : Type} : DataW H → Nat
  | .lit (.string bytes) => bytes.length + 1
  | .lit _ => 1
  | .nil => 1
  | .ptr d => uptoBulk d + 1
  | .slice elems spare => uptoBulkAll elems + uptoBulkAll spare + 1
  | .agg parts => uptoBulkAll parts + 1
  | .iface _ d => uptoBulk d + 1
  | .map entries => uptoBulkEntries entries + 1
  | .held _ => 1
def uptoBulkAll {H : Type} : List (DataW H) → Nat
  | [] => 0
  | d :: r => uptoBulk d + uptoBulkAll r
def uptoBulkEntries {H : Type} : List (Lit × DataW H) → Nat
  | [] => 0
  | x :: r => uptoBulkEntry x + uptoBulkEntries r
def uptoBulkEntry {H : Type} : Lit × DataW H → Nat
  | (.string bytes, d) => bytes.length + uptoBulk d + 1
  | (_, d) => uptoBulk d + 1
 end
def uptoSmall : (H : Type) → List (DataW H) → Bool := fun _ ds => decide (uptoBulkAll ds ≤ 1048576)
def OpenSpec.upto (s : _root_.Go.ChangeSpec) : _root_.Go.OpenSpec := { _root_.Go.OpenSpec.ofChange s with cond := some uptoSmall }

/-- 'laws.FnExactDequeStep', WHERE WHAT IT READS IS OF BULK AT MOST 1048576: true; the input reads as it did. -/
def fnExactDequeStepUptoRow : OpenClaim := { program := "ytbacdcegfinekaa", sum := "3361c24108865fe883c1b50d41686456b92c1e43de633f86e288d15a3dd2aec6", func := "loop.example/windowaggregates/laws.FnExactDequeStep", spec := "fnExactDequeStep", unfollowed := true, recurses := true, apart := false, narrowed := true }
def FnExactDequeStepUptoSaid : Prop := fnExactDequeStepUptoRow.holds Try.pinned (OpenSpec.upto fnExactDequeStepSpec)

/-- 'laws.FnExactDequeRun', WHERE WHAT IT READS IS OF BULK AT MOST 1048576: true; the input reads as it did. -/
def fnExactDequeRunUptoRow : OpenClaim := { program := "ytbacdcegfinekaa", sum := "3361c24108865fe883c1b50d41686456b92c1e43de633f86e288d15a3dd2aec6", func := "loop.example/windowaggregates/laws.FnExactDequeRun", spec := "fnExactDequeRun", unfollowed := true, recurses := true, apart := false, narrowed := true }
def FnExactDequeRunUptoSaid : Prop := fnExactDequeRunUptoRow.holds Try.pinned (OpenSpec.upto fnExactDequeRunSpec)

/-- 'laws.FnDequeStep', WHERE WHAT IT READS IS OF BULK AT MOST 1048576: true; the input reads as it did. -/
def fnDequeStepUptoRow : OpenClaim := { program := "ytbacdcegfinekaa", sum := "3361c24108865fe883c1b50d41686456b92c1e43de633f86e288d15a3dd2aec6", func := "loop.example/windowaggregates/laws.FnDequeStep", spec := "fnDequeStep", unfollowed := true, recurses := true, apart := false, narrowed := true }
def FnDequeStepUptoSaid : Prop := fnDequeStepUptoRow.holds Try.pinned (OpenSpec.upto fnDequeStepSpec)

/-- 'laws.FnDequeNumber', WHERE WHAT IT READS IS OF BULK AT MOST 1048576: true; the input reads as it did. -/
def fnDequeNumberUptoRow : OpenClaim := { program := "ytbacdcegfinekaa", sum := "3361c24108865fe883c1b50d41686456b92c1e43de633f86e288d15a3dd2aec6", func := "loop.example/windowaggregates/laws.FnDequeNumber", spec := "fnDequeNumber", unfollowed := true, recurses := true, apart := false, narrowed := true }
def FnDequeNumberUptoSaid : Prop := fnDequeNumberUptoRow.holds Try.pinned (OpenSpec.upto fnDequeNumberSpec)

/-- 'laws.FnDequeOrder', WHERE WHAT IT READS IS OF BULK AT MOST 1048576: true; the input reads as it did. -/
def fnDequeOrderUptoRow : OpenClaim := { program := "ytbacdcegfinekaa", sum := "3361c24108865fe883c1b50d41686456b92c1e43de633f86e288d15a3dd2aec6", func := "loop.example/windowaggregates/laws.FnDequeOrder", spec := "fnDequeOrder", unfollowed := true, recurses := true, apart := false, narrowed := true }
def FnDequeOrderUptoSaid : Prop := fnDequeOrderUptoRow.holds Try.pinned (OpenSpec.upto fnDequeOrderSpec)

/-- 'laws.FnDequeDrops', WHERE WHAT IT READS IS OF BULK AT MOST 1048576: true; the input reads as it did. -/
def fnDequeDropsUptoRow : OpenClaim := { program := "ytbacdcegfinekaa", sum := "3361c24108865fe883c1b50d41686456b92c1e43de633f86e288d15a3dd2aec6", func := "loop.example/windowaggregates/laws.FnDequeDrops", spec := "fnDequeDrops", unfollowed := true, recurses := true, apart := false, narrowed := true }
def FnDequeDropsUptoSaid : Prop := fnDequeDropsUptoRow.holds Try.pinned (OpenSpec.upto fnDequeDropsSpec)

/-- 'laws.FnExactDequeNumber', WHERE WHAT IT READS IS OF BULK AT MOST 1048576: true; the input reads as it did. -/
def fnExactDequeNumberUptoRow : OpenClaim := { program := "ytbacdcegfinekaa", sum := "3361c24108865fe883c1b50d41686456b92c1e43de633f86e288d15a3dd2aec6", func := "loop.example/windowaggregates/laws.FnExactDequeNumber", spec := "fnExactDequeNumber", unfollowed := true, recurses := true, apart := false, narrowed := true }
def FnExactDequeNumberUptoSaid : Prop := fnExactDequeNumberUptoRow.holds Try.pinned (OpenSpec.upto fnExactDequeNumberSpec)

/-- 'laws.FnExactDequeValid', WHERE WHAT IT READS IS OF BULK AT MOST 1048576: true; the input reads as it did. -/
def fnExactDequeValidUptoRow : OpenClaim := { program := "ytbacdcegfinekaa", sum := "3361c24108865fe883c1b50d41686456b92c1e43de633f86e288d15a3dd2aec6", func := "loop.example/windowaggregates/laws.FnExactDequeValid", spec := "fnExactDequeValid", unfollowed := true, recurses := true, apart := false, narrowed := true }
def FnExactDequeValidUptoSaid : Prop := fnExactDequeValidUptoRow.holds Try.pinned (OpenSpec.upto fnExactDequeValidSpec)

/-- 'laws.FnExactInverseValid', WHERE WHAT IT READS IS OF BULK AT MOST 1048576: true; the input reads as it did. -/
def fnExactInverseValidUptoRow : OpenClaim := { program := "ytbacdcegfinekaa", sum := "3361c24108865fe883c1b50d41686456b92c1e43de633f86e288d15a3dd2aec6", func := "loop.example/windowaggregates/laws.FnExactInverseValid", spec := "fnExactInverseValid", unfollowed := true, recurses := true, apart := false, narrowed := true }
def FnExactInverseValidUptoSaid : Prop := fnExactInverseValidUptoRow.holds Try.pinned (OpenSpec.upto fnExactInverseValidSpec)

end Rows
end Go.Proofs.Ytbacdcegfinekaa
