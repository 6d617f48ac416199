/-
  No cell of these rows narrows 'for every input' (looked for: loops, veiled, ifaces, maps, wideKeys, modest, calm, conditions, laid).
  DERIVED. THE GIVEN ROWS OF THIS SEAT. 5 by the template 'for every input the law returns true; each argument reads behind the call as it read before'; 0 by the template 'total and deterministic' (their statements: YtionbdjcpfbejaaGreatTotals.lean).
  GIVEN WITH THE SEED: the statements are not yours to turn. If you find one false, say at which input.
  Laid BY PROGRAM, IN A SANDBOX (cutbox-rows.mjs): the forced cells as the released guide's own fill.sh prints them over the translation d8c96251230672d3… (all of the seat's roots in one cut). By AI agents, Wed Nov 11 2026. No macro, syntax, notation, axiom, sorry.
-/
import Derived.Test.YtionbdjcpfbejaaGreatChecked
import GoSem.Claim
import GoSem.ClaimJoined
import GoSem.ClaimMapViews
import Derived.JoinedTies
import Derived.KernelRfl
namespace Go.Proofs.YtionbdjcpfbejaaGreat
/- THE CELL 'sum', in the pinned program and in every row, IS THE sha256 OF THE DUMP (.gsa) THAT YtionbdjcpfbejaaGreatProg.lean LOADS. Nothing in Lean hashes anything: it is a label: what it is worth is what the hold of that sum in a sandbox is worth. -/
noncomputable def Tryz.pinned : Pinned := { name := "ytionbdjcpfbejaagreat", sum := "d8c96251230672d37d015d02caa70032a670f706d33d8c2cc11a80d635ac332b", checked := Tryz.checked }
namespace Rows
def none {H : Type} : Left H := { results := [], args := [] }

/-- 'laws.FnExactQueriesOf': WHATEVER THE INPUT: true; the input reads as it did. -/
def fnExactQueriesOfSpec : ChangeSpec := { name := "fnExactQueriesOf", fn := fun _ => fun
  | [d1, d2] => { results := [.lit (.bool true)], args := [d1, d2] }
  | _ => none }
def fnExactQueriesOfRow : OpenClaim := { program := "ytionbdjcpfbejaagreat", sum := "d8c96251230672d37d015d02caa70032a670f706d33d8c2cc11a80d635ac332b", func := "loop.example/windowaggregates/laws.FnExactQueriesOf", spec := "fnExactQueriesOf", unfollowed := true, recurses := true, apart := false }
def FnExactQueriesOfSaid : Prop := fnExactQueriesOfRow.holds Tryz.pinned (OpenSpec.ofChange fnExactQueriesOfSpec)

/-- ITS FALSE NEIGHBOUR: 'it returns false'. Refute it at one input. -/
def fnExactQueriesOfWrong : ChangeSpec := { name := "fnExactQueriesOf", fn := fun _ => fun
  | [d1, d2] => { results := [.lit (.bool false)], args := [d1, d2] }
  | _ => none }
def FnExactQueriesOfWrongFalsely : Prop := fnExactQueriesOfRow.holds Tryz.pinned (OpenSpec.ofChange fnExactQueriesOfWrong)

/-- 'laws.FnExactStacksStep': WHATEVER THE INPUT: true; the input reads as it did. -/
def fnExactStacksStepSpec : ChangeSpec := { name := "fnExactStacksStep", fn := fun _ => fun
  | [d1, d2, d3] => { results := [.lit (.bool true)], args := [d1, d2, d3] }
  | _ => none }
def fnExactStacksStepRow : OpenClaim := { program := "ytionbdjcpfbejaagreat", sum := "d8c96251230672d37d015d02caa70032a670f706d33d8c2cc11a80d635ac332b", func := "loop.example/windowaggregates/laws.FnExactStacksStep", spec := "fnExactStacksStep", unfollowed := true, recurses := true, apart := false }
def FnExactStacksStepSaid : Prop := fnExactStacksStepRow.holds Tryz.pinned (OpenSpec.ofChange fnExactStacksStepSpec)

/-- ITS FALSE NEIGHBOUR: 'it returns false'. Refute it at one input. -/
def fnExactStacksStepWrong : ChangeSpec := { name := "fnExactStacksStep", fn := fun _ => fun
  | [d1, d2, d3] => { results := [.lit (.bool false)], args := [d1, d2, d3] }
  | _ => none }
def FnExactStacksStepWrongFalsely : Prop := fnExactStacksStepRow.holds Tryz.pinned (OpenSpec.ofChange fnExactStacksStepWrong)

/-- 'laws.FnExactStacksValue': WHATEVER THE INPUT: true; the input reads as it did. -/
def fnExactStacksValueSpec : ChangeSpec := { name := "fnExactStacksValue", fn := fun _ => fun
  | [d1, d2] => { results := [.lit (.bool true)], args := [d1, d2] }
  | _ => none }
def fnExactStacksValueRow : OpenClaim := { program := "ytionbdjcpfbejaagreat", sum := "d8c96251230672d37d015d02caa70032a670f706d33d8c2cc11a80d635ac332b", func := "loop.example/windowaggregates/laws.FnExactStacksValue", spec := "fnExactStacksValue", unfollowed := true, recurses := true, apart := false }
def FnExactStacksValueSaid : Prop := fnExactStacksValueRow.holds Tryz.pinned (OpenSpec.ofChange fnExactStacksValueSpec)

/-- ITS FALSE NEIGHBOUR: 'it returns false'. Refute it at one input. -/
def fnExactStacksValueWrong : ChangeSpec := { name := "fnExactStacksValue", fn := fun _ => fun
  | [d1, d2] => { results := [.lit (.bool false)], args := [d1, d2] }
  | _ => none }
def FnExactStacksValueWrongFalsely : Prop := fnExactStacksValueRow.holds Tryz.pinned (OpenSpec.ofChange fnExactStacksValueWrong)

/-- 'laws.FnExactStacksRun': WHATEVER THE INPUT: true; the input reads as it did. -/
def fnExactStacksRunSpec : ChangeSpec := { name := "fnExactStacksRun", fn := fun _ => fun
  | [d1, d2] => { results := [.lit (.bool true)], args := [d1, d2] }
  | _ => none }
def fnExactStacksRunRow : OpenClaim := { program := "ytionbdjcpfbejaagreat", sum := "d8c96251230672d37d015d02caa70032a670f706d33d8c2cc11a80d635ac332b", func := "loop.example/windowaggregates/laws.FnExactStacksRun", spec := "fnExactStacksRun", unfollowed := true, recurses := true, apart := false }
def FnExactStacksRunSaid : Prop := fnExactStacksRunRow.holds Tryz.pinned (OpenSpec.ofChange fnExactStacksRunSpec)

/-- ITS FALSE NEIGHBOUR: 'it returns false'. Refute it at one input. -/
def fnExactStacksRunWrong : ChangeSpec := { name := "fnExactStacksRun", fn := fun _ => fun
  | [d1, d2] => { results := [.lit (.bool false)], args := [d1, d2] }
  | _ => none }
def FnExactStacksRunWrongFalsely : Prop := fnExactStacksRunRow.holds Tryz.pinned (OpenSpec.ofChange fnExactStacksRunWrong)

/-- 'laws.FnExactStacksValid': WHATEVER THE INPUT: true; the input reads as it did. -/
def fnExactStacksValidSpec : ChangeSpec := { name := "fnExactStacksValid", fn := fun _ => fun
  | [d1, d2] => { results := [.lit (.bool true)], args := [d1, d2] }
  | _ => none }
def fnExactStacksValidRow : OpenClaim := { program := "ytionbdjcpfbejaagreat", sum := "d8c96251230672d37d015d02caa70032a670f706d33d8c2cc11a80d635ac332b", func := "loop.example/windowaggregates/laws.FnExactStacksValid", spec := "fnExactStacksValid", unfollowed := true, recurses := true, apart := false }
def FnExactStacksValidSaid : Prop := fnExactStacksValidRow.holds Tryz.pinned (OpenSpec.ofChange fnExactStacksValidSpec)

/-- ITS FALSE NEIGHBOUR: 'it returns false'. Refute it at one input. -/
def fnExactStacksValidWrong : ChangeSpec := { name := "fnExactStacksValid", fn := fun _ => fun
  | [d1, d2] => { results := [.lit (.bool false)], args := [d1, d2] }
  | _ => none }
def FnExactStacksValidWrongFalsely : Prop := fnExactStacksValidRow.holds Tryz.pinned (OpenSpec.ofChange fnExactStacksValidWrong)

/- THE SECOND FORM. 'bulk': how many values and letters a reading holds, each counted each time it is reached (what is shared counts as often as it is met; a slice's spare places count too). A statement '..UptoSaid' is the law's where the arguments, and the package variables that the reading takes, are together of bulk at most 1048576: NARROWER than '..Said'. Prove '..Said' where nothing that the law and all that it calls make is longer than what came in: it says more and counts as full. Else prove '..UptoSaid'. A law counts once. -/
mutual
def uptoBulk {H : Type} : DataW H → Nat
  | .lit (.string bytes) => bytes.length + 1
  | .lit _ => 1
  | .nil => 1
  | .ptr d => uptoBulk d + 1
  | .slice elems spare => uptoBulkAll elems + uptoBulkAll spare + 1
  | .agg parts => uptoBulkAll parts + 1
  | .iface _ d => uptoBulk d + 1
  | .map entries => uptoBulkEntries entries + 1
  | .held _ => 1
def uptoBulkAll {H : Type} : List (DataW H) → Nat
  | [] => 0
  | d :: r => uptoBulk d + uptoBulkAll r
def uptoBulkEntries {H : Type} : List (Lit × DataW H) → Nat
  | [] => 0
  | x :: r => uptoBulkEntry x + uptoBulkEntries r
def uptoBulkEntry {H : Type} : Lit × DataW H → Nat
  | (.string bytes, d) => bytes.length + uptoBulk d + 1
  | (_, d) => uptoBulk d + 1
 end
def uptoSmall : (H : Type) → List (DataW H) → Bool := fun _ ds => decide (uptoBulkAll ds ≤ 1048576)
def OpenSpec.upto (s : _root_.Go.ChangeSpec) : _root_.Go.OpenSpec := { _root_.Go.OpenSpec.ofChange s with cond := some uptoSmall }

/-- 'laws.FnExactQueriesOf', WHERE WHAT IT READS IS OF BULK AT MOST 1048576: true; the input reads as it did. -/
def fnExactQueriesOfUptoRow : OpenClaim := { program := "ytionbdjcpfbejaagreat", sum := "d8c96251230672d37d015d02caa70032a670f706d33d8c2cc11a80d635ac332b", func := "loop.example/windowaggregates/laws.FnExactQueriesOf", spec := "fnExactQueriesOf", unfollowed := true, recurses := true, apart := false, narrowed := true }
def FnExactQueriesOfUptoSaid : Prop := fnExactQueriesOfUptoRow.holds Tryz.pinned (OpenSpec.upto fnExactQueriesOfSpec)

/-- 'laws.FnExactStacksStep', WHERE WHAT IT READS IS OF BULK AT MOST 1048576: true; the input reads as it did. -/
def fnExactStacksStepUptoRow : OpenClaim := { program := "ytionbdjcpfbejaagreat", sum := "d8c96251230672d37d015d02caa70032a670f706d33d8c2cc11a80d635ac332b", func := "loop.example/windowaggregates/laws.FnExactStacksStep", spec := "fnExactStacksStep", unfollowed := true, recurses := true, apart := false, narrowed := true }
def FnExactStacksStepUptoSaid : Prop := fnExactStacksStepUptoRow.holds Tryz.pinned (OpenSpec.upto fnExactStacksStepSpec)

/-- 'laws.FnExactStacksValue', WHERE WHAT IT READS IS OF BULK AT MOST 1048576: true; the input reads as it did. -/
def fnExactStacksValueUptoRow : OpenClaim := { program := "ytionbdjcpfbejaagreat", sum := "d8c96251230672d37d015d02caa70032a670f706d33d8c2cc11a80d635ac332b", func := "loop.example/windowaggregates/laws.FnExactStacksValue", spec := "fnExactStacksValue", unfollowed := true, recurses := true, apart := false, narrowed := true }
def FnExactStacksValueUptoSaid : Prop := fnExactStacksValueUptoRow.holds Tryz.pinned (OpenSpec.upto fnExactStacksValueSpec)

/-- 'laws.FnExactStacksRun', WHERE WHAT IT READS IS OF BULK AT MOST 1048576: true; the input reads as it did. -/
def fnExactStacksRunUptoRow : OpenClaim := { program := "ytionbdjcpfbejaagreat", sum := "d8c96251230672d37d015d02caa70032a670f706d33d8c2cc11a80d635ac332b", func := "loop.example/windowaggregates/laws.FnExactStacksRun", spec := "fnExactStacksRun", unfollowed := true, recurses := true, apart := false, narrowed := true }
def FnExactStacksRunUptoSaid : Prop := fnExactStacksRunUptoRow.holds Tryz.pinned (OpenSpec.upto fnExactStacksRunSpec)

/-- 'laws.FnExactStacksValid', WHERE WHAT IT READS IS OF BULK AT MOST 1048576: true; the input reads as it did. -/
def fnExactStacksValidUptoRow : OpenClaim := { program := "ytionbdjcpfbejaagreat", sum := "d8c96251230672d37d015d02caa70032a670f706d33d8c2cc11a80d635ac332b", func := "loop.example/windowaggregates/laws.FnExactStacksValid", spec := "fnExactStacksValid", unfollowed := true, recurses := true, apart := false, narrowed := true }
def FnExactStacksValidUptoSaid : Prop := fnExactStacksValidUptoRow.holds Tryz.pinned (OpenSpec.upto fnExactStacksValidSpec)

end Rows
end Go.Proofs.YtionbdjcpfbejaaGreat
