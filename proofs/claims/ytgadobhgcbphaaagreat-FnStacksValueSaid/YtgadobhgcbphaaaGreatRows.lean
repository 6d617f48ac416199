/-
  No cell of these rows narrows 'for every input' (looked for: loops, veiled, ifaces, maps, wideKeys, modest, calm, conditions, laid).
  DERIVED. THE GIVEN ROWS OF THIS SEAT. 10 by the template 'for every input the law returns true; each argument reads behind the call as it read before'; 0 by the template 'total and deterministic' (their statements: YtgadobhgcbphaaaGreatTotals.lean).
  GIVEN WITH THE SEED: the statements are not yours to turn. If you find one false, say at which input.
  Laid BY PROGRAM, IN A SANDBOX (cutbox-rows.mjs): the forced cells as the released guide's own fill.sh prints them over the translation c246e8a031472a3a… (all of the seat's roots in one cut). By AI agents, Wed Nov 11 2026. No macro, syntax, notation, axiom, sorry.
-/
import Derived.Test.YtgadobhgcbphaaaGreatChecked
import GoSem.Claim
import GoSem.ClaimJoined
import GoSem.ClaimMapViews
import Derived.JoinedTies
import Derived.KernelRfl
namespace Go.Proofs.YtgadobhgcbphaaaGreat
/- THE CELL 'sum', in the pinned program and in every row, IS THE sha256 OF THE DUMP (.gsa) THAT YtgadobhgcbphaaaGreatProg.lean LOADS. Nothing in Lean hashes anything: it is a label: what it is worth is what the hold of that sum in a sandbox is worth. -/
noncomputable def Tryz.pinned : Pinned := { name := "ytgadobhgcbphaaagreat", sum := "c246e8a031472a3a6c17286adf82af921766451935e177fe95f3a758865eb980", checked := Tryz.checked }
namespace Rows
def none {H : Type} : Left H := { results := [], args := [] }

/-- 'laws.FnQueriesOf': WHATEVER THE INPUT: true; the input reads as it did. -/
def fnQueriesOfSpec : ChangeSpec := { name := "fnQueriesOf", fn := fun _ => fun
  | [d] => { results := [.lit (.bool true)], args := [d] }
  | _ => none }
def fnQueriesOfRow : OpenClaim := { program := "ytgadobhgcbphaaagreat", sum := "c246e8a031472a3a6c17286adf82af921766451935e177fe95f3a758865eb980", func := "loop.example/windowaggregates/laws.FnQueriesOf", spec := "fnQueriesOf", unfollowed := true, recurses := true, apart := false }
def FnQueriesOfSaid : Prop := fnQueriesOfRow.holds Tryz.pinned (OpenSpec.ofChange fnQueriesOfSpec)

/-- ITS FALSE NEIGHBOUR: 'it returns false'. Refute it at one input. -/
def fnQueriesOfWrong : ChangeSpec := { name := "fnQueriesOf", fn := fun _ => fun
  | [d] => { results := [.lit (.bool false)], args := [d] }
  | _ => none }
def FnQueriesOfWrongFalsely : Prop := fnQueriesOfRow.holds Tryz.pinned (OpenSpec.ofChange fnQueriesOfWrong)

/-- 'laws.FnQueriesPrefix': WHATEVER THE INPUT: true; the input reads as it did. -/
def fnQueriesPrefixSpec : ChangeSpec := { name := "fnQueriesPrefix", fn := fun _ => fun
  | [d1, d2] => { results := [.lit (.bool true)], args := [d1, d2] }
  | _ => none }
def fnQueriesPrefixRow : OpenClaim := { program := "ytgadobhgcbphaaagreat", sum := "c246e8a031472a3a6c17286adf82af921766451935e177fe95f3a758865eb980", func := "loop.example/windowaggregates/laws.FnQueriesPrefix", spec := "fnQueriesPrefix", unfollowed := true, recurses := true, apart := false }
def FnQueriesPrefixSaid : Prop := fnQueriesPrefixRow.holds Tryz.pinned (OpenSpec.ofChange fnQueriesPrefixSpec)

/-- ITS FALSE NEIGHBOUR: 'it returns false'. Refute it at one input. -/
def fnQueriesPrefixWrong : ChangeSpec := { name := "fnQueriesPrefix", fn := fun _ => fun
  | [d1, d2] => { results := [.lit (.bool false)], args := [d1, d2] }
  | _ => none }
def FnQueriesPrefixWrongFalsely : Prop := fnQueriesPrefixRow.holds Tryz.pinned (OpenSpec.ofChange fnQueriesPrefixWrong)

/-- 'laws.FnWindowCount': WHATEVER THE INPUT: true; the input reads as it did. -/
def fnWindowCountSpec : ChangeSpec := { name := "fnWindowCount", fn := fun _ => fun
  | [d] => { results := [.lit (.bool true)], args := [d] }
  | _ => none }
def fnWindowCountRow : OpenClaim := { program := "ytgadobhgcbphaaagreat", sum := "c246e8a031472a3a6c17286adf82af921766451935e177fe95f3a758865eb980", func := "loop.example/windowaggregates/laws.FnWindowCount", spec := "fnWindowCount", unfollowed := true, recurses := true, apart := false }
def FnWindowCountSaid : Prop := fnWindowCountRow.holds Tryz.pinned (OpenSpec.ofChange fnWindowCountSpec)

/-- ITS FALSE NEIGHBOUR: 'it returns false'. Refute it at one input. -/
def fnWindowCountWrong : ChangeSpec := { name := "fnWindowCount", fn := fun _ => fun
  | [d] => { results := [.lit (.bool false)], args := [d] }
  | _ => none }
def FnWindowCountWrongFalsely : Prop := fnWindowCountRow.holds Tryz.pinned (OpenSpec.ofChange fnWindowCountWrong)

/-- 'laws.FnSlideQueries': WHATEVER THE INPUT: true; the input reads as it did. -/
def fnSlideQueriesSpec : ChangeSpec := { name := "fnSlideQueries", fn := fun _ => fun
  | [d] => { results := [.lit (.bool true)], args := [d] }
  | _ => none }
def fnSlideQueriesRow : OpenClaim := { program := "ytgadobhgcbphaaagreat", sum := "c246e8a031472a3a6c17286adf82af921766451935e177fe95f3a758865eb980", func := "loop.example/windowaggregates/laws.FnSlideQueries", spec := "fnSlideQueries", unfollowed := true, recurses := true, apart := false }
def FnSlideQueriesSaid : Prop := fnSlideQueriesRow.holds Tryz.pinned (OpenSpec.ofChange fnSlideQueriesSpec)

/-- ITS FALSE NEIGHBOUR: 'it returns false'. Refute it at one input. -/
def fnSlideQueriesWrong : ChangeSpec := { name := "fnSlideQueries", fn := fun _ => fun
  | [d] => { results := [.lit (.bool false)], args := [d] }
  | _ => none }
def FnSlideQueriesWrongFalsely : Prop := fnSlideQueriesRow.holds Tryz.pinned (OpenSpec.ofChange fnSlideQueriesWrong)

/-- 'laws.FnSlideNumbers': WHATEVER THE INPUT: true; the input reads as it did. -/
def fnSlideNumbersSpec : ChangeSpec := { name := "fnSlideNumbers", fn := fun _ => fun
  | [d] => { results := [.lit (.bool true)], args := [d] }
  | _ => none }
def fnSlideNumbersRow : OpenClaim := { program := "ytgadobhgcbphaaagreat", sum := "c246e8a031472a3a6c17286adf82af921766451935e177fe95f3a758865eb980", func := "loop.example/windowaggregates/laws.FnSlideNumbers", spec := "fnSlideNumbers", unfollowed := true, recurses := true, apart := false }
def FnSlideNumbersSaid : Prop := fnSlideNumbersRow.holds Tryz.pinned (OpenSpec.ofChange fnSlideNumbersSpec)

/-- ITS FALSE NEIGHBOUR: 'it returns false'. Refute it at one input. -/
def fnSlideNumbersWrong : ChangeSpec := { name := "fnSlideNumbers", fn := fun _ => fun
  | [d] => { results := [.lit (.bool false)], args := [d] }
  | _ => none }
def FnSlideNumbersWrongFalsely : Prop := fnSlideNumbersRow.holds Tryz.pinned (OpenSpec.ofChange fnSlideNumbersWrong)

/-- 'laws.FnSlideOne': WHATEVER THE INPUT: true; the input reads as it did. -/
def fnSlideOneSpec : ChangeSpec := { name := "fnSlideOne", fn := fun _ => fun
  | [d] => { results := [.lit (.bool true)], args := [d] }
  | _ => none }
def fnSlideOneRow : OpenClaim := { program := "ytgadobhgcbphaaagreat", sum := "c246e8a031472a3a6c17286adf82af921766451935e177fe95f3a758865eb980", func := "loop.example/windowaggregates/laws.FnSlideOne", spec := "fnSlideOne", unfollowed := true, recurses := true, apart := false }
def FnSlideOneSaid : Prop := fnSlideOneRow.holds Tryz.pinned (OpenSpec.ofChange fnSlideOneSpec)

/-- ITS FALSE NEIGHBOUR: 'it returns false'. Refute it at one input. -/
def fnSlideOneWrong : ChangeSpec := { name := "fnSlideOne", fn := fun _ => fun
  | [d] => { results := [.lit (.bool false)], args := [d] }
  | _ => none }
def FnSlideOneWrongFalsely : Prop := fnSlideOneRow.holds Tryz.pinned (OpenSpec.ofChange fnSlideOneWrong)

/-- 'laws.FnStacksValue': WHATEVER THE INPUT: true; the input reads as it did. -/
def fnStacksValueSpec : ChangeSpec := { name := "fnStacksValue", fn := fun _ => fun
  | [d] => { results := [.lit (.bool true)], args := [d] }
  | _ => none }
def fnStacksValueRow : OpenClaim := { program := "ytgadobhgcbphaaagreat", sum := "c246e8a031472a3a6c17286adf82af921766451935e177fe95f3a758865eb980", func := "loop.example/windowaggregates/laws.FnStacksValue", spec := "fnStacksValue", unfollowed := true, recurses := true, apart := false }
def FnStacksValueSaid : Prop := fnStacksValueRow.holds Tryz.pinned (OpenSpec.ofChange fnStacksValueSpec)

/-- ITS FALSE NEIGHBOUR: 'it returns false'. Refute it at one input. -/
def fnStacksValueWrong : ChangeSpec := { name := "fnStacksValue", fn := fun _ => fun
  | [d] => { results := [.lit (.bool false)], args := [d] }
  | _ => none }
def FnStacksValueWrongFalsely : Prop := fnStacksValueRow.holds Tryz.pinned (OpenSpec.ofChange fnStacksValueWrong)

/-- 'laws.FnExactStacksStep': WHATEVER THE INPUT: true; the input reads as it did. -/
def fnExactStacksStepSpec : ChangeSpec := { name := "fnExactStacksStep", fn := fun _ => fun
  | [d1, d2, d3] => { results := [.lit (.bool true)], args := [d1, d2, d3] }
  | _ => none }
def fnExactStacksStepRow : OpenClaim := { program := "ytgadobhgcbphaaagreat", sum := "c246e8a031472a3a6c17286adf82af921766451935e177fe95f3a758865eb980", func := "loop.example/windowaggregates/laws.FnExactStacksStep", spec := "fnExactStacksStep", unfollowed := true, recurses := true, apart := false }
def FnExactStacksStepSaid : Prop := fnExactStacksStepRow.holds Tryz.pinned (OpenSpec.ofChange fnExactStacksStepSpec)

/-- ITS FALSE NEIGHBOUR: 'it returns false'. Refute it at one input. -/
def fnExactStacksStepWrong : ChangeSpec := { name := "fnExactStacksStep", fn := fun _ => fun
  | [d1, d2, d3] => { results := [.lit (.bool false)], args := [d1, d2, d3] }
  | _ => none }
def FnExactStacksStepWrongFalsely : Prop := fnExactStacksStepRow.holds Tryz.pinned (OpenSpec.ofChange fnExactStacksStepWrong)

/-- 'laws.FnStacksPush': WHATEVER THE INPUT: true; the input reads as it did. -/
def fnStacksPushSpec : ChangeSpec := { name := "fnStacksPush", fn := fun _ => fun
  | [d] => { results := [.lit (.bool true)], args := [d] }
  | _ => none }
def fnStacksPushRow : OpenClaim := { program := "ytgadobhgcbphaaagreat", sum := "c246e8a031472a3a6c17286adf82af921766451935e177fe95f3a758865eb980", func := "loop.example/windowaggregates/laws.FnStacksPush", spec := "fnStacksPush", unfollowed := true, recurses := true, apart := false }
def FnStacksPushSaid : Prop := fnStacksPushRow.holds Tryz.pinned (OpenSpec.ofChange fnStacksPushSpec)

/-- ITS FALSE NEIGHBOUR: 'it returns false'. Refute it at one input. -/
def fnStacksPushWrong : ChangeSpec := { name := "fnStacksPush", fn := fun _ => fun
  | [d] => { results := [.lit (.bool false)], args := [d] }
  | _ => none }
def FnStacksPushWrongFalsely : Prop := fnStacksPushRow.holds Tryz.pinned (OpenSpec.ofChange fnStacksPushWrong)

/-- 'laws.FnStacksFlips': WHATEVER THE INPUT: true; the input reads as it did. -/
def fnStacksFlipsSpec : ChangeSpec := { name := "fnStacksFlips", fn := fun _ => fun
  | [d] => { results := [.lit (.bool true)], args := [d] }
  | _ => none }
def fnStacksFlipsRow : OpenClaim := { program := "ytgadobhgcbphaaagreat", sum := "c246e8a031472a3a6c17286adf82af921766451935e177fe95f3a758865eb980", func := "loop.example/windowaggregates/laws.FnStacksFlips", spec := "fnStacksFlips", unfollowed := true, recurses := true, apart := false }
def FnStacksFlipsSaid : Prop := fnStacksFlipsRow.holds Tryz.pinned (OpenSpec.ofChange fnStacksFlipsSpec)

/-- ITS FALSE NEIGHBOUR: 'it returns false'. Refute it at one input. -/
def fnStacksFlipsWrong : ChangeSpec := { name := "fnStacksFlips", fn := fun _ => fun
  | [d] => { results := [.lit (.bool false)], args := [d] }
  | _ => none }
def FnStacksFlipsWrongFalsely : Prop := fnStacksFlipsRow.holds Tryz.pinned (OpenSpec.ofChange fnStacksFlipsWrong)

/- THE SECOND FORM. 'bulk': how many values and letters a reading holds, each counted each time it is reached (what is shared counts as often as it is met; a slice's spare places count too). A statement '..UptoSaid' is the law's where the arguments, and the package variables that the reading takes, are together of bulk at most 1048576: NARROWER than '..Said'. Prove '..Said' where nothing that the law and all that it calls make is longer than what came in: it says more and counts as full. Else prove '..UptoSaid'. A law counts once. -/
mutual
def uptoBulk {H : Type} : DataW H → Nat
  | .lit (.string bytes) => bytes.length + 1
  | .lit _ => 1
  | .nil => 1
  | .ptr d => uptoBulk d + 1
  | .slice elems spare => uptoBulkAll elems + uptoBulkAll spare + 1
  | .agg parts => uptoBulkAll parts + 1
  | .iface _ d => uptoBulk d + 1
  | .map entries => uptoBulkEntries entries + 1
  | .held _ => 1
def uptoBulkAll {H : Type} : List (DataW H) → Nat
  | [] => 0
  | d :: r => uptoBulk d + uptoBulkAll r
def uptoBulkEntries {H : Type} : List (Lit × DataW H) → Nat
  | [] => 0
  | x :: r => uptoBulkEntry x + uptoBulkEntries r
def uptoBulkEntry {H : Type} : Lit × DataW H → Nat
  | (.string bytes, d) => bytes.length + uptoBulk d + 1
  | (_, d) => uptoBulk d + 1
 end
def uptoSmall : (H : Type) → List (DataW H) → Bool := fun _ ds => decide (uptoBulkAll ds ≤ 1048576)
def OpenSpec.upto (s : _root_.Go.ChangeSpec) : _root_.Go.OpenSpec := { _root_.Go.OpenSpec.ofChange s with cond := some uptoSmall }

/-- 'laws.FnQueriesOf', WHERE WHAT IT READS IS OF BULK AT MOST 1048576: true; the input reads as it did. -/
def fnQueriesOfUptoRow : OpenClaim := { program := "ytgadobhgcbphaaagreat", sum := "c246e8a031472a3a6c17286adf82af921766451935e177fe95f3a758865eb980", func := "loop.example/windowaggregates/laws.FnQueriesOf", spec := "fnQueriesOf", unfollowed := true, recurses := true, apart := false, narrowed := true }
def FnQueriesOfUptoSaid : Prop := fnQueriesOfUptoRow.holds Tryz.pinned (OpenSpec.upto fnQueriesOfSpec)

/-- 'laws.FnQueriesPrefix', WHERE WHAT IT READS IS OF BULK AT MOST 1048576: true; the input reads as it did. -/
def fnQueriesPrefixUptoRow : OpenClaim := { program := "ytgadobhgcbphaaagreat", sum := "c246e8a031472a3a6c17286adf82af921766451935e177fe95f3a758865eb980", func := "loop.example/windowaggregates/laws.FnQueriesPrefix", spec := "fnQueriesPrefix", unfollowed := true, recurses := true, apart := false, narrowed := true }
def FnQueriesPrefixUptoSaid : Prop := fnQueriesPrefixUptoRow.holds Tryz.pinned (OpenSpec.upto fnQueriesPrefixSpec)

/-- 'laws.FnWindowCount', WHERE WHAT IT READS IS OF BULK AT MOST 1048576: true; the input reads as it did. -/
def fnWindowCountUptoRow : OpenClaim := { program := "ytgadobhgcbphaaagreat", sum := "c246e8a031472a3a6c17286adf82af921766451935e177fe95f3a758865eb980", func := "loop.example/windowaggregates/laws.FnWindowCount", spec := "fnWindowCount", unfollowed := true, recurses := true, apart := false, narrowed := true }
def FnWindowCountUptoSaid : Prop := fnWindowCountUptoRow.holds Tryz.pinned (OpenSpec.upto fnWindowCountSpec)

/-- 'laws.FnSlideQueries', WHERE WHAT IT READS IS OF BULK AT MOST 1048576: true; the input reads as it did. -/
def fnSlideQueriesUptoRow : OpenClaim := { program := "ytgadobhgcbphaaagreat", sum := "c246e8a031472a3a6c17286adf82af921766451935e177fe95f3a758865eb980", func := "loop.example/windowaggregates/laws.FnSlideQueries", spec := "fnSlideQueries", unfollowed := true, recurses := true, apart := false, narrowed := true }
def FnSlideQueriesUptoSaid : Prop := fnSlideQueriesUptoRow.holds Tryz.pinned (OpenSpec.upto fnSlideQueriesSpec)

/-- 'laws.FnSlideNumbers', WHERE WHAT IT READS IS OF BULK AT MOST 1048576: true; the input reads as it did. -/
def fnSlideNumbersUptoRow : OpenClaim := { program := "ytgadobhgcbphaaagreat", sum := "c246e8a031472a3a6c17286adf82af921766451935e177fe95f3a758865eb980", func := "loop.example/windowaggregates/laws.FnSlideNumbers", spec := "fnSlideNumbers", unfollowed := true, recurses := true, apart := false, narrowed := true }
def FnSlideNumbersUptoSaid : Prop := fnSlideNumbersUptoRow.holds Tryz.pinned (OpenSpec.upto fnSlideNumbersSpec)

/-- 'laws.FnSlideOne', WHERE WHAT IT READS IS OF BULK AT MOST 1048576: true; the input reads as it did. -/
def fnSlideOneUptoRow : OpenClaim := { program := "ytgadobhgcbphaaagreat", sum := "c246e8a031472a3a6c17286adf82af921766451935e177fe95f3a758865eb980", func := "loop.example/windowaggregates/laws.FnSlideOne", spec := "fnSlideOne", unfollowed := true, recurses := true, apart := false, narrowed := true }
def FnSlideOneUptoSaid : Prop := fnSlideOneUptoRow.holds Tryz.pinned (OpenSpec.upto fnSlideOneSpec)

/-- 'laws.FnStacksValue', WHERE WHAT IT READS IS OF BULK AT MOST 1048576: true; the input reads as it did. -/
def fnStacksValueUptoRow : OpenClaim := { program := "ytgadobhgcbphaaagreat", sum := "c246e8a031472a3a6c17286adf82af921766451935e177fe95f3a758865eb980", func := "loop.example/windowaggregates/laws.FnStacksValue", spec := "fnStacksValue", unfollowed := true, recurses := true, apart := false, narrowed := true }
def FnStacksValueUptoSaid : Prop := fnStacksValueUptoRow.holds Tryz.pinned (OpenSpec.upto fnStacksValueSpec)

/-- 'laws.FnExactStacksStep', WHERE WHAT IT READS IS OF BULK AT MOST 1048576: true; the input reads as it did. -/
def fnExactStacksStepUptoRow : OpenClaim := { program := "ytgadobhgcbphaaagreat", sum := "c246e8a031472a3a6c17286adf82af921766451935e177fe95f3a758865eb980", func := "loop.example/windowaggregates/laws.FnExactStacksStep", spec := "fnExactStacksStep", unfollowed := true, recurses := true, apart := false, narrowed := true }
def FnExactStacksStepUptoSaid : Prop := fnExactStacksStepUptoRow.holds Tryz.pinned (OpenSpec.upto fnExactStacksStepSpec)

/-- 'laws.FnStacksPush', WHERE WHAT IT READS IS OF BULK AT MOST 1048576: true; the input reads as it did. -/
def fnStacksPushUptoRow : OpenClaim := { program := "ytgadobhgcbphaaagreat", sum := "c246e8a031472a3a6c17286adf82af921766451935e177fe95f3a758865eb980", func := "loop.example/windowaggregates/laws.FnStacksPush", spec := "fnStacksPush", unfollowed := true, recurses := true, apart := false, narrowed := true }
def FnStacksPushUptoSaid : Prop := fnStacksPushUptoRow.holds Tryz.pinned (OpenSpec.upto fnStacksPushSpec)

/-- 'laws.FnStacksFlips', WHERE WHAT IT READS IS OF BULK AT MOST 1048576: true; the input reads as it did. -/
def fnStacksFlipsUptoRow : OpenClaim := { program := "ytgadobhgcbphaaagreat", sum := "c246e8a031472a3a6c17286adf82af921766451935e177fe95f3a758865eb980", func := "loop.example/windowaggregates/laws.FnStacksFlips", spec := "fnStacksFlips", unfollowed := true, recurses := true, apart := false, narrowed := true }
def FnStacksFlipsUptoSaid : Prop := fnStacksFlipsUptoRow.holds Tryz.pinned (OpenSpec.upto fnStacksFlipsSpec)

end Rows
end Go.Proofs.YtgadobhgcbphaaaGreat
