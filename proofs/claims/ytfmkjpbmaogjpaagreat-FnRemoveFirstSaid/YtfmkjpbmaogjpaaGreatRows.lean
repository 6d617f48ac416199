/-
  No cell of these rows narrows 'for every input' (looked for: loops, veiled, ifaces, maps, wideKeys, modest, calm, conditions, laid).
  DERIVED. THE GIVEN ROWS OF THIS SEAT. 12 by the template 'for every input the law returns true; each argument reads behind the call as it read before'; 0 by the template 'total and deterministic' (their statements: YtfmkjpbmaogjpaaGreatTotals.lean).
  GIVEN WITH THE SEED: the statements are not yours to turn. If you find one false, say at which input.
  Laid BY PROGRAM, IN A SANDBOX (cutbox-rows.mjs): the forced cells as the released guide's own fill.sh prints them over the translation d94d078cd8841b29… (all of the seat's roots in one cut). By AI agents, Wed Nov 11 2026. No macro, syntax, notation, axiom, sorry.
-/
import Derived.Test.YtfmkjpbmaogjpaaGreatChecked
import GoSem.Claim
import GoSem.ClaimJoined
import GoSem.ClaimMapViews
import Derived.JoinedTies
import Derived.KernelRfl
namespace Go.Proofs.YtfmkjpbmaogjpaaGreat
/- THE CELL 'sum', in the pinned program and in every row, IS THE sha256 OF THE DUMP (.gsa) THAT YtfmkjpbmaogjpaaGreatProg.lean LOADS. Nothing in Lean hashes anything: it is a label: what it is worth is what the hold of that sum in a sandbox is worth. -/
noncomputable def Tryz.pinned : Pinned := { name := "ytfmkjpbmaogjpaagreat", sum := "d94d078cd8841b294577b7a02295495d5db5a2adabefb38396b36cbacfe550d4", checked := Tryz.checked }
namespace Rows
def none {H : Type} : Left H := { results := [], args := [] }

/-- 'laws.FnRemoveFirst': WHATEVER THE INPUT: true; the input reads as it did. -/
def fnRemoveFirstSpec : ChangeSpec := { name := "fnRemoveFirst", fn := fun _ => fun
  | [d] => { results := [.lit (.bool true)], args := [d] }
  | _ => none }
def fnRemoveFirstRow : OpenClaim := { program := "ytfmkjpbmaogjpaagreat", sum := "d94d078cd8841b294577b7a02295495d5db5a2adabefb38396b36cbacfe550d4", func := "loop.example/windowaggregates/laws.FnRemoveFirst", spec := "fnRemoveFirst", unfollowed := true, recurses := true, apart := false }
def FnRemoveFirstSaid : Prop := fnRemoveFirstRow.holds Tryz.pinned (OpenSpec.ofChange fnRemoveFirstSpec)

/-- ITS FALSE NEIGHBOUR: 'it returns false'. Refute it at one input. -/
def fnRemoveFirstWrong : ChangeSpec := { name := "fnRemoveFirst", fn := fun _ => fun
  | [d] => { results := [.lit (.bool false)], args := [d] }
  | _ => none }
def FnRemoveFirstWrongFalsely : Prop := fnRemoveFirstRow.holds Tryz.pinned (OpenSpec.ofChange fnRemoveFirstWrong)

/-- 'laws.FnQueriesOf': WHATEVER THE INPUT: true; the input reads as it did. -/
def fnQueriesOfSpec : ChangeSpec := { name := "fnQueriesOf", fn := fun _ => fun
  | [d] => { results := [.lit (.bool true)], args := [d] }
  | _ => none }
def fnQueriesOfRow : OpenClaim := { program := "ytfmkjpbmaogjpaagreat", sum := "d94d078cd8841b294577b7a02295495d5db5a2adabefb38396b36cbacfe550d4", func := "loop.example/windowaggregates/laws.FnQueriesOf", spec := "fnQueriesOf", unfollowed := true, recurses := true, apart := false }
def FnQueriesOfSaid : Prop := fnQueriesOfRow.holds Tryz.pinned (OpenSpec.ofChange fnQueriesOfSpec)

/-- ITS FALSE NEIGHBOUR: 'it returns false'. Refute it at one input. -/
def fnQueriesOfWrong : ChangeSpec := { name := "fnQueriesOf", fn := fun _ => fun
  | [d] => { results := [.lit (.bool false)], args := [d] }
  | _ => none }
def FnQueriesOfWrongFalsely : Prop := fnQueriesOfRow.holds Tryz.pinned (OpenSpec.ofChange fnQueriesOfWrong)

/-- 'laws.FnQueriesPrefix': WHATEVER THE INPUT: true; the input reads as it did. -/
def fnQueriesPrefixSpec : ChangeSpec := { name := "fnQueriesPrefix", fn := fun _ => fun
  | [d1, d2] => { results := [.lit (.bool true)], args := [d1, d2] }
  | _ => none }
def fnQueriesPrefixRow : OpenClaim := { program := "ytfmkjpbmaogjpaagreat", sum := "d94d078cd8841b294577b7a02295495d5db5a2adabefb38396b36cbacfe550d4", func := "loop.example/windowaggregates/laws.FnQueriesPrefix", spec := "fnQueriesPrefix", unfollowed := true, recurses := true, apart := false }
def FnQueriesPrefixSaid : Prop := fnQueriesPrefixRow.holds Tryz.pinned (OpenSpec.ofChange fnQueriesPrefixSpec)

/-- ITS FALSE NEIGHBOUR: 'it returns false'. Refute it at one input. -/
def fnQueriesPrefixWrong : ChangeSpec := { name := "fnQueriesPrefix", fn := fun _ => fun
  | [d1, d2] => { results := [.lit (.bool false)], args := [d1, d2] }
  | _ => none }
def FnQueriesPrefixWrongFalsely : Prop := fnQueriesPrefixRow.holds Tryz.pinned (OpenSpec.ofChange fnQueriesPrefixWrong)

/-- 'laws.FnWindowCount': WHATEVER THE INPUT: true; the input reads as it did. -/
def fnWindowCountSpec : ChangeSpec := { name := "fnWindowCount", fn := fun _ => fun
  | [d] => { results := [.lit (.bool true)], args := [d] }
  | _ => none }
def fnWindowCountRow : OpenClaim := { program := "ytfmkjpbmaogjpaagreat", sum := "d94d078cd8841b294577b7a02295495d5db5a2adabefb38396b36cbacfe550d4", func := "loop.example/windowaggregates/laws.FnWindowCount", spec := "fnWindowCount", unfollowed := true, recurses := true, apart := false }
def FnWindowCountSaid : Prop := fnWindowCountRow.holds Tryz.pinned (OpenSpec.ofChange fnWindowCountSpec)

/-- ITS FALSE NEIGHBOUR: 'it returns false'. Refute it at one input. -/
def fnWindowCountWrong : ChangeSpec := { name := "fnWindowCount", fn := fun _ => fun
  | [d] => { results := [.lit (.bool false)], args := [d] }
  | _ => none }
def FnWindowCountWrongFalsely : Prop := fnWindowCountRow.holds Tryz.pinned (OpenSpec.ofChange fnWindowCountWrong)

/-- 'laws.FnSlideQueries': WHATEVER THE INPUT: true; the input reads as it did. -/
def fnSlideQueriesSpec : ChangeSpec := { name := "fnSlideQueries", fn := fun _ => fun
  | [d] => { results := [.lit (.bool true)], args := [d] }
  | _ => none }
def fnSlideQueriesRow : OpenClaim := { program := "ytfmkjpbmaogjpaagreat", sum := "d94d078cd8841b294577b7a02295495d5db5a2adabefb38396b36cbacfe550d4", func := "loop.example/windowaggregates/laws.FnSlideQueries", spec := "fnSlideQueries", unfollowed := true, recurses := true, apart := false }
def FnSlideQueriesSaid : Prop := fnSlideQueriesRow.holds Tryz.pinned (OpenSpec.ofChange fnSlideQueriesSpec)

/-- ITS FALSE NEIGHBOUR: 'it returns false'. Refute it at one input. -/
def fnSlideQueriesWrong : ChangeSpec := { name := "fnSlideQueries", fn := fun _ => fun
  | [d] => { results := [.lit (.bool false)], args := [d] }
  | _ => none }
def FnSlideQueriesWrongFalsely : Prop := fnSlideQueriesRow.holds Tryz.pinned (OpenSpec.ofChange fnSlideQueriesWrong)

/-- 'laws.FnSlideNumbers': WHATEVER THE INPUT: true; the input reads as it did. -/
def fnSlideNumbersSpec : ChangeSpec := { name := "fnSlideNumbers", fn := fun _ => fun
  | [d] => { results := [.lit (.bool true)], args := [d] }
  | _ => none }
def fnSlideNumbersRow : OpenClaim := { program := "ytfmkjpbmaogjpaagreat", sum := "d94d078cd8841b294577b7a02295495d5db5a2adabefb38396b36cbacfe550d4", func := "loop.example/windowaggregates/laws.FnSlideNumbers", spec := "fnSlideNumbers", unfollowed := true, recurses := true, apart := false }
def FnSlideNumbersSaid : Prop := fnSlideNumbersRow.holds Tryz.pinned (OpenSpec.ofChange fnSlideNumbersSpec)

/-- ITS FALSE NEIGHBOUR: 'it returns false'. Refute it at one input. -/
def fnSlideNumbersWrong : ChangeSpec := { name := "fnSlideNumbers", fn := fun _ => fun
  | [d] => { results := [.lit (.bool false)], args := [d] }
  | _ => none }
def FnSlideNumbersWrongFalsely : Prop := fnSlideNumbersRow.holds Tryz.pinned (OpenSpec.ofChange fnSlideNumbersWrong)

/-- 'laws.FnSlideOne': WHATEVER THE INPUT: true; the input reads as it did. -/
def fnSlideOneSpec : ChangeSpec := { name := "fnSlideOne", fn := fun _ => fun
  | [d] => { results := [.lit (.bool true)], args := [d] }
  | _ => none }
def fnSlideOneRow : OpenClaim := { program := "ytfmkjpbmaogjpaagreat", sum := "d94d078cd8841b294577b7a02295495d5db5a2adabefb38396b36cbacfe550d4", func := "loop.example/windowaggregates/laws.FnSlideOne", spec := "fnSlideOne", unfollowed := true, recurses := true, apart := false }
def FnSlideOneSaid : Prop := fnSlideOneRow.holds Tryz.pinned (OpenSpec.ofChange fnSlideOneSpec)

/-- ITS FALSE NEIGHBOUR: 'it returns false'. Refute it at one input. -/
def fnSlideOneWrong : ChangeSpec := { name := "fnSlideOne", fn := fun _ => fun
  | [d] => { results := [.lit (.bool false)], args := [d] }
  | _ => none }
def FnSlideOneWrongFalsely : Prop := fnSlideOneRow.holds Tryz.pinned (OpenSpec.ofChange fnSlideOneWrong)

/-- 'laws.FnExactQueriesOf': WHATEVER THE INPUT: true; the input reads as it did. -/
def fnExactQueriesOfSpec : ChangeSpec := { name := "fnExactQueriesOf", fn := fun _ => fun
  | [d1, d2] => { results := [.lit (.bool true)], args := [d1, d2] }
  | _ => none }
def fnExactQueriesOfRow : OpenClaim := { program := "ytfmkjpbmaogjpaagreat", sum := "d94d078cd8841b294577b7a02295495d5db5a2adabefb38396b36cbacfe550d4", func := "loop.example/windowaggregates/laws.FnExactQueriesOf", spec := "fnExactQueriesOf", unfollowed := true, recurses := true, apart := false }
def FnExactQueriesOfSaid : Prop := fnExactQueriesOfRow.holds Tryz.pinned (OpenSpec.ofChange fnExactQueriesOfSpec)

/-- ITS FALSE NEIGHBOUR: 'it returns false'. Refute it at one input. -/
def fnExactQueriesOfWrong : ChangeSpec := { name := "fnExactQueriesOf", fn := fun _ => fun
  | [d1, d2] => { results := [.lit (.bool false)], args := [d1, d2] }
  | _ => none }
def FnExactQueriesOfWrongFalsely : Prop := fnExactQueriesOfRow.holds Tryz.pinned (OpenSpec.ofChange fnExactQueriesOfWrong)

/-- 'laws.FnHopNumbers': WHATEVER THE INPUT: true; the input reads as it did. -/
def fnHopNumbersSpec : ChangeSpec := { name := "fnHopNumbers", fn := fun _ => fun
  | [d] => { results := [.lit (.bool true)], args := [d] }
  | _ => none }
def fnHopNumbersRow : OpenClaim := { program := "ytfmkjpbmaogjpaagreat", sum := "d94d078cd8841b294577b7a02295495d5db5a2adabefb38396b36cbacfe550d4", func := "loop.example/windowaggregates/laws.FnHopNumbers", spec := "fnHopNumbers", unfollowed := true, recurses := true, apart := false }
def FnHopNumbersSaid : Prop := fnHopNumbersRow.holds Tryz.pinned (OpenSpec.ofChange fnHopNumbersSpec)

/-- ITS FALSE NEIGHBOUR: 'it returns false'. Refute it at one input. -/
def fnHopNumbersWrong : ChangeSpec := { name := "fnHopNumbers", fn := fun _ => fun
  | [d] => { results := [.lit (.bool false)], args := [d] }
  | _ => none }
def FnHopNumbersWrongFalsely : Prop := fnHopNumbersRow.holds Tryz.pinned (OpenSpec.ofChange fnHopNumbersWrong)

/-- 'laws.FnPaneNumbers': WHATEVER THE INPUT: true; the input reads as it did. -/
def fnPaneNumbersSpec : ChangeSpec := { name := "fnPaneNumbers", fn := fun _ => fun
  | [d] => { results := [.lit (.bool true)], args := [d] }
  | _ => none }
def fnPaneNumbersRow : OpenClaim := { program := "ytfmkjpbmaogjpaagreat", sum := "d94d078cd8841b294577b7a02295495d5db5a2adabefb38396b36cbacfe550d4", func := "loop.example/windowaggregates/laws.FnPaneNumbers", spec := "fnPaneNumbers", unfollowed := true, recurses := true, apart := false }
def FnPaneNumbersSaid : Prop := fnPaneNumbersRow.holds Tryz.pinned (OpenSpec.ofChange fnPaneNumbersSpec)

/-- ITS FALSE NEIGHBOUR: 'it returns false'. Refute it at one input. -/
def fnPaneNumbersWrong : ChangeSpec := { name := "fnPaneNumbers", fn := fun _ => fun
  | [d] => { results := [.lit (.bool false)], args := [d] }
  | _ => none }
def FnPaneNumbersWrongFalsely : Prop := fnPaneNumbersRow.holds Tryz.pinned (OpenSpec.ofChange fnPaneNumbersWrong)

/-- 'laws.FnHopTumble': WHATEVER THE INPUT: true; the input reads as it did. -/
def fnHopTumbleSpec : ChangeSpec := { name := "fnHopTumble", fn := fun _ => fun
  | [d] => { results := [.lit (.bool true)], args := [d] }
  | _ => none }
def fnHopTumbleRow : OpenClaim := { program := "ytfmkjpbmaogjpaagreat", sum := "d94d078cd8841b294577b7a02295495d5db5a2adabefb38396b36cbacfe550d4", func := "loop.example/windowaggregates/laws.FnHopTumble", spec := "fnHopTumble", unfollowed := true, recurses := true, apart := false }
def FnHopTumbleSaid : Prop := fnHopTumbleRow.holds Tryz.pinned (OpenSpec.ofChange fnHopTumbleSpec)

/-- ITS FALSE NEIGHBOUR: 'it returns false'. Refute it at one input. -/
def fnHopTumbleWrong : ChangeSpec := { name := "fnHopTumble", fn := fun _ => fun
  | [d] => { results := [.lit (.bool false)], args := [d] }
  | _ => none }
def FnHopTumbleWrongFalsely : Prop := fnHopTumbleRow.holds Tryz.pinned (OpenSpec.ofChange fnHopTumbleWrong)

/-- 'laws.FnExactPaneNumbers': WHATEVER THE INPUT: true; the input reads as it did. -/
def fnExactPaneNumbersSpec : ChangeSpec := { name := "fnExactPaneNumbers", fn := fun _ => fun
  | [d1, d2, d3, d4] => { results := [.lit (.bool true)], args := [d1, d2, d3, d4] }
  | _ => none }
def fnExactPaneNumbersRow : OpenClaim := { program := "ytfmkjpbmaogjpaagreat", sum := "d94d078cd8841b294577b7a02295495d5db5a2adabefb38396b36cbacfe550d4", func := "loop.example/windowaggregates/laws.FnExactPaneNumbers", spec := "fnExactPaneNumbers", unfollowed := true, recurses := true, apart := false }
def FnExactPaneNumbersSaid : Prop := fnExactPaneNumbersRow.holds Tryz.pinned (OpenSpec.ofChange fnExactPaneNumbersSpec)

/-- ITS FALSE NEIGHBOUR: 'it returns false'. Refute it at one input. -/
def fnExactPaneNumbersWrong : ChangeSpec := { name := "fnExactPaneNumbers", fn := fun _ => fun
  | [d1, d2, d3, d4] => { results := [.lit (.bool false)], args := [d1, d2, d3, d4] }
  | _ => none }
def FnExactPaneNumbersWrongFalsely : Prop := fnExactPaneNumbersRow.holds Tryz.pinned (OpenSpec.ofChange fnExactPaneNumbersWrong)

/- THE SECOND FORM. 'bulk': how many values and letters a reading holds, each counted each time it is reached (what is shared counts as often as it is met; a slice's spare places count too). A statement '..UptoSaid' is the law's where the arguments, and the package variables that the reading takes, are together of bulk at most 1048576: NARROWER than '..Said'. Prove '..Said' where nothing that the law and all that it calls make is longer than what came in: it says more and counts as full. Else prove '..UptoSaid'. A law counts once. -/
mutual
def uptoBulk {H : Type} : DataW H → Nat
  | .lit (.string bytes) => bytes.length + 1
  | .lit _ => 1
  | .nil => 1
  | .ptr d => uptoBulk d + 1
  | .slice elems spare => uptoBulkAll elems + uptoBulkAll spare + 1
  | .agg parts => uptoBulkAll parts + 1
  | .iface _ d => uptoBulk d + 1
  | .map entries => uptoBulkEntries entries + 1
  | .held _ => 1
def uptoBulkAll {H : Type} : List (DataW H) → Nat
  | [] => 0
  | d :: r => uptoBulk d + uptoBulkAll r
def uptoBulkEntries {H : Type} : List (Lit × DataW H) → Nat
  | [] => 0
  | x :: r => uptoBulkEntry x + uptoBulkEntries r
def uptoBulkEntry {H : Type} : Lit × DataW H → Nat
  | (.string bytes, d) => bytes.length + uptoBulk d + 1
  | (_, d) => uptoBulk d + 1
 end
def uptoSmall : (H : Type) → List (DataW H) → Bool := fun _ ds => decide (uptoBulkAll ds ≤ 1048576)
def OpenSpec.upto (s : _root_.Go.ChangeSpec) : _root_.Go.OpenSpec := { _root_.Go.OpenSpec.ofChange s with cond := some uptoSmall }

/-- 'laws.FnRemoveFirst', WHERE WHAT IT READS IS OF BULK AT MOST 1048576: true; the input reads as it did. -/
def fnRemoveFirstUptoRow : OpenClaim := { program := "ytfmkjpbmaogjpaagreat", sum := "d94d078cd8841b294577b7a02295495d5db5a2adabefb38396b36cbacfe550d4", func := "loop.example/windowaggregates/laws.FnRemoveFirst", spec := "fnRemoveFirst", unfollowed := true, recurses := true, apart := false, narrowed := true }
def FnRemoveFirstUptoSaid : Prop := fnRemoveFirstUptoRow.holds Tryz.pinned (OpenSpec.upto fnRemoveFirstSpec)

/-- 'laws.FnQueriesOf', WHERE WHAT IT READS IS OF BULK AT MOST 1048576: true; the input reads as it did. -/
def fnQueriesOfUptoRow : OpenClaim := { program := "ytfmkjpbmaogjpaagreat", sum := "d94d078cd8841b294577b7a02295495d5db5a2adabefb38396b36cbacfe550d4", func := "loop.example/windowaggregates/laws.FnQueriesOf", spec := "fnQueriesOf", unfollowed := true, recurses := true, apart := false, narrowed := true }
def FnQueriesOfUptoSaid : Prop := fnQueriesOfUptoRow.holds Tryz.pinned (OpenSpec.upto fnQueriesOfSpec)

/-- 'laws.FnQueriesPrefix', WHERE WHAT IT READS IS OF BULK AT MOST 1048576: true; the input reads as it did. -/
def fnQueriesPrefixUptoRow : OpenClaim := { program := "ytfmkjpbmaogjpaagreat", sum := "d94d078cd8841b294577b7a02295495d5db5a2adabefb38396b36cbacfe550d4", func := "loop.example/windowaggregates/laws.FnQueriesPrefix", spec := "fnQueriesPrefix", unfollowed := true, recurses := true, apart := false, narrowed := true }
def FnQueriesPrefixUptoSaid : Prop := fnQueriesPrefixUptoRow.holds Tryz.pinned (OpenSpec.upto fnQueriesPrefixSpec)

/-- 'laws.FnWindowCount', WHERE WHAT IT READS IS OF BULK AT MOST 1048576: true; the input reads as it did. -/
def fnWindowCountUptoRow : OpenClaim := { program := "ytfmkjpbmaogjpaagreat", sum := "d94d078cd8841b294577b7a02295495d5db5a2adabefb38396b36cbacfe550d4", func := "loop.example/windowaggregates/laws.FnWindowCount", spec := "fnWindowCount", unfollowed := true, recurses := true, apart := false, narrowed := true }
def FnWindowCountUptoSaid : Prop := fnWindowCountUptoRow.holds Tryz.pinned (OpenSpec.upto fnWindowCountSpec)

/-- 'laws.FnSlideQueries', WHERE WHAT IT READS IS OF BULK AT MOST 1048576: true; the input reads as it did. -/
def fnSlideQueriesUptoRow : OpenClaim := { program := "ytfmkjpbmaogjpaagreat", sum := "d94d078cd8841b294577b7a02295495d5db5a2adabefb38396b36cbacfe550d4", func := "loop.example/windowaggregates/laws.FnSlideQueries", spec := "fnSlideQueries", unfollowed := true, recurses := true, apart := false, narrowed := true }
def FnSlideQueriesUptoSaid : Prop := fnSlideQueriesUptoRow.holds Tryz.pinned (OpenSpec.upto fnSlideQueriesSpec)

/-- 'laws.FnSlideNumbers', WHERE WHAT IT READS IS OF BULK AT MOST 1048576: true; the input reads as it did. -/
def fnSlideNumbersUptoRow : OpenClaim := { program := "ytfmkjpbmaogjpaagreat", sum := "d94d078cd8841b294577b7a02295495d5db5a2adabefb38396b36cbacfe550d4", func := "loop.example/windowaggregates/laws.FnSlideNumbers", spec := "fnSlideNumbers", unfollowed := true, recurses := true, apart := false, narrowed := true }
def FnSlideNumbersUptoSaid : Prop := fnSlideNumbersUptoRow.holds Tryz.pinned (OpenSpec.upto fnSlideNumbersSpec)

/-- 'laws.FnSlideOne', WHERE WHAT IT READS IS OF BULK AT MOST 1048576: true; the input reads as it did. -/
def fnSlideOneUptoRow : OpenClaim := { program := "ytfmkjpbmaogjpaagreat", sum := "d94d078cd8841b294577b7a02295495d5db5a2adabefb38396b36cbacfe550d4", func := "loop.example/windowaggregates/laws.FnSlideOne", spec := "fnSlideOne", unfollowed := true, recurses := true, apart := false, narrowed := true }
def FnSlideOneUptoSaid : Prop := fnSlideOneUptoRow.holds Tryz.pinned (OpenSpec.upto fnSlideOneSpec)

/-- 'laws.FnExactQueriesOf', WHERE WHAT IT READS IS OF BULK AT MOST 1048576: true; the input reads as it did. -/
def fnExactQueriesOfUptoRow : OpenClaim := { program := "ytfmkjpbmaogjpaagreat", sum := "d94d078cd8841b294577b7a02295495d5db5a2adabefb38396b36cbacfe550d4", func := "loop.example/windowaggregates/laws.FnExactQueriesOf", spec := "fnExactQueriesOf", unfollowed := true, recurses := true, apart := false, narrowed := true }
def FnExactQueriesOfUptoSaid : Prop := fnExactQueriesOfUptoRow.holds Tryz.pinned (OpenSpec.upto fnExactQueriesOfSpec)

/-- 'laws.FnHopNumbers', WHERE WHAT IT READS IS OF BULK AT MOST 1048576: true; the input reads as it did. -/
def fnHopNumbersUptoRow : OpenClaim := { program := "ytfmkjpbmaogjpaagreat", sum := "d94d078cd8841b294577b7a02295495d5db5a2adabefb38396b36cbacfe550d4", func := "loop.example/windowaggregates/laws.FnHopNumbers", spec := "fnHopNumbers", unfollowed := true, recurses := true, apart := false, narrowed := true }
def FnHopNumbersUptoSaid : Prop := fnHopNumbersUptoRow.holds Tryz.pinned (OpenSpec.upto fnHopNumbersSpec)

/-- 'laws.FnPaneNumbers', WHERE WHAT IT READS IS OF BULK AT MOST 1048576: true; the input reads as it did. -/
def fnPaneNumbersUptoRow : OpenClaim := { program := "ytfmkjpbmaogjpaagreat", sum := "d94d078cd8841b294577b7a02295495d5db5a2adabefb38396b36cbacfe550d4", func := "loop.example/windowaggregates/laws.FnPaneNumbers", spec := "fnPaneNumbers", unfollowed := true, recurses := true, apart := false, narrowed := true }
def FnPaneNumbersUptoSaid : Prop := fnPaneNumbersUptoRow.holds Tryz.pinned (OpenSpec.upto fnPaneNumbersSpec)

/-- 'laws.FnHopTumble', WHERE WHAT IT READS IS OF BULK AT MOST 1048576: true; the input reads as it did. -/
def fnHopTumbleUptoRow : OpenClaim := { program := "ytfmkjpbmaogjpaagreat", sum := "d94d078cd8841b294577b7a02295495d5db5a2adabefb38396b36cbacfe550d4", func := "loop.example/windowaggregates/laws.FnHopTumble", spec := "fnHopTumble", unfollowed := true, recurses := true, apart := false, narrowed := true }
def FnHopTumbleUptoSaid : Prop := fnHopTumbleUptoRow.holds Tryz.pinned (OpenSpec.upto fnHopTumbleSpec)

/-- 'laws.FnExactPaneNumbers', WHERE WHAT IT READS IS OF BULK AT MOST 1048576: true; the input reads as it did. -/
def fnExactPaneNumbersUptoRow : OpenClaim := { program := "ytfmkjpbmaogjpaagreat", sum := "d94d078cd8841b294577b7a02295495d5db5a2adabefb38396b36cbacfe550d4", func := "loop.example/windowaggregates/laws.FnExactPaneNumbers", spec := "fnExactPaneNumbers", unfollowed := true, recurses := true, apart := false, narrowed := true }
def FnExactPaneNumbersUptoSaid : Prop := fnExactPaneNumbersUptoRow.holds Tryz.pinned (OpenSpec.upto fnExactPaneNumbersSpec)

end Rows
end Go.Proofs.YtfmkjpbmaogjpaaGreat
