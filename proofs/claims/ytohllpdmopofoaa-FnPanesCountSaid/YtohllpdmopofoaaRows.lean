/-
  No cell of these rows narrows 'for every input' (looked for: loops, veiled, ifaces, maps, wideKeys, modest, calm, conditions, laid).
  DERIVED. THE GIVEN ROWS OF THIS SEAT. 6 by the template 'for every input the law returns true; each argument reads behind the call as it read before'; 0 by the template 'total and deterministic' (their statements: YtohllpdmopofoaaTotals.lean).
  GIVEN WITH THE SEED: the statements are not yours to turn. If you find one false, say at which input.
  Laid BY PROGRAM, IN A SANDBOX (cutbox-rows.mjs): the forced cells as the released guide's own fill.sh prints them over the translation 1824a30e28b9d987… (all of the seat's roots in one cut). By AI agents, Wed Nov 11 2026. No macro, syntax, notation, axiom, sorry.
-/
import Derived.Test.YtohllpdmopofoaaChecked
import GoSem.Claim
import GoSem.ClaimJoined
import GoSem.ClaimMapViews
import Derived.JoinedTies
import Derived.KernelRfl
namespace Go.Proofs.Ytohllpdmopofoaa
/- THE CELL 'sum', in the pinned program and in every row, IS THE sha256 OF THE DUMP (.gsa) THAT YtohllpdmopofoaaProg.lean LOADS. Nothing in Lean hashes anything: it is a label: what it is worth is what the hold of that sum in a sandbox is worth. -/
noncomputable def Try.pinned : Pinned := { name := "ytohllpdmopofoaa", sum := "1824a30e28b9d9870be10b048a660408d69f0c863061181e34dea06b95a9ef13", checked := Try.checked }
namespace Rows
def none {H : Type} : Left H := { results := [], args := [] }

/-- 'laws.FnGcdOf': WHATEVER THE INPUT: true; the input reads as it did. -/
def fnGcdOfSpec : ChangeSpec := { name := "fnGcdOf", fn := fun _ => fun
  | [d] => { results := [.lit (.bool true)], args := [d] }
  | _ => none }
def fnGcdOfRow : OpenClaim := { program := "ytohllpdmopofoaa", sum := "1824a30e28b9d9870be10b048a660408d69f0c863061181e34dea06b95a9ef13", func := "loop.example/windowaggregates/laws.FnGcdOf", spec := "fnGcdOf", apart := false }
def FnGcdOfSaid : Prop := fnGcdOfRow.holds Try.pinned (OpenSpec.ofChange fnGcdOfSpec)

/-- ITS FALSE NEIGHBOUR: 'it returns false'. Refute it at one input. -/
def fnGcdOfWrong : ChangeSpec := { name := "fnGcdOf", fn := fun _ => fun
  | [d] => { results := [.lit (.bool false)], args := [d] }
  | _ => none }
def FnGcdOfWrongFalsely : Prop := fnGcdOfRow.holds Try.pinned (OpenSpec.ofChange fnGcdOfWrong)

/-- 'laws.FnGcdMultiple': WHATEVER THE INPUT: true; the input reads as it did. -/
def fnGcdMultipleSpec : ChangeSpec := { name := "fnGcdMultiple", fn := fun _ => fun
  | [d] => { results := [.lit (.bool true)], args := [d] }
  | _ => none }
def fnGcdMultipleRow : OpenClaim := { program := "ytohllpdmopofoaa", sum := "1824a30e28b9d9870be10b048a660408d69f0c863061181e34dea06b95a9ef13", func := "loop.example/windowaggregates/laws.FnGcdMultiple", spec := "fnGcdMultiple", apart := false }
def FnGcdMultipleSaid : Prop := fnGcdMultipleRow.holds Try.pinned (OpenSpec.ofChange fnGcdMultipleSpec)

/-- ITS FALSE NEIGHBOUR: 'it returns false'. Refute it at one input. -/
def fnGcdMultipleWrong : ChangeSpec := { name := "fnGcdMultiple", fn := fun _ => fun
  | [d] => { results := [.lit (.bool false)], args := [d] }
  | _ => none }
def FnGcdMultipleWrongFalsely : Prop := fnGcdMultipleRow.holds Try.pinned (OpenSpec.ofChange fnGcdMultipleWrong)

/-- 'laws.FnHopCount': WHATEVER THE INPUT: true; the input reads as it did. -/
def fnHopCountSpec : ChangeSpec := { name := "fnHopCount", fn := fun _ => fun
  | [d] => { results := [.lit (.bool true)], args := [d] }
  | _ => none }
def fnHopCountRow : OpenClaim := { program := "ytohllpdmopofoaa", sum := "1824a30e28b9d9870be10b048a660408d69f0c863061181e34dea06b95a9ef13", func := "loop.example/windowaggregates/laws.FnHopCount", spec := "fnHopCount", apart := false }
def FnHopCountSaid : Prop := fnHopCountRow.holds Try.pinned (OpenSpec.ofChange fnHopCountSpec)

/-- ITS FALSE NEIGHBOUR: 'it returns false'. Refute it at one input. -/
def fnHopCountWrong : ChangeSpec := { name := "fnHopCount", fn := fun _ => fun
  | [d] => { results := [.lit (.bool false)], args := [d] }
  | _ => none }
def FnHopCountWrongFalsely : Prop := fnHopCountRow.holds Try.pinned (OpenSpec.ofChange fnHopCountWrong)

/-- 'laws.FnPaneCosts': WHATEVER THE INPUT: true; the input reads as it did. -/
def fnPaneCostsSpec : ChangeSpec := { name := "fnPaneCosts", fn := fun _ => fun
  | [d] => { results := [.lit (.bool true)], args := [d] }
  | _ => none }
def fnPaneCostsRow : OpenClaim := { program := "ytohllpdmopofoaa", sum := "1824a30e28b9d9870be10b048a660408d69f0c863061181e34dea06b95a9ef13", func := "loop.example/windowaggregates/laws.FnPaneCosts", spec := "fnPaneCosts", apart := false }
def FnPaneCostsSaid : Prop := fnPaneCostsRow.holds Try.pinned (OpenSpec.ofChange fnPaneCostsSpec)

/-- ITS FALSE NEIGHBOUR: 'it returns false'. Refute it at one input. -/
def fnPaneCostsWrong : ChangeSpec := { name := "fnPaneCosts", fn := fun _ => fun
  | [d] => { results := [.lit (.bool false)], args := [d] }
  | _ => none }
def FnPaneCostsWrongFalsely : Prop := fnPaneCostsRow.holds Try.pinned (OpenSpec.ofChange fnPaneCostsWrong)

/-- 'laws.FnHopFewer': WHATEVER THE INPUT: true; the input reads as it did. -/
def fnHopFewerSpec : ChangeSpec := { name := "fnHopFewer", fn := fun _ => fun
  | [d] => { results := [.lit (.bool true)], args := [d] }
  | _ => none }
def fnHopFewerRow : OpenClaim := { program := "ytohllpdmopofoaa", sum := "1824a30e28b9d9870be10b048a660408d69f0c863061181e34dea06b95a9ef13", func := "loop.example/windowaggregates/laws.FnHopFewer", spec := "fnHopFewer", apart := false }
def FnHopFewerSaid : Prop := fnHopFewerRow.holds Try.pinned (OpenSpec.ofChange fnHopFewerSpec)

/-- ITS FALSE NEIGHBOUR: 'it returns false'. Refute it at one input. -/
def fnHopFewerWrong : ChangeSpec := { name := "fnHopFewer", fn := fun _ => fun
  | [d] => { results := [.lit (.bool false)], args := [d] }
  | _ => none }
def FnHopFewerWrongFalsely : Prop := fnHopFewerRow.holds Try.pinned (OpenSpec.ofChange fnHopFewerWrong)

/-- 'laws.FnPanesCount': WHATEVER THE INPUT: true; the input reads as it did. -/
def fnPanesCountSpec : ChangeSpec := { name := "fnPanesCount", fn := fun _ => fun
  | [d] => { results := [.lit (.bool true)], args := [d] }
  | _ => none }
def fnPanesCountRow : OpenClaim := { program := "ytohllpdmopofoaa", sum := "1824a30e28b9d9870be10b048a660408d69f0c863061181e34dea06b95a9ef13", func := "loop.example/windowaggregates/laws.FnPanesCount", spec := "fnPanesCount", unfollowed := true, recurses := true, apart := false }
def FnPanesCountSaid : Prop := fnPanesCountRow.holds Try.pinned (OpenSpec.ofChange fnPanesCountSpec)

/-- ITS FALSE NEIGHBOUR: 'it returns false'. Refute it at one input. -/
def fnPanesCountWrong : ChangeSpec := { name := "fnPanesCount", fn := fun _ => fun
  | [d] => { results := [.lit (.bool false)], args := [d] }
  | _ => none }
def FnPanesCountWrongFalsely : Prop := fnPanesCountRow.holds Try.pinned (OpenSpec.ofChange fnPanesCountWrong)

/- THE SECOND FORM. 'bulk': how many values and letters a reading holds, each counted each time it is reached (what is shared counts as often as it is met; a slice's spare places count too). A statement '..UptoSaid' is the law's where the arguments, and the package variables that the reading takes, are together of bulk at most 1048576: NARROWER than '..Said'. Prove '..Said' where nothing that the law and all that it calls make is longer than what came in: it says more and counts as full. Else prove '..UptoSaid'. A law counts once. -/
mutual
def uptoBulk {H : Type} : DataW H → Nat
  | .lit (.string bytes) => bytes.length + 1
  | .lit _ => 1
  | .nil => 1
  | .ptr d => uptoBulk d + 1
  | .slice elems spare => uptoBulkAll elems + uptoBulkAll spare + 1
  | .agg parts => uptoBulkAll parts + 1
  | .iface _ d => uptoBulk d + 1
  | .map entries => uptoBulkEntries entries + 1
  | .held _ => 1
def uptoBulkAll {H : Type} : List (DataW H) → Nat
  | [] => 0
  | d :: r => uptoBulk d + uptoBulkAll r
def uptoBulkEntries {H : Type} : List (Lit × DataW H) → Nat
  | [] => 0
  | x :: r => uptoBulkEntry x + uptoBulkEntries r
def uptoBulkEntry {H : Type} : Lit × DataW H → Nat
  | (.string bytes, d) => bytes.length + uptoBulk d + 1
  | (_, d) => uptoBulk d + 1
 end
def uptoSmall : (H : Type) → List (DataW H) → Bool := fun _ ds => decide (uptoBulkAll ds ≤ 1048576)
def OpenSpec.upto (s : _root_.Go.ChangeSpec) : _root_.Go.OpenSpec := { _root_.Go.OpenSpec.ofChange s with cond := some uptoSmall }

/-- 'laws.FnGcdOf', WHERE WHAT IT READS IS OF BULK AT MOST 1048576: true; the input reads as it did. -/
def fnGcdOfUptoRow : OpenClaim := { program := "ytohllpdmopofoaa", sum := "1824a30e28b9d9870be10b048a660408d69f0c863061181e34dea06b95a9ef13", func := "loop.example/windowaggregates/laws.FnGcdOf", spec := "fnGcdOf", apart := false, narrowed := true }
def FnGcdOfUptoSaid : Prop := fnGcdOfUptoRow.holds Try.pinned (OpenSpec.upto fnGcdOfSpec)

/-- 'laws.FnGcdMultiple', WHERE WHAT IT READS IS OF BULK AT MOST 1048576: true; the input reads as it did. -/
def fnGcdMultipleUptoRow : OpenClaim := { program := "ytohllpdmopofoaa", sum := "1824a30e28b9d9870be10b048a660408d69f0c863061181e34dea06b95a9ef13", func := "loop.example/windowaggregates/laws.FnGcdMultiple", spec := "fnGcdMultiple", apart := false, narrowed := true }
def FnGcdMultipleUptoSaid : Prop := fnGcdMultipleUptoRow.holds Try.pinned (OpenSpec.upto fnGcdMultipleSpec)

/-- 'laws.FnHopCount', WHERE WHAT IT READS IS OF BULK AT MOST 1048576: true; the input reads as it did. -/
def fnHopCountUptoRow : OpenClaim := { program := "ytohllpdmopofoaa", sum := "1824a30e28b9d9870be10b048a660408d69f0c863061181e34dea06b95a9ef13", func := "loop.example/windowaggregates/laws.FnHopCount", spec := "fnHopCount", apart := false, narrowed := true }
def FnHopCountUptoSaid : Prop := fnHopCountUptoRow.holds Try.pinned (OpenSpec.upto fnHopCountSpec)

/-- 'laws.FnPaneCosts', WHERE WHAT IT READS IS OF BULK AT MOST 1048576: true; the input reads as it did. -/
def fnPaneCostsUptoRow : OpenClaim := { program := "ytohllpdmopofoaa", sum := "1824a30e28b9d9870be10b048a660408d69f0c863061181e34dea06b95a9ef13", func := "loop.example/windowaggregates/laws.FnPaneCosts", spec := "fnPaneCosts", apart := false, narrowed := true }
def FnPaneCostsUptoSaid : Prop := fnPaneCostsUptoRow.holds Try.pinned (OpenSpec.upto fnPaneCostsSpec)

/-- 'laws.FnHopFewer', WHERE WHAT IT READS IS OF BULK AT MOST 1048576: true; the input reads as it did. -/
def fnHopFewerUptoRow : OpenClaim := { program := "ytohllpdmopofoaa", sum := "1824a30e28b9d9870be10b048a660408d69f0c863061181e34dea06b95a9ef13", func := "loop.example/windowaggregates/laws.FnHopFewer", spec := "fnHopFewer", apart := false, narrowed := true }
def FnHopFewerUptoSaid : Prop := fnHopFewerUptoRow.holds Try.pinned (OpenSpec.upto fnHopFewerSpec)

/-- 'laws.FnPanesCount', WHERE WHAT IT READS IS OF BULK AT MOST 1048576: true; the input reads as it did. -/
def fnPanesCountUptoRow : OpenClaim := { program := "ytohllpdmopofoaa", sum := "1824a30e28b9d9870be10b048a660408d69f0c863061181e34dea06b95a9ef13", func := "loop.example/windowaggregates/laws.FnPanesCount", spec := "fnPanesCount", unfollowed := true, recurses := true, apart := false, narrowed := true }
def FnPanesCountUptoSaid : Prop := fnPanesCountUptoRow.holds Try.pinned (OpenSpec.upto fnPanesCountSpec)

end Rows
end Go.Proofs.Ytohllpdmopofoaa
