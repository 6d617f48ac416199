/-
  No cell of these rows narrows 'for every input' (looked for: loops, veiled, ifaces, maps, wideKeys, modest, calm, conditions, laid).
  DERIVED. THE GIVEN ROWS OF THIS SEAT. 6 by the template 'for every input the law returns true; each argument reads behind the call as it read before'; 0 by the template 'total and deterministic' (their statements: YtofpnmjadflebaaTotals.lean).
  GIVEN WITH THE SEED: the statements are not yours to turn. If you find one false, say at which input.
  Laid BY PROGRAM, IN A SANDBOX (cutbox-rows.mjs): the forced cells as the released guide's own fill.sh prints them over the translation 102ffd6f34245067… (all of the seat's roots in one cut). By AI agents, Wed Nov 11 2026. No macro, syntax, notation, axiom, sorry.
-/
import Derived.Test.YtofpnmjadflebaaChecked
import GoSem.Claim
import GoSem.ClaimJoined
import GoSem.ClaimMapViews
import Derived.JoinedTies
import Derived.KernelRfl
namespace Go.Proofs.Ytofpnmjadflebaa
/- THE CELL 'sum', in the pinned program and in every row, IS THE sha256 OF THE DUMP (.gsa) THAT YtofpnmjadflebaaProg.lean LOADS. Nothing in Lean hashes anything: it is a label: what it is worth is what the hold of that sum in a sandbox is worth. -/
noncomputable def Try.pinned : Pinned := { name := "ytofpnmjadflebaa", sum := "102ffd6f342450672656c77db0763e16793c3506c3a76a255adf1196ac9990f8", checked := Try.checked }
namespace Rows
def none {H : Type} : Left H := { results := [], args := [] }

/-- 'laws.FnQueriesValid': WHATEVER THE INPUT: true; the input reads as it did. -/
def fnQueriesValidSpec : ChangeSpec := { name := "fnQueriesValid", fn := fun _ => fun
  | [d] => { results := [.lit (.bool true)], args := [d] }
  | _ => none }
def fnQueriesValidRow : OpenClaim := { program := "ytofpnmjadflebaa", sum := "102ffd6f342450672656c77db0763e16793c3506c3a76a255adf1196ac9990f8", func := "loop.example/windowaggregates/laws.FnQueriesValid", spec := "fnQueriesValid", apart := false }
def FnQueriesValidSaid : Prop := fnQueriesValidRow.holds Try.pinned (OpenSpec.ofChange fnQueriesValidSpec)

/-- ITS FALSE NEIGHBOUR: 'it returns false'. Refute it at one input. -/
def fnQueriesValidWrong : ChangeSpec := { name := "fnQueriesValid", fn := fun _ => fun
  | [d] => { results := [.lit (.bool false)], args := [d] }
  | _ => none }
def FnQueriesValidWrongFalsely : Prop := fnQueriesValidRow.holds Try.pinned (OpenSpec.ofChange fnQueriesValidWrong)

/-- 'laws.FnAddQuery': WHATEVER THE INPUT: true; the input reads as it did. -/
def fnAddQuerySpec : ChangeSpec := { name := "fnAddQuery", fn := fun _ => fun
  | [d] => { results := [.lit (.bool true)], args := [d] }
  | _ => none }
def fnAddQueryRow : OpenClaim := { program := "ytofpnmjadflebaa", sum := "102ffd6f342450672656c77db0763e16793c3506c3a76a255adf1196ac9990f8", func := "loop.example/windowaggregates/laws.FnAddQuery", spec := "fnAddQuery", apart := false }
def FnAddQuerySaid : Prop := fnAddQueryRow.holds Try.pinned (OpenSpec.ofChange fnAddQuerySpec)

/-- ITS FALSE NEIGHBOUR: 'it returns false'. Refute it at one input. -/
def fnAddQueryWrong : ChangeSpec := { name := "fnAddQuery", fn := fun _ => fun
  | [d] => { results := [.lit (.bool false)], args := [d] }
  | _ => none }
def FnAddQueryWrongFalsely : Prop := fnAddQueryRow.holds Try.pinned (OpenSpec.ofChange fnAddQueryWrong)

/-- 'laws.FnCutsOf': WHATEVER THE INPUT: true; the input reads as it did. -/
def fnCutsOfSpec : ChangeSpec := { name := "fnCutsOf", fn := fun _ => fun
  | [d] => { results := [.lit (.bool true)], args := [d] }
  | _ => none }
def fnCutsOfRow : OpenClaim := { program := "ytofpnmjadflebaa", sum := "102ffd6f342450672656c77db0763e16793c3506c3a76a255adf1196ac9990f8", func := "loop.example/windowaggregates/laws.FnCutsOf", spec := "fnCutsOf", apart := false }
def FnCutsOfSaid : Prop := fnCutsOfRow.holds Try.pinned (OpenSpec.ofChange fnCutsOfSpec)

/-- ITS FALSE NEIGHBOUR: 'it returns false'. Refute it at one input. -/
def fnCutsOfWrong : ChangeSpec := { name := "fnCutsOf", fn := fun _ => fun
  | [d] => { results := [.lit (.bool false)], args := [d] }
  | _ => none }
def FnCutsOfWrongFalsely : Prop := fnCutsOfRow.holds Try.pinned (OpenSpec.ofChange fnCutsOfWrong)

/-- 'laws.FnCutsMore': WHATEVER THE INPUT: true; the input reads as it did. -/
def fnCutsMoreSpec : ChangeSpec := { name := "fnCutsMore", fn := fun _ => fun
  | [d1, d2] => { results := [.lit (.bool true)], args := [d1, d2] }
  | _ => none }
def fnCutsMoreRow : OpenClaim := { program := "ytofpnmjadflebaa", sum := "102ffd6f342450672656c77db0763e16793c3506c3a76a255adf1196ac9990f8", func := "loop.example/windowaggregates/laws.FnCutsMore", spec := "fnCutsMore", apart := false }
def FnCutsMoreSaid : Prop := fnCutsMoreRow.holds Try.pinned (OpenSpec.ofChange fnCutsMoreSpec)

/-- ITS FALSE NEIGHBOUR: 'it returns false'. Refute it at one input. -/
def fnCutsMoreWrong : ChangeSpec := { name := "fnCutsMore", fn := fun _ => fun
  | [d1, d2] => { results := [.lit (.bool false)], args := [d1, d2] }
  | _ => none }
def FnCutsMoreWrongFalsely : Prop := fnCutsMoreRow.holds Try.pinned (OpenSpec.ofChange fnCutsMoreWrong)

/-- 'laws.FnSharedCosts': WHATEVER THE INPUT: true; the input reads as it did. -/
def fnSharedCostsSpec : ChangeSpec := { name := "fnSharedCosts", fn := fun _ => fun
  | [d] => { results := [.lit (.bool true)], args := [d] }
  | _ => none }
def fnSharedCostsRow : OpenClaim := { program := "ytofpnmjadflebaa", sum := "102ffd6f342450672656c77db0763e16793c3506c3a76a255adf1196ac9990f8", func := "loop.example/windowaggregates/laws.FnSharedCosts", spec := "fnSharedCosts", apart := false }
def FnSharedCostsSaid : Prop := fnSharedCostsRow.holds Try.pinned (OpenSpec.ofChange fnSharedCostsSpec)

/-- ITS FALSE NEIGHBOUR: 'it returns false'. Refute it at one input. -/
def fnSharedCostsWrong : ChangeSpec := { name := "fnSharedCosts", fn := fun _ => fun
  | [d] => { results := [.lit (.bool false)], args := [d] }
  | _ => none }
def FnSharedCostsWrongFalsely : Prop := fnSharedCostsRow.holds Try.pinned (OpenSpec.ofChange fnSharedCostsWrong)

/-- 'laws.FnSharedPanes': WHATEVER THE INPUT: true; the input reads as it did. -/
def fnSharedPanesSpec : ChangeSpec := { name := "fnSharedPanes", fn := fun _ => fun
  | [d] => { results := [.lit (.bool true)], args := [d] }
  | _ => none }
def fnSharedPanesRow : OpenClaim := { program := "ytofpnmjadflebaa", sum := "102ffd6f342450672656c77db0763e16793c3506c3a76a255adf1196ac9990f8", func := "loop.example/windowaggregates/laws.FnSharedPanes", spec := "fnSharedPanes", apart := false }
def FnSharedPanesSaid : Prop := fnSharedPanesRow.holds Try.pinned (OpenSpec.ofChange fnSharedPanesSpec)

/-- ITS FALSE NEIGHBOUR: 'it returns false'. Refute it at one input. -/
def fnSharedPanesWrong : ChangeSpec := { name := "fnSharedPanes", fn := fun _ => fun
  | [d] => { results := [.lit (.bool false)], args := [d] }
  | _ => none }
def FnSharedPanesWrongFalsely : Prop := fnSharedPanesRow.holds Try.pinned (OpenSpec.ofChange fnSharedPanesWrong)

/- THE SECOND FORM. 'bulk': how many values and letters a reading holds, each counted each time it is reached (what is shared counts as often as it is met; a slice's spare places count too). A statement '..UptoSaid' is the law's where the arguments, and the package variables that the reading takes, are together of bulk at most 1048576: NARROWER than '..Said'. Prove '..Said' where nothing that the law and all that it calls make is longer than what came in: it says more and counts as full. Else prove '..UptoSaid'. A law counts once. -/
mutual
def uptoBulk {H : Type} : DataW H → Nat
  | .lit (.string bytes) => bytes.length + 1
  | .lit _ => 1
  | .nil => 1
  | .ptr d => uptoBulk d + 1
  | .slice elems spare => uptoBulkAll elems + uptoBulkAll spare + 1
  | .agg parts => uptoBulkAll parts + 1
  | .iface _ d => uptoBulk d + 1
  | .map entries => uptoBulkEntries entries + 1
  | .held _ => 1
def uptoBulkAll {H : Type} : List (DataW H) → Nat
  | [] => 0
  | d :: r => uptoBulk d + uptoBulkAll r
def uptoBulkEntries {H : Type} : List (Lit × DataW H) → Nat
  | [] => 0
  | x :: r => uptoBulkEntry x + uptoBulkEntries r
def uptoBulkEntry {H : Type} : Lit × DataW H → Nat
  | (.string bytes, d) => bytes.length + uptoBulk d + 1
  | (_, d) => uptoBulk d + 1
 end
def uptoSmall : (H : Type) → List (DataW H) → Bool := fun _ ds => decide (uptoBulkAll ds ≤ 1048576)
def OpenSpec.upto (s : _root_.Go.ChangeSpec) : _root_.Go.OpenSpec := { _root_.Go.OpenSpec.ofChange s with cond := some uptoSmall }

/-- 'laws.FnQueriesValid', WHERE WHAT IT READS IS OF BULK AT MOST 1048576: true; the input reads as it did. -/
def fnQueriesValidUptoRow : OpenClaim := { program := "ytofpnmjadflebaa", sum := "102ffd6f342450672656c77db0763e16793c3506c3a76a255adf1196ac9990f8", func := "loop.example/windowaggregates/laws.FnQueriesValid", spec := "fnQueriesValid", apart := false, narrowed := true }
def FnQueriesValidUptoSaid : Prop := fnQueriesValidUptoRow.holds Try.pinned (OpenSpec.upto fnQueriesValidSpec)

/-- 'laws.FnAddQuery', WHERE WHAT IT READS IS OF BULK AT MOST 1048576: true; the input reads as it did. -/
def fnAddQueryUptoRow : OpenClaim := { program := "ytofpnmjadflebaa", sum := "102ffd6f342450672656c77db0763e16793c3506c3a76a255adf1196ac9990f8", func := "loop.example/windowaggregates/laws.FnAddQuery", spec := "fnAddQuery", apart := false, narrowed := true }
def FnAddQueryUptoSaid : Prop := fnAddQueryUptoRow.holds Try.pinned (OpenSpec.upto fnAddQuerySpec)

/-- 'laws.FnCutsOf', WHERE WHAT IT READS IS OF BULK AT MOST 1048576: true; the input reads as it did. -/
def fnCutsOfUptoRow : OpenClaim := { program := "ytofpnmjadflebaa", sum := "102ffd6f342450672656c77db0763e16793c3506c3a76a255adf1196ac9990f8", func := "loop.example/windowaggregates/laws.FnCutsOf", spec := "fnCutsOf", apart := false, narrowed := true }
def FnCutsOfUptoSaid : Prop := fnCutsOfUptoRow.holds Try.pinned (OpenSpec.upto fnCutsOfSpec)

/-- 'laws.FnCutsMore', WHERE WHAT IT READS IS OF BULK AT MOST 1048576: true; the input reads as it did. -/
def fnCutsMoreUptoRow : OpenClaim := { program := "ytofpnmjadflebaa", sum := "102ffd6f342450672656c77db0763e16793c3506c3a76a255adf1196ac9990f8", func := "loop.example/windowaggregates/laws.FnCutsMore", spec := "fnCutsMore", apart := false, narrowed := true }
def FnCutsMoreUptoSaid : Prop := fnCutsMoreUptoRow.holds Try.pinned (OpenSpec.upto fnCutsMoreSpec)

/-- 'laws.FnSharedCosts', WHERE WHAT IT READS IS OF BULK AT MOST 1048576: true; the input reads as it did. -/
def fnSharedCostsUptoRow : OpenClaim := { program := "ytofpnmjadflebaa", sum := "102ffd6f342450672656c77db0763e16793c3506c3a76a255adf1196ac9990f8", func := "loop.example/windowaggregates/laws.FnSharedCosts", spec := "fnSharedCosts", apart := false, narrowed := true }
def FnSharedCostsUptoSaid : Prop := fnSharedCostsUptoRow.holds Try.pinned (OpenSpec.upto fnSharedCostsSpec)

/-- 'laws.FnSharedPanes', WHERE WHAT IT READS IS OF BULK AT MOST 1048576: true; the input reads as it did. -/
def fnSharedPanesUptoRow : OpenClaim := { program := "ytofpnmjadflebaa", sum := "102ffd6f342450672656c77db0763e16793c3506c3a76a255adf1196ac9990f8", func := "loop.example/windowaggregates/laws.FnSharedPanes", spec := "fnSharedPanes", apart := false, narrowed := true }
def FnSharedPanesUptoSaid : Prop := fnSharedPanesUptoRow.holds Try.pinned (OpenSpec.upto fnSharedPanesSpec)

end Rows
end Go.Proofs.Ytofpnmjadflebaa
