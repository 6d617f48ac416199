/-
  No cell of these rows narrows 'for every input' (looked for: loops, veiled, ifaces, maps, wideKeys, modest, calm, conditions, laid).
  DERIVED. THE GIVEN ROWS OF THIS SEAT. 9 by the template 'for every input the law returns true; each argument reads behind the call as it read before'; 0 by the template 'total and deterministic' (their statements: YtolgclajlklmaaaTotals.lean).
  GIVEN WITH THE SEED: the statements are not yours to turn. If you find one false, say at which input.
  Laid BY PROGRAM, IN A SANDBOX (cutbox-rows.mjs): the forced cells as the released guide's own fill.sh prints them over the translation 5ba9c142c7df22b1… (all of the seat's roots in one cut). By AI agents, Wed Nov 11 2026. No macro, syntax, notation, axiom, sorry.
-/
import Derived.Test.YtolgclajlklmaaaChecked
import GoSem.Claim
import GoSem.ClaimJoined
import GoSem.ClaimMapViews
import Derived.JoinedTies
import Derived.KernelRfl
namespace Go.Proofs.Ytolgclajlklmaaa
/- THE CELL 'sum', in the pinned program and in every row, IS THE sha256 OF THE DUMP (.gsa) THAT YtolgclajlklmaaaProg.lean LOADS. Nothing in Lean hashes anything: it is a label: what it is worth is what the hold of that sum in a sandbox is worth. -/
noncomputable def Try.pinned : Pinned := { name := "ytolgclajlklmaaa", sum := "5ba9c142c7df22b1965ce6216e0bb719671632f509e50d0f3763ba7b7aae57a5", checked := Try.checked }
namespace Rows
def none {H : Type} : Left H := { results := [], args := [] }

/-- 'laws.FnExactDequeRun': WHATEVER THE INPUT: true; the input reads as it did. -/
def fnExactDequeRunSpec : ChangeSpec := { name := "fnExactDequeRun", fn := fun _ => fun
  | [d1, d2] => { results := [.lit (.bool true)], args := [d1, d2] }
  | _ => none }
def fnExactDequeRunRow : OpenClaim := { program := "ytolgclajlklmaaa", sum := "5ba9c142c7df22b1965ce6216e0bb719671632f509e50d0f3763ba7b7aae57a5", func := "loop.example/windowaggregates/laws.FnExactDequeRun", spec := "fnExactDequeRun", unfollowed := true, recurses := true, apart := false }
def FnExactDequeRunSaid : Prop := fnExactDequeRunRow.holds Try.pinned (OpenSpec.ofChange fnExactDequeRunSpec)

/-- ITS FALSE NEIGHBOUR: 'it returns false'. Refute it at one input. -/
def fnExactDequeRunWrong : ChangeSpec := { name := "fnExactDequeRun", fn := fun _ => fun
  | [d1, d2] => { results := [.lit (.bool false)], args := [d1, d2] }
  | _ => none }
def FnExactDequeRunWrongFalsely : Prop := fnExactDequeRunRow.holds Try.pinned (OpenSpec.ofChange fnExactDequeRunWrong)

/-- 'laws.FnDequeStep': WHATEVER THE INPUT: true; the input reads as it did. -/
def fnDequeStepSpec : ChangeSpec := { name := "fnDequeStep", fn := fun _ => fun
  | [d] => { results := [.lit (.bool true)], args := [d] }
  | _ => none }
def fnDequeStepRow : OpenClaim := { program := "ytolgclajlklmaaa", sum := "5ba9c142c7df22b1965ce6216e0bb719671632f509e50d0f3763ba7b7aae57a5", func := "loop.example/windowaggregates/laws.FnDequeStep", spec := "fnDequeStep", unfollowed := true, recurses := true, apart := false }
def FnDequeStepSaid : Prop := fnDequeStepRow.holds Try.pinned (OpenSpec.ofChange fnDequeStepSpec)

/-- ITS FALSE NEIGHBOUR: 'it returns false'. Refute it at one input. -/
def fnDequeStepWrong : ChangeSpec := { name := "fnDequeStep", fn := fun _ => fun
  | [d] => { results := [.lit (.bool false)], args := [d] }
  | _ => none }
def FnDequeStepWrongFalsely : Prop := fnDequeStepRow.holds Try.pinned (OpenSpec.ofChange fnDequeStepWrong)

/-- 'laws.FnDequeNumber': WHATEVER THE INPUT: true; the input reads as it did. -/
def fnDequeNumberSpec : ChangeSpec := { name := "fnDequeNumber", fn := fun _ => fun
  | [d] => { results := [.lit (.bool true)], args := [d] }
  | _ => none }
def fnDequeNumberRow : OpenClaim := { program := "ytolgclajlklmaaa", sum := "5ba9c142c7df22b1965ce6216e0bb719671632f509e50d0f3763ba7b7aae57a5", func := "loop.example/windowaggregates/laws.FnDequeNumber", spec := "fnDequeNumber", unfollowed := true, recurses := true, apart := false }
def FnDequeNumberSaid : Prop := fnDequeNumberRow.holds Try.pinned (OpenSpec.ofChange fnDequeNumberSpec)

/-- ITS FALSE NEIGHBOUR: 'it returns false'. Refute it at one input. -/
def fnDequeNumberWrong : ChangeSpec := { name := "fnDequeNumber", fn := fun _ => fun
  | [d] => { results := [.lit (.bool false)], args := [d] }
  | _ => none }
def FnDequeNumberWrongFalsely : Prop := fnDequeNumberRow.holds Try.pinned (OpenSpec.ofChange fnDequeNumberWrong)

/-- 'laws.FnDequeOrder': WHATEVER THE INPUT: true; the input reads as it did. -/
def fnDequeOrderSpec : ChangeSpec := { name := "fnDequeOrder", fn := fun _ => fun
  | [d] => { results := [.lit (.bool true)], args := [d] }
  | _ => none }
def fnDequeOrderRow : OpenClaim := { program := "ytolgclajlklmaaa", sum := "5ba9c142c7df22b1965ce6216e0bb719671632f509e50d0f3763ba7b7aae57a5", func := "loop.example/windowaggregates/laws.FnDequeOrder", spec := "fnDequeOrder", unfollowed := true, recurses := true, apart := false }
def FnDequeOrderSaid : Prop := fnDequeOrderRow.holds Try.pinned (OpenSpec.ofChange fnDequeOrderSpec)

/-- ITS FALSE NEIGHBOUR: 'it returns false'. Refute it at one input. -/
def fnDequeOrderWrong : ChangeSpec := { name := "fnDequeOrder", fn := fun _ => fun
  | [d] => { results := [.lit (.bool false)], args := [d] }
  | _ => none }
def FnDequeOrderWrongFalsely : Prop := fnDequeOrderRow.holds Try.pinned (OpenSpec.ofChange fnDequeOrderWrong)

/-- 'laws.FnDequeDrops': WHATEVER THE INPUT: true; the input reads as it did. -/
def fnDequeDropsSpec : ChangeSpec := { name := "fnDequeDrops", fn := fun _ => fun
  | [d] => { results := [.lit (.bool true)], args := [d] }
  | _ => none }
def fnDequeDropsRow : OpenClaim := { program := "ytolgclajlklmaaa", sum := "5ba9c142c7df22b1965ce6216e0bb719671632f509e50d0f3763ba7b7aae57a5", func := "loop.example/windowaggregates/laws.FnDequeDrops", spec := "fnDequeDrops", unfollowed := true, recurses := true, apart := false }
def FnDequeDropsSaid : Prop := fnDequeDropsRow.holds Try.pinned (OpenSpec.ofChange fnDequeDropsSpec)

/-- ITS FALSE NEIGHBOUR: 'it returns false'. Refute it at one input. -/
def fnDequeDropsWrong : ChangeSpec := { name := "fnDequeDrops", fn := fun _ => fun
  | [d] => { results := [.lit (.bool false)], args := [d] }
  | _ => none }
def FnDequeDropsWrongFalsely : Prop := fnDequeDropsRow.holds Try.pinned (OpenSpec.ofChange fnDequeDropsWrong)

/-- 'laws.FnExactQueriesValid': WHATEVER THE INPUT: true; the input reads as it did. -/
def fnExactQueriesValidSpec : ChangeSpec := { name := "fnExactQueriesValid", fn := fun _ => fun
  | [d] => { results := [.lit (.bool true)], args := [d] }
  | _ => none }
def fnExactQueriesValidRow : OpenClaim := { program := "ytolgclajlklmaaa", sum := "5ba9c142c7df22b1965ce6216e0bb719671632f509e50d0f3763ba7b7aae57a5", func := "loop.example/windowaggregates/laws.FnExactQueriesValid", spec := "fnExactQueriesValid", apart := false }
def FnExactQueriesValidSaid : Prop := fnExactQueriesValidRow.holds Try.pinned (OpenSpec.ofChange fnExactQueriesValidSpec)

/-- ITS FALSE NEIGHBOUR: 'it returns false'. Refute it at one input. -/
def fnExactQueriesValidWrong : ChangeSpec := { name := "fnExactQueriesValid", fn := fun _ => fun
  | [d] => { results := [.lit (.bool false)], args := [d] }
  | _ => none }
def FnExactQueriesValidWrongFalsely : Prop := fnExactQueriesValidRow.holds Try.pinned (OpenSpec.ofChange fnExactQueriesValidWrong)

/-- 'laws.FnExactAddQuery': WHATEVER THE INPUT: true; the input reads as it did. -/
def fnExactAddQuerySpec : ChangeSpec := { name := "fnExactAddQuery", fn := fun _ => fun
  | [d1, d2] => { results := [.lit (.bool true)], args := [d1, d2] }
  | _ => none }
def fnExactAddQueryRow : OpenClaim := { program := "ytolgclajlklmaaa", sum := "5ba9c142c7df22b1965ce6216e0bb719671632f509e50d0f3763ba7b7aae57a5", func := "loop.example/windowaggregates/laws.FnExactAddQuery", spec := "fnExactAddQuery", apart := false }
def FnExactAddQuerySaid : Prop := fnExactAddQueryRow.holds Try.pinned (OpenSpec.ofChange fnExactAddQuerySpec)

/-- ITS FALSE NEIGHBOUR: 'it returns false'. Refute it at one input. -/
def fnExactAddQueryWrong : ChangeSpec := { name := "fnExactAddQuery", fn := fun _ => fun
  | [d1, d2] => { results := [.lit (.bool false)], args := [d1, d2] }
  | _ => none }
def FnExactAddQueryWrongFalsely : Prop := fnExactAddQueryRow.holds Try.pinned (OpenSpec.ofChange fnExactAddQueryWrong)

/-- 'laws.FnExactCutsOf': WHATEVER THE INPUT: true; the input reads as it did. -/
def fnExactCutsOfSpec : ChangeSpec := { name := "fnExactCutsOf", fn := fun _ => fun
  | [d1, d2] => { results := [.lit (.bool true)], args := [d1, d2] }
  | _ => none }
def fnExactCutsOfRow : OpenClaim := { program := "ytolgclajlklmaaa", sum := "5ba9c142c7df22b1965ce6216e0bb719671632f509e50d0f3763ba7b7aae57a5", func := "loop.example/windowaggregates/laws.FnExactCutsOf", spec := "fnExactCutsOf", apart := false }
def FnExactCutsOfSaid : Prop := fnExactCutsOfRow.holds Try.pinned (OpenSpec.ofChange fnExactCutsOfSpec)

/-- ITS FALSE NEIGHBOUR: 'it returns false'. Refute it at one input. -/
def fnExactCutsOfWrong : ChangeSpec := { name := "fnExactCutsOf", fn := fun _ => fun
  | [d1, d2] => { results := [.lit (.bool false)], args := [d1, d2] }
  | _ => none }
def FnExactCutsOfWrongFalsely : Prop := fnExactCutsOfRow.holds Try.pinned (OpenSpec.ofChange fnExactCutsOfWrong)

/-- 'laws.FnExactSharedCosts': WHATEVER THE INPUT: true; the input reads as it did. -/
def fnExactSharedCostsSpec : ChangeSpec := { name := "fnExactSharedCosts", fn := fun _ => fun
  | [d1, d2] => { results := [.lit (.bool true)], args := [d1, d2] }
  | _ => none }
def fnExactSharedCostsRow : OpenClaim := { program := "ytolgclajlklmaaa", sum := "5ba9c142c7df22b1965ce6216e0bb719671632f509e50d0f3763ba7b7aae57a5", func := "loop.example/windowaggregates/laws.FnExactSharedCosts", spec := "fnExactSharedCosts", apart := false }
def FnExactSharedCostsSaid : Prop := fnExactSharedCostsRow.holds Try.pinned (OpenSpec.ofChange fnExactSharedCostsSpec)

/-- ITS FALSE NEIGHBOUR: 'it returns false'. Refute it at one input. -/
def fnExactSharedCostsWrong : ChangeSpec := { name := "fnExactSharedCosts", fn := fun _ => fun
  | [d1, d2] => { results := [.lit (.bool false)], args := [d1, d2] }
  | _ => none }
def FnExactSharedCostsWrongFalsely : Prop := fnExactSharedCostsRow.holds Try.pinned (OpenSpec.ofChange fnExactSharedCostsWrong)

/- THE SECOND FORM. 'bulk': how many values and letters a reading holds, each counted each time it is reached (what is shared counts as often as it is met; a slice's spare places count too). A statement '..UptoSaid' is the law's where the arguments, and the package variables that the reading takes, are together of bulk at most 1048576: NARROWER than '..Said'. Prove '..Said' where nothing that the law and all that it calls make is longer than what came in: it says more and counts as full. Else prove '..UptoSaid'. A law counts once. -/
mutual
def uptoBulk {H : Type} : DataW H → Nat
  | .lit (.string bytes) => bytes.length + 1
  | .lit _ => 1
  | .nil => 1
  | .ptr d => uptoBulk d + 1
  | .slice elems spare => uptoBulkAll elems + uptoBulkAll spare + 1
  | .agg parts => uptoBulkAll parts + 1
  | .iface _ d => uptoBulk d + 1
  | .map entries => uptoBulkEntries entries + 1
  | .held _ => 1
def uptoBulkAll {H : Type} : List (DataW H) → Nat
  | [] => 0
  | d :: r => uptoBulk d + uptoBulkAll r
def uptoBulkEntries {H : Type} : List (Lit × DataW H) → Nat
  | [] => 0
  | x :: r => uptoBulkEntry x + uptoBulkEntries r
def uptoBulkEntry {H : Type} : Lit × DataW H → Nat
  | (.string bytes, d) => bytes.length + uptoBulk d + 1
  | (_, d) => uptoBulk d + 1
 end
def uptoSmall : (H : Type) → List (DataW H) → Bool := fun _ ds => decide (uptoBulkAll ds ≤ 1048576)
def OpenSpec.upto (s : _root_.Go.ChangeSpec) : _root_.Go.OpenSpec := { _root_.Go.OpenSpec.ofChange s with cond := some uptoSmall }

/-- 'laws.FnExactDequeRun', WHERE WHAT IT READS IS OF BULK AT MOST 1048576: true; the input reads as it did. -/
def fnExactDequeRunUptoRow : OpenClaim := { program := "ytolgclajlklmaaa", sum := "5ba9c142c7df22b1965ce6216e0bb719671632f509e50d0f3763ba7b7aae57a5", func := "loop.example/windowaggregates/laws.FnExactDequeRun", spec := "fnExactDequeRun", unfollowed := true, recurses := true, apart := false, narrowed := true }
def FnExactDequeRunUptoSaid : Prop := fnExactDequeRunUptoRow.holds Try.pinned (OpenSpec.upto fnExactDequeRunSpec)

/-- 'laws.FnDequeStep', WHERE WHAT IT READS IS OF BULK AT MOST 1048576: true; the input reads as it did. -/
def fnDequeStepUptoRow : OpenClaim := { program := "ytolgclajlklmaaa", sum := "5ba9c142c7df22b1965ce6216e0bb719671632f509e50d0f3763ba7b7aae57a5", func := "loop.example/windowaggregates/laws.FnDequeStep", spec := "fnDequeStep", unfollowed := true, recurses := true, apart := false, narrowed := true }
def FnDequeStepUptoSaid : Prop := fnDequeStepUptoRow.holds Try.pinned (OpenSpec.upto fnDequeStepSpec)

/-- 'laws.FnDequeNumber', WHERE WHAT IT READS IS OF BULK AT MOST 1048576: true; the input reads as it did. -/
def fnDequeNumberUptoRow : OpenClaim := { program := "ytolgclajlklmaaa", sum := "5ba9c142c7df22b1965ce6216e0bb719671632f509e50d0f3763ba7b7aae57a5", func := "loop.example/windowaggregates/laws.FnDequeNumber", spec := "fnDequeNumber", unfollowed := true, recurses := true, apart := false, narrowed := true }
def FnDequeNumberUptoSaid : Prop := fnDequeNumberUptoRow.holds Try.pinned (OpenSpec.upto fnDequeNumberSpec)

/-- 'laws.FnDequeOrder', WHERE WHAT IT READS IS OF BULK AT MOST 1048576: true; the input reads as it did. -/
def fnDequeOrderUptoRow : OpenClaim := { program := "ytolgclajlklmaaa", sum := "5ba9c142c7df22b1965ce6216e0bb719671632f509e50d0f3763ba7b7aae57a5", func := "loop.example/windowaggregates/laws.FnDequeOrder", spec := "fnDequeOrder", unfollowed := true, recurses := true, apart := false, narrowed := true }
def FnDequeOrderUptoSaid : Prop := fnDequeOrderUptoRow.holds Try.pinned (OpenSpec.upto fnDequeOrderSpec)

/-- 'laws.FnDequeDrops', WHERE WHAT IT READS IS OF BULK AT MOST 1048576: true; the input reads as it did. -/
def fnDequeDropsUptoRow : OpenClaim := { program := "ytolgclajlklmaaa", sum := "5ba9c142c7df22b1965ce6216e0bb719671632f509e50d0f3763ba7b7aae57a5", func := "loop.example/windowaggregates/laws.FnDequeDrops", spec := "fnDequeDrops", unfollowed := true, recurses := true, apart := false, narrowed := true }
def FnDequeDropsUptoSaid : Prop := fnDequeDropsUptoRow.holds Try.pinned (OpenSpec.upto fnDequeDropsSpec)

/-- 'laws.FnExactQueriesValid', WHERE WHAT IT READS IS OF BULK AT MOST 1048576: true; the input reads as it did. -/
def fnExactQueriesValidUptoRow : OpenClaim := { program := "ytolgclajlklmaaa", sum := "5ba9c142c7df22b1965ce6216e0bb719671632f509e50d0f3763ba7b7aae57a5", func := "loop.example/windowaggregates/laws.FnExactQueriesValid", spec := "fnExactQueriesValid", apart := false, narrowed := true }
def FnExactQueriesValidUptoSaid : Prop := fnExactQueriesValidUptoRow.holds Try.pinned (OpenSpec.upto fnExactQueriesValidSpec)

/-- 'laws.FnExactAddQuery', WHERE WHAT IT READS IS OF BULK AT MOST 1048576: true; the input reads as it did. -/
def fnExactAddQueryUptoRow : OpenClaim := { program := "ytolgclajlklmaaa", sum := "5ba9c142c7df22b1965ce6216e0bb719671632f509e50d0f3763ba7b7aae57a5", func := "loop.example/windowaggregates/laws.FnExactAddQuery", spec := "fnExactAddQuery", apart := false, narrowed := true }
def FnExactAddQueryUptoSaid : Prop := fnExactAddQueryUptoRow.holds Try.pinned (OpenSpec.upto fnExactAddQuerySpec)

/-- 'laws.FnExactCutsOf', WHERE WHAT IT READS IS OF BULK AT MOST 1048576: true; the input reads as it did. -/
def fnExactCutsOfUptoRow : OpenClaim := { program := "ytolgclajlklmaaa", sum := "5ba9c142c7df22b1965ce6216e0bb719671632f509e50d0f3763ba7b7aae57a5", func := "loop.example/windowaggregates/laws.FnExactCutsOf", spec := "fnExactCutsOf", apart := false, narrowed := true }
def FnExactCutsOfUptoSaid : Prop := fnExactCutsOfUptoRow.holds Try.pinned (OpenSpec.upto fnExactCutsOfSpec)

/-- 'laws.FnExactSharedCosts', WHERE WHAT IT READS IS OF BULK AT MOST 1048576: true; the input reads as it did. -/
def fnExactSharedCostsUptoRow : OpenClaim := { program := "ytolgclajlklmaaa", sum := "5ba9c142c7df22b1965ce6216e0bb719671632f509e50d0f3763ba7b7aae57a5", func := "loop.example/windowaggregates/laws.FnExactSharedCosts", spec := "fnExactSharedCosts", apart := false, narrowed := true }
def FnExactSharedCostsUptoSaid : Prop := fnExactSharedCostsUptoRow.holds Try.pinned (OpenSpec.upto fnExactSharedCostsSpec)

end Rows
end Go.Proofs.Ytolgclajlklmaaa
