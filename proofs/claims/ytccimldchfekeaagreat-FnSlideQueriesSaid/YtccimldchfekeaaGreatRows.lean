/-
  No cell of these rows narrows 'for every input' (looked for: loops, veiled, ifaces, maps, wideKeys, modest, calm, conditions, laid).
  DERIVED. THE GIVEN ROWS OF THIS SEAT. 4 by the template 'for every input the law returns true; each argument reads behind the call as it read before'; 0 by the template 'total and deterministic' (their statements: YtccimldchfekeaaGreatTotals.lean).
  GIVEN WITH THE SEED: the statements are not yours to turn. If you find one false, say at which input.
  Laid BY PROGRAM, IN A SANDBOX (cutbox-rows.mjs): the forced cells as the released guide's own fill.sh prints them over the translation df8333957e0c601d… (all of the seat's roots in one cut). By AI agents, Wed Nov 11 2026. No macro, syntax, notation, axiom, sorry.
-/
import Derived.Test.YtccimldchfekeaaGreatChecked
import GoSem.Claim
import GoSem.ClaimJoined
import GoSem.ClaimMapViews
import Derived.JoinedTies
import Derived.KernelRfl
namespace Go.Proofs.YtccimldchfekeaaGreat
/- THE CELL 'sum', in the pinned program and in every row, IS THE sha256 OF THE DUMP (.gsa) THAT YtccimldchfekeaaGreatProg.lean LOADS. Nothing in Lean hashes anything: it is a label: what it is worth is what the hold of that sum in a sandbox is worth. -/
noncomputable def Tryz.pinned : Pinned := { name := "ytccimldchfekeaagreat", sum := "df8333957e0c601d022b72308f5c745f445127c4d9985e0f386663c84efb0fb3", checked := Tryz.checked }
namespace Rows
def none {H : Type} : Left H := { results := [], args := [] }

/-- 'laws.FnQueriesOf': WHATEVER THE INPUT: true; the input reads as it did. -/
def fnQueriesOfSpec : ChangeSpec := { name := "fnQueriesOf", fn := fun _ => fun
  | [d] => { results := [.lit (.bool true)], args := [d] }
  | _ => none }
def fnQueriesOfRow : OpenClaim := { program := "ytccimldchfekeaagreat", sum := "df8333957e0c601d022b72308f5c745f445127c4d9985e0f386663c84efb0fb3", func := "loop.example/windowaggregates/laws.FnQueriesOf", spec := "fnQueriesOf", unfollowed := true, recurses := true, apart := false }
def FnQueriesOfSaid : Prop := fnQueriesOfRow.holds Tryz.pinned (OpenSpec.ofChange fnQueriesOfSpec)

/-- ITS FALSE NEIGHBOUR: 'it returns false'. Refute it at one input. -/
def fnQueriesOfWrong : ChangeSpec := { name := "fnQueriesOf", fn := fun _ => fun
  | [d] => { results := [.lit (.bool false)], args := [d] }
  | _ => none }
def FnQueriesOfWrongFalsely : Prop := fnQueriesOfRow.holds Tryz.pinned (OpenSpec.ofChange fnQueriesOfWrong)

/-- 'laws.FnQueriesPrefix': WHATEVER THE INPUT: true; the input reads as it did. -/
def fnQueriesPrefixSpec : ChangeSpec := { name := "fnQueriesPrefix", fn := fun _ => fun
  | [d1, d2] => { results := [.lit (.bool true)], args := [d1, d2] }
  | _ => none }
def fnQueriesPrefixRow : OpenClaim := { program := "ytccimldchfekeaagreat", sum := "df8333957e0c601d022b72308f5c745f445127c4d9985e0f386663c84efb0fb3", func := "loop.example/windowaggregates/laws.FnQueriesPrefix", spec := "fnQueriesPrefix", unfollowed := true, recurses := true, apart := false }
def FnQueriesPrefixSaid : Prop := fnQueriesPrefixRow.holds Tryz.pinned (OpenSpec.ofChange fnQueriesPrefixSpec)

/-- ITS FALSE NEIGHBOUR: 'it returns false'. Refute it at one input. -/
def fnQueriesPrefixWrong : ChangeSpec := { name := "fnQueriesPrefix", fn := fun _ => fun
  | [d1, d2] => { results := [.lit (.bool false)], args := [d1, d2] }
  | _ => none }
def FnQueriesPrefixWrongFalsely : Prop := fnQueriesPrefixRow.holds Tryz.pinned (OpenSpec.ofChange fnQueriesPrefixWrong)

/-- 'laws.FnWindowCount': WHATEVER THE INPUT: true; the input reads as it did. -/
def fnWindowCountSpec : ChangeSpec := { name := "fnWindowCount", fn := fun _ => fun
  | [d] => { results := [.lit (.bool true)], args := [d] }
  | _ => none }
def fnWindowCountRow : OpenClaim := { program := "ytccimldchfekeaagreat", sum := "df8333957e0c601d022b72308f5c745f445127c4d9985e0f386663c84efb0fb3", func := "loop.example/windowaggregates/laws.FnWindowCount", spec := "fnWindowCount", unfollowed := true, recurses := true, apart := false }
def FnWindowCountSaid : Prop := fnWindowCountRow.holds Tryz.pinned (OpenSpec.ofChange fnWindowCountSpec)

/-- ITS FALSE NEIGHBOUR: 'it returns false'. Refute it at one input. -/
def fnWindowCountWrong : ChangeSpec := { name := "fnWindowCount", fn := fun _ => fun
  | [d] => { results := [.lit (.bool false)], args := [d] }
  | _ => none }
def FnWindowCountWrongFalsely : Prop := fnWindowCountRow.holds Tryz.pinned (OpenSpec.ofChange fnWindowCountWrong)

/-- 'laws.FnSlideQueries': WHATEVER THE INPUT: true; the input reads as it did. -/
def fnSlideQueriesSpec : ChangeSpec := { name := "fnSlideQueries", fn := fun _ => fun
  | [d] => { results := [.lit (.bool true)], args := [d] }
  | _ => none }
def fnSlideQueriesRow : OpenClaim := { program := "ytccimldchfekeaagreat", sum := "df8333957e0c601d022b72308f5c745f445127c4d9985e0f386663c84efb0fb3", func := "loop.example/windowaggregates/laws.FnSlideQueries", spec := "fnSlideQueries", unfollowed := true, recurses := true, apart := false }
def FnSlideQueriesSaid : Prop := fnSlideQueriesRow.holds Tryz.pinned (OpenSpec.ofChange fnSlideQueriesSpec)

/-- ITS FALSE NEIGHBOUR: 'it returns false'. Refute it at one input. -/
def fnSlideQueriesWrong : ChangeSpec := { name := "fnSlideQueries", fn := fun _ => fun
  | [d] => { results := [.lit (.bool false)], args := [d] }
  | _ => none }
def FnSlideQueriesWrongFalsely : Prop := fnSlideQueriesRow.holds Tryz.pinned (OpenSpec.ofChange fnSlideQueriesWrong)

/- THE SECOND FORM. 'bulk': how many values and letters a reading holds, each counted each time it is reached (what is shared counts as often as it is met; a slice's spare places count too). A statement '..UptoSaid' is the law's where the arguments, and the package variables that the reading takes, are together of bulk at most 1048576: NARROWER than '..Said'. Prove '..Said' where nothing that the law and all that it calls make is longer than what came in: it says more and counts as full. Else prove '..UptoSaid'. A law counts once. -/
mutual
def uptoBulk {H : Type} : DataW H → Nat
  | .lit (.string bytes) => bytes.length + 1
  | .lit _ => 1
  | .nil => 1
  | .ptr d => uptoBulk d + 1
  | .slice elems spare => uptoBulkAll elems + uptoBulkAll spare + 1
  | .agg parts => uptoBulkAll parts + 1
  | .iface _ d => uptoBulk d + 1
  | .map entries => uptoBulkEntries entries + 1
  | .held _ => 1
def uptoBulkAll {H : Type} : List (DataW H) → Nat
  | [] => 0
  | d :: r => uptoBulk d + uptoBulkAll r
def uptoBulkEntries {H : Type} : List (Lit × DataW H) → Nat
  | [] => 0
  | x :: r => uptoBulkEntry x + uptoBulkEntries r
def uptoBulkEntry {H : Type} : Lit × DataW H → Nat
  | (.string bytes, d) => bytes.length + uptoBulk d + 1
  | (_, d) => uptoBulk d + 1
 end
def uptoSmall : (H : Type) → List (DataW H) → Bool := fun _ ds => decide (uptoBulkAll ds ≤ 1048576)
def OpenSpec.upto (s : _root_.Go.ChangeSpec) : _root_.Go.OpenSpec := { _root_.Go.OpenSpec.ofChange s with cond := some uptoSmall }

/-- 'laws.FnQueriesOf', WHERE WHAT IT READS IS OF BULK AT MOST 1048576: true; the input reads as it did. -/
def fnQueriesOfUptoRow : OpenClaim := { program := "ytccimldchfekeaagreat", sum := "df8333957e0c601d022b72308f5c745f445127c4d9985e0f386663c84efb0fb3", func := "loop.example/windowaggregates/laws.FnQueriesOf", spec := "fnQueriesOf", unfollowed := true, recurses := true, apart := false, narrowed := true }
def FnQueriesOfUptoSaid : Prop := fnQueriesOfUptoRow.holds Tryz.pinned (OpenSpec.upto fnQueriesOfSpec)

/-- 'laws.FnQueriesPrefix', WHERE WHAT IT READS IS OF BULK AT MOST 1048576: true; the input reads as it did. -/
def fnQueriesPrefixUptoRow : OpenClaim := { program := "ytccimldchfekeaagreat", sum := "df8333957e0c601d022b72308f5c745f445127c4d9985e0f386663c84efb0fb3", func := "loop.example/windowaggregates/laws.FnQueriesPrefix", spec := "fnQueriesPrefix", unfollowed := true, recurses := true, apart := false, narrowed := true }
def FnQueriesPrefixUptoSaid : Prop := fnQueriesPrefixUptoRow.holds Tryz.pinned (OpenSpec.upto fnQueriesPrefixSpec)

/-- 'laws.FnWindowCount', WHERE WHAT IT READS IS OF BULK AT MOST 1048576: true; the input reads as it did. -/
def fnWindowCountUptoRow : OpenClaim := { program := "ytccimldchfekeaagreat", sum := "df8333957e0c601d022b72308f5c745f445127c4d9985e0f386663c84efb0fb3", func := "loop.example/windowaggregates/laws.FnWindowCount", spec := "fnWindowCount", unfollowed := true, recurses := true, apart := false, narrowed := true }
def FnWindowCountUptoSaid : Prop := fnWindowCountUptoRow.holds Tryz.pinned (OpenSpec.upto fnWindowCountSpec)

/-- 'laws.FnSlideQueries', WHERE WHAT IT READS IS OF BULK AT MOST 1048576: true; the input reads as it did. -/
def fnSlideQueriesUptoRow : OpenClaim := { program := "ytccimldchfekeaagreat", sum := "df8333957e0c601d022b72308f5c745f445127c4d9985e0f386663c84efb0fb3", func := "loop.example/windowaggregates/laws.FnSlideQueries", spec := "fnSlideQueries", unfollowed := true, recurses := true, apart := false, narrowed := true }
def FnSlideQueriesUptoSaid : Prop := fnSlideQueriesUptoRow.holds Tryz.pinned (OpenSpec.upto fnSlideQueriesSpec)

end Rows
end Go.Proofs.YtccimldchfekeaaGreat
