/-
  No cell of these rows narrows 'for every input' (looked for: loops, veiled, ifaces, maps, wideKeys, modest, calm, conditions, laid).
  DERIVED. THE GIVEN ROWS OF THIS SEAT. 4 by the template 'for every input the law returns true; each argument reads behind the call as it read before'; 0 by the template 'total and deterministic' (their statements: YtfiliggplndphaaTotals.lean).
  GIVEN WITH THE SEED: the statements are not yours to turn. If you find one false, say at which input.
  Laid BY PROGRAM, IN A SANDBOX (cutbox-rows.mjs): the forced cells as the released guide's own fill.sh prints them over the translation a38914356aead445… (all of the seat's roots in one cut). By AI agents, Wed Nov 11 2026. No macro, syntax, notation, axiom, sorry.
-/
import Derived.Test.YtfiliggplndphaaChecked
import GoSem.Claim
import GoSem.ClaimJoined
import GoSem.ClaimMapViews
import Derived.JoinedTies
import Derived.KernelRfl
namespace Go.Proofs.Ytfiliggplndphaa
/- THE CELL 'sum', in the pinned program and in every row, IS THE sha256 OF THE DUMP (.gsa) THAT YtfiliggplndphaaProg.lean LOADS. Nothing in Lean hashes anything: it is a label: what it is worth is what the hold of that sum in a sandbox is worth. -/
noncomputable def Try.pinned : Pinned := { name := "ytfiliggplndphaa", sum := "a38914356aead445eee837bd4d7cc5913fdbf8be023b6c8b0df58a8219d3fe31", checked := Try.checked }
namespace Rows
def none {H : Type} : Left H := { results := [], args := [] }

/-- 'laws.FnCombineGroups': WHATEVER THE INPUT: true; the input reads as it did. -/
def fnCombineGroupsSpec : ChangeSpec := { name := "fnCombineGroups", fn := fun _ => fun
  | [d1, d2] => { results := [.lit (.bool true)], args := [d1, d2] }
  | _ => none }
def fnCombineGroupsRow : OpenClaim := { program := "ytfiliggplndphaa", sum := "a38914356aead445eee837bd4d7cc5913fdbf8be023b6c8b0df58a8219d3fe31", func := "loop.example/windowaggregates/laws.FnCombineGroups", spec := "fnCombineGroups", unfollowed := true, recurses := true, apart := false }
def FnCombineGroupsSaid : Prop := fnCombineGroupsRow.holds Try.pinned (OpenSpec.ofChange fnCombineGroupsSpec)

/-- ITS FALSE NEIGHBOUR: 'it returns false'. Refute it at one input. -/
def fnCombineGroupsWrong : ChangeSpec := { name := "fnCombineGroups", fn := fun _ => fun
  | [d1, d2] => { results := [.lit (.bool false)], args := [d1, d2] }
  | _ => none }
def FnCombineGroupsWrongFalsely : Prop := fnCombineGroupsRow.holds Try.pinned (OpenSpec.ofChange fnCombineGroupsWrong)

/-- 'laws.FnCommutes': WHATEVER THE INPUT: true; the input reads as it did. -/
def fnCommutesSpec : ChangeSpec := { name := "fnCommutes", fn := fun _ => fun
  | [d] => { results := [.lit (.bool true)], args := [d] }
  | _ => none }
def fnCommutesRow : OpenClaim := { program := "ytfiliggplndphaa", sum := "a38914356aead445eee837bd4d7cc5913fdbf8be023b6c8b0df58a8219d3fe31", func := "loop.example/windowaggregates/laws.FnCommutes", spec := "fnCommutes", unfollowed := true, recurses := true, apart := false }
def FnCommutesSaid : Prop := fnCommutesRow.holds Try.pinned (OpenSpec.ofChange fnCommutesSpec)

/-- ITS FALSE NEIGHBOUR: 'it returns false'. Refute it at one input. -/
def fnCommutesWrong : ChangeSpec := { name := "fnCommutes", fn := fun _ => fun
  | [d] => { results := [.lit (.bool false)], args := [d] }
  | _ => none }
def FnCommutesWrongFalsely : Prop := fnCommutesRow.holds Try.pinned (OpenSpec.ofChange fnCommutesWrong)

/-- 'laws.FnValueValid': WHATEVER THE INPUT: true; the input reads as it did. -/
def fnValueValidSpec : ChangeSpec := { name := "fnValueValid", fn := fun _ => fun
  | [d] => { results := [.lit (.bool true)], args := [d] }
  | _ => none }
def fnValueValidRow : OpenClaim := { program := "ytfiliggplndphaa", sum := "a38914356aead445eee837bd4d7cc5913fdbf8be023b6c8b0df58a8219d3fe31", func := "loop.example/windowaggregates/laws.FnValueValid", spec := "fnValueValid", unfollowed := true, recurses := true, apart := false }
def FnValueValidSaid : Prop := fnValueValidRow.holds Try.pinned (OpenSpec.ofChange fnValueValidSpec)

/-- ITS FALSE NEIGHBOUR: 'it returns false'. Refute it at one input. -/
def fnValueValidWrong : ChangeSpec := { name := "fnValueValid", fn := fun _ => fun
  | [d] => { results := [.lit (.bool false)], args := [d] }
  | _ => none }
def FnValueValidWrongFalsely : Prop := fnValueValidRow.holds Try.pinned (OpenSpec.ofChange fnValueValidWrong)

/-- 'laws.FnUnitOf': WHATEVER THE INPUT: true; the input reads as it did. -/
def fnUnitOfSpec : ChangeSpec := { name := "fnUnitOf", fn := fun _ => fun
  | [d] => { results := [.lit (.bool true)], args := [d] }
  | _ => none }
def fnUnitOfRow : OpenClaim := { program := "ytfiliggplndphaa", sum := "a38914356aead445eee837bd4d7cc5913fdbf8be023b6c8b0df58a8219d3fe31", func := "loop.example/windowaggregates/laws.FnUnitOf", spec := "fnUnitOf", unfollowed := true, recurses := true, apart := false }
def FnUnitOfSaid : Prop := fnUnitOfRow.holds Try.pinned (OpenSpec.ofChange fnUnitOfSpec)

/-- ITS FALSE NEIGHBOUR: 'it returns false'. Refute it at one input. -/
def fnUnitOfWrong : ChangeSpec := { name := "fnUnitOf", fn := fun _ => fun
  | [d] => { results := [.lit (.bool false)], args := [d] }
  | _ => none }
def FnUnitOfWrongFalsely : Prop := fnUnitOfRow.holds Try.pinned (OpenSpec.ofChange fnUnitOfWrong)

/- THE SECOND FORM. 'bulk': how many values and letters a reading holds, each counted each time it is reached (what is shared counts as often as it is met; a slice's spare places count too). A statement '..UptoSaid' is the law's where the arguments, and the package variables that the reading takes, are together of bulk at most 1048576: NARROWER than '..Said'. Prove '..Said' where nothing that the law and all that it calls make is longer than what came in: it says more and counts as full. Else prove '..UptoSaid'. A law counts once. -/
mutual
def uptoBulk {H : Type} : DataW H → Nat
  | .lit (.string bytes) => bytes.length + 1
  | .lit _ => 1
  | .nil => 1
  | .ptr d => uptoBulk d + 1
  | .slice elems spare => uptoBulkAll elems + uptoBulkAll spare + 1
  | .agg parts => uptoBulkAll parts + 1
  | .iface _ d => uptoBulk d + 1
  | .map entries => uptoBulkEntries entries + 1
  | .held _ => 1
def uptoBulkAll {H : Type} : List (DataW H) → Nat
  | [] => 0
  | d :: r => uptoBulk d + uptoBulkAll r
def uptoBulkEntries {H : Type} : List (Lit × DataW H) → Nat
  | [] => 0
  | x :: r => uptoBulkEntry x + uptoBulkEntries r
def uptoBulkEntry {H : Type} : Lit × DataW H → Nat
  | (.string bytes, d) => bytes.length + uptoBulk d + 1
  | (_, d) => uptoBulk d + 1
 end
def uptoSmall : (H : Type) → List (DataW H) → Bool := fun _ ds => decide (uptoBulkAll ds ≤ 1048576)
def OpenSpec.upto (s : _root_.Go.ChangeSpec) : _root_.Go.OpenSpec := { _root_.Go.OpenSpec.ofChange s with cond := some uptoSmall }

/-- 'laws.FnCombineGroups', WHERE WHAT IT READS IS OF BULK AT MOST 1048576: true; the input reads as it did. -/
def fnCombineGroupsUptoRow : OpenClaim := { program := "ytfiliggplndphaa", sum := "a38914356aead445eee837bd4d7cc5913fdbf8be023b6c8b0df58a8219d3fe31", func := "loop.example/windowaggregates/laws.FnCombineGroups", spec := "fnCombineGroups", unfollowed := true, recurses := true, apart := false, narrowed := true }
def FnCombineGroupsUptoSaid : Prop := fnCombineGroupsUptoRow.holds Try.pinned (OpenSpec.upto fnCombineGroupsSpec)

/-- 'laws.FnCommutes', WHERE WHAT IT READS IS OF BULK AT MOST 1048576: true; the input reads as it did. -/
def fnCommutesUptoRow : OpenClaim := { program := "ytfiliggplndphaa", sum := "a38914356aead445eee837bd4d7cc5913fdbf8be023b6c8b0df58a8219d3fe31", func := "loop.example/windowaggregates/laws.FnCommutes", spec := "fnCommutes", unfollowed := true, recurses := true, apart := false, narrowed := true }
def FnCommutesUptoSaid : Prop := fnCommutesUptoRow.holds Try.pinned (OpenSpec.upto fnCommutesSpec)

/-- 'laws.FnValueValid', WHERE WHAT IT READS IS OF BULK AT MOST 1048576: true; the input reads as it did. -/
def fnValueValidUptoRow : OpenClaim := { program := "ytfiliggplndphaa", sum := "a38914356aead445eee837bd4d7cc5913fdbf8be023b6c8b0df58a8219d3fe31", func := "loop.example/windowaggregates/laws.FnValueValid", spec := "fnValueValid", unfollowed := true, recurses := true, apart := false, narrowed := true }
def FnValueValidUptoSaid : Prop := fnValueValidUptoRow.holds Try.pinned (OpenSpec.upto fnValueValidSpec)

/-- 'laws.FnUnitOf', WHERE WHAT IT READS IS OF BULK AT MOST 1048576: true; the input reads as it did. -/
def fnUnitOfUptoRow : OpenClaim := { program := "ytfiliggplndphaa", sum := "a38914356aead445eee837bd4d7cc5913fdbf8be023b6c8b0df58a8219d3fe31", func := "loop.example/windowaggregates/laws.FnUnitOf", spec := "fnUnitOf", unfollowed := true, recurses := true, apart := false, narrowed := true }
def FnUnitOfUptoSaid : Prop := fnUnitOfUptoRow.holds Try.pinned (OpenSpec.upto fnUnitOfSpec)

end Rows
end Go.Proofs.Ytfiliggplndphaa
