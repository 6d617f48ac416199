/-
  No cell of these rows narrows 'for every input' (looked for: loops, veiled, ifaces, maps, wideKeys, modest, calm, conditions, laid).
  DERIVED. THE GIVEN ROWS OF THIS SEAT. 10 by the template 'for every input the law returns true; each argument reads behind the call as it read before'; 0 by the template 'total and deterministic' (their statements: YtkiafgppooacdaaTotals.lean).
  GIVEN WITH THE SEED: the statements are not yours to turn. If you find one false, say at which input.
  Laid BY PROGRAM, IN A SANDBOX (cutbox-rows.mjs): the forced cells as the released guide's own fill.sh prints them over the translation e8f16f74fb13122c… (all of the seat's roots in one cut). By AI agents, Wed Nov 11 2026. No macro, syntax, notation, axiom, sorry.
-/
import Derived.Test.YtkiafgppooacdaaChecked
import GoSem.Claim
import GoSem.ClaimJoined
import GoSem.ClaimMapViews
import Derived.JoinedTies
import Derived.KernelRfl
namespace Go.Proofs.Ytkiafgppooacdaa
/- THE CELL 'sum', in the pinned program and in every row, IS THE sha256 OF THE DUMP (.gsa) THAT YtkiafgppooacdaaProg.lean LOADS. Nothing in Lean hashes anything: it is a label: what it is worth is what the hold of that sum in a sandbox is worth. -/
noncomputable def Try.pinned : Pinned := { name := "ytkiafgppooacdaa", sum := "e8f16f74fb13122cb07ecbebf4c1a3d41fe76a8975139cfe06b37907449d5b26", checked := Try.checked }
namespace Rows
def none {H : Type} : Left H := { results := [], args := [] }

/-- 'laws.FnCombineValues': WHATEVER THE INPUT: true; the input reads as it did. -/
def fnCombineValuesSpec : ChangeSpec := { name := "fnCombineValues", fn := fun _ => fun
  | [d] => { results := [.lit (.bool true)], args := [d] }
  | _ => none }
def fnCombineValuesRow : OpenClaim := { program := "ytkiafgppooacdaa", sum := "e8f16f74fb13122cb07ecbebf4c1a3d41fe76a8975139cfe06b37907449d5b26", func := "loop.example/windowaggregates/laws.FnCombineValues", spec := "fnCombineValues", unfollowed := true, recurses := true, apart := false }
def FnCombineValuesSaid : Prop := fnCombineValuesRow.holds Try.pinned (OpenSpec.ofChange fnCombineValuesSpec)

/-- ITS FALSE NEIGHBOUR: 'it returns false'. Refute it at one input. -/
def fnCombineValuesWrong : ChangeSpec := { name := "fnCombineValues", fn := fun _ => fun
  | [d] => { results := [.lit (.bool false)], args := [d] }
  | _ => none }
def FnCombineValuesWrongFalsely : Prop := fnCombineValuesRow.holds Try.pinned (OpenSpec.ofChange fnCombineValuesWrong)

/-- 'laws.FnCombineGroups': WHATEVER THE INPUT: true; the input reads as it did. -/
def fnCombineGroupsSpec : ChangeSpec := { name := "fnCombineGroups", fn := fun _ => fun
  | [d1, d2] => { results := [.lit (.bool true)], args := [d1, d2] }
  | _ => none }
def fnCombineGroupsRow : OpenClaim := { program := "ytkiafgppooacdaa", sum := "e8f16f74fb13122cb07ecbebf4c1a3d41fe76a8975139cfe06b37907449d5b26", func := "loop.example/windowaggregates/laws.FnCombineGroups", spec := "fnCombineGroups", unfollowed := true, recurses := true, apart := false }
def FnCombineGroupsSaid : Prop := fnCombineGroupsRow.holds Try.pinned (OpenSpec.ofChange fnCombineGroupsSpec)

/-- ITS FALSE NEIGHBOUR: 'it returns false'. Refute it at one input. -/
def fnCombineGroupsWrong : ChangeSpec := { name := "fnCombineGroups", fn := fun _ => fun
  | [d1, d2] => { results := [.lit (.bool false)], args := [d1, d2] }
  | _ => none }
def FnCombineGroupsWrongFalsely : Prop := fnCombineGroupsRow.holds Try.pinned (OpenSpec.ofChange fnCombineGroupsWrong)

/-- 'laws.FnCommutes': WHATEVER THE INPUT: true; the input reads as it did. -/
def fnCommutesSpec : ChangeSpec := { name := "fnCommutes", fn := fun _ => fun
  | [d] => { results := [.lit (.bool true)], args := [d] }
  | _ => none }
def fnCommutesRow : OpenClaim := { program := "ytkiafgppooacdaa", sum := "e8f16f74fb13122cb07ecbebf4c1a3d41fe76a8975139cfe06b37907449d5b26", func := "loop.example/windowaggregates/laws.FnCommutes", spec := "fnCommutes", unfollowed := true, recurses := true, apart := false }
def FnCommutesSaid : Prop := fnCommutesRow.holds Try.pinned (OpenSpec.ofChange fnCommutesSpec)

/-- ITS FALSE NEIGHBOUR: 'it returns false'. Refute it at one input. -/
def fnCommutesWrong : ChangeSpec := { name := "fnCommutes", fn := fun _ => fun
  | [d] => { results := [.lit (.bool false)], args := [d] }
  | _ => none }
def FnCommutesWrongFalsely : Prop := fnCommutesRow.holds Try.pinned (OpenSpec.ofChange fnCommutesWrong)

/-- 'laws.FnRemoveItems': WHATEVER THE INPUT: true; the input reads as it did. -/
def fnRemoveItemsSpec : ChangeSpec := { name := "fnRemoveItems", fn := fun _ => fun
  | [d1, d2] => { results := [.lit (.bool true)], args := [d1, d2] }
  | _ => none }
def fnRemoveItemsRow : OpenClaim := { program := "ytkiafgppooacdaa", sum := "e8f16f74fb13122cb07ecbebf4c1a3d41fe76a8975139cfe06b37907449d5b26", func := "loop.example/windowaggregates/laws.FnRemoveItems", spec := "fnRemoveItems", unfollowed := true, recurses := true, apart := false }
def FnRemoveItemsSaid : Prop := fnRemoveItemsRow.holds Try.pinned (OpenSpec.ofChange fnRemoveItemsSpec)

/-- ITS FALSE NEIGHBOUR: 'it returns false'. Refute it at one input. -/
def fnRemoveItemsWrong : ChangeSpec := { name := "fnRemoveItems", fn := fun _ => fun
  | [d1, d2] => { results := [.lit (.bool false)], args := [d1, d2] }
  | _ => none }
def FnRemoveItemsWrongFalsely : Prop := fnRemoveItemsRow.holds Try.pinned (OpenSpec.ofChange fnRemoveItemsWrong)

/-- 'laws.FnLiftItem': WHATEVER THE INPUT: true; the input reads as it did. -/
def fnLiftItemSpec : ChangeSpec := { name := "fnLiftItem", fn := fun _ => fun
  | [d] => { results := [.lit (.bool true)], args := [d] }
  | _ => none }
def fnLiftItemRow : OpenClaim := { program := "ytkiafgppooacdaa", sum := "e8f16f74fb13122cb07ecbebf4c1a3d41fe76a8975139cfe06b37907449d5b26", func := "loop.example/windowaggregates/laws.FnLiftItem", spec := "fnLiftItem", unfollowed := true, recurses := true, apart := false }
def FnLiftItemSaid : Prop := fnLiftItemRow.holds Try.pinned (OpenSpec.ofChange fnLiftItemSpec)

/-- ITS FALSE NEIGHBOUR: 'it returns false'. Refute it at one input. -/
def fnLiftItemWrong : ChangeSpec := { name := "fnLiftItem", fn := fun _ => fun
  | [d] => { results := [.lit (.bool false)], args := [d] }
  | _ => none }
def FnLiftItemWrongFalsely : Prop := fnLiftItemRow.holds Try.pinned (OpenSpec.ofChange fnLiftItemWrong)

/-- 'laws.FnLowerValue': WHATEVER THE INPUT: true; the input reads as it did. -/
def fnLowerValueSpec : ChangeSpec := { name := "fnLowerValue", fn := fun _ => fun
  | [d] => { results := [.lit (.bool true)], args := [d] }
  | _ => none }
def fnLowerValueRow : OpenClaim := { program := "ytkiafgppooacdaa", sum := "e8f16f74fb13122cb07ecbebf4c1a3d41fe76a8975139cfe06b37907449d5b26", func := "loop.example/windowaggregates/laws.FnLowerValue", spec := "fnLowerValue", unfollowed := true, recurses := true, apart := false }
def FnLowerValueSaid : Prop := fnLowerValueRow.holds Try.pinned (OpenSpec.ofChange fnLowerValueSpec)

/-- ITS FALSE NEIGHBOUR: 'it returns false'. Refute it at one input. -/
def fnLowerValueWrong : ChangeSpec := { name := "fnLowerValue", fn := fun _ => fun
  | [d] => { results := [.lit (.bool false)], args := [d] }
  | _ => none }
def FnLowerValueWrongFalsely : Prop := fnLowerValueRow.holds Try.pinned (OpenSpec.ofChange fnLowerValueWrong)

/-- 'laws.FnValueValid': WHATEVER THE INPUT: true; the input reads as it did. -/
def fnValueValidSpec : ChangeSpec := { name := "fnValueValid", fn := fun _ => fun
  | [d] => { results := [.lit (.bool true)], args := [d] }
  | _ => none }
def fnValueValidRow : OpenClaim := { program := "ytkiafgppooacdaa", sum := "e8f16f74fb13122cb07ecbebf4c1a3d41fe76a8975139cfe06b37907449d5b26", func := "loop.example/windowaggregates/laws.FnValueValid", spec := "fnValueValid", unfollowed := true, recurses := true, apart := false }
def FnValueValidSaid : Prop := fnValueValidRow.holds Try.pinned (OpenSpec.ofChange fnValueValidSpec)

/-- ITS FALSE NEIGHBOUR: 'it returns false'. Refute it at one input. -/
def fnValueValidWrong : ChangeSpec := { name := "fnValueValid", fn := fun _ => fun
  | [d] => { results := [.lit (.bool false)], args := [d] }
  | _ => none }
def FnValueValidWrongFalsely : Prop := fnValueValidRow.holds Try.pinned (OpenSpec.ofChange fnValueValidWrong)

/-- 'laws.FnFoldBack': WHATEVER THE INPUT: true; the input reads as it did. -/
def fnFoldBackSpec : ChangeSpec := { name := "fnFoldBack", fn := fun _ => fun
  | [d] => { results := [.lit (.bool true)], args := [d] }
  | _ => none }
def fnFoldBackRow : OpenClaim := { program := "ytkiafgppooacdaa", sum := "e8f16f74fb13122cb07ecbebf4c1a3d41fe76a8975139cfe06b37907449d5b26", func := "loop.example/windowaggregates/laws.FnFoldBack", spec := "fnFoldBack", unfollowed := true, recurses := true, apart := false }
def FnFoldBackSaid : Prop := fnFoldBackRow.holds Try.pinned (OpenSpec.ofChange fnFoldBackSpec)

/-- ITS FALSE NEIGHBOUR: 'it returns false'. Refute it at one input. -/
def fnFoldBackWrong : ChangeSpec := { name := "fnFoldBack", fn := fun _ => fun
  | [d] => { results := [.lit (.bool false)], args := [d] }
  | _ => none }
def FnFoldBackWrongFalsely : Prop := fnFoldBackRow.holds Try.pinned (OpenSpec.ofChange fnFoldBackWrong)

/-- 'laws.FnFirstLast': WHATEVER THE INPUT: true; the input reads as it did. -/
def fnFirstLastSpec : ChangeSpec := { name := "fnFirstLast", fn := fun _ => fun
  | [d] => { results := [.lit (.bool true)], args := [d] }
  | _ => none }
def fnFirstLastRow : OpenClaim := { program := "ytkiafgppooacdaa", sum := "e8f16f74fb13122cb07ecbebf4c1a3d41fe76a8975139cfe06b37907449d5b26", func := "loop.example/windowaggregates/laws.FnFirstLast", spec := "fnFirstLast", unfollowed := true, recurses := true, apart := false }
def FnFirstLastSaid : Prop := fnFirstLastRow.holds Try.pinned (OpenSpec.ofChange fnFirstLastSpec)

/-- ITS FALSE NEIGHBOUR: 'it returns false'. Refute it at one input. -/
def fnFirstLastWrong : ChangeSpec := { name := "fnFirstLast", fn := fun _ => fun
  | [d] => { results := [.lit (.bool false)], args := [d] }
  | _ => none }
def FnFirstLastWrongFalsely : Prop := fnFirstLastRow.holds Try.pinned (OpenSpec.ofChange fnFirstLastWrong)

/-- 'laws.FnRiseCount': WHATEVER THE INPUT: true; the input reads as it did. -/
def fnRiseCountSpec : ChangeSpec := { name := "fnRiseCount", fn := fun _ => fun
  | [d] => { results := [.lit (.bool true)], args := [d] }
  | _ => none }
def fnRiseCountRow : OpenClaim := { program := "ytkiafgppooacdaa", sum := "e8f16f74fb13122cb07ecbebf4c1a3d41fe76a8975139cfe06b37907449d5b26", func := "loop.example/windowaggregates/laws.FnRiseCount", spec := "fnRiseCount", unfollowed := true, recurses := true, apart := false }
def FnRiseCountSaid : Prop := fnRiseCountRow.holds Try.pinned (OpenSpec.ofChange fnRiseCountSpec)

/-- ITS FALSE NEIGHBOUR: 'it returns false'. Refute it at one input. -/
def fnRiseCountWrong : ChangeSpec := { name := "fnRiseCount", fn := fun _ => fun
  | [d] => { results := [.lit (.bool false)], args := [d] }
  | _ => none }
def FnRiseCountWrongFalsely : Prop := fnRiseCountRow.holds Try.pinned (OpenSpec.ofChange fnRiseCountWrong)

/- THE SECOND FORM. 'bulk': how many values and letters a reading holds, each counted each time it is reached (what is shared counts as often as it is met; a slice's spare places count too). A statement '..UptoSaid' is the law's where the arguments, and the package variables that the reading takes, are together of bulk at most 1048576: NARROWER than '..Said'. Prove '..Said' where nothing that the law and all that it calls make is longer than what came in: it says more and counts as full. Else prove '..UptoSaid'. A law counts once. -/
mutual
def uptoBulk {H : Type} : DataW H → Nat
  | .lit (.string bytes) => bytes.length + 1
  | .lit _ => 1
  | .nil => 1
  | .ptr d => uptoBulk d + 1
  | .slice elems spare => uptoBulkAll elems + uptoBulkAll spare + 1
  | .agg parts => uptoBulkAll parts + 1
  | .iface _ d => uptoBulk d + 1
  | .map entries => uptoBulkEntries entries + 1
  | .held _ => 1
def uptoBulkAll {H : Type} : List (DataW H) → Nat
  | [] => 0
  | d :: r => uptoBulk d + uptoBulkAll r
def uptoBulkEntries {H : Type} : List (Lit × DataW H) → Nat
  | [] => 0
  | x :: r => uptoBulkEntry x + uptoBulkEntries r
def uptoBulkEntry {H : Type} : Lit × DataW H → Nat
  | (.string bytes, d) => bytes.length + uptoBulk d + 1
  | (_, d) => uptoBulk d + 1
 end
def uptoSmall : (H : Type) → List (DataW H) → Bool := fun _ ds => decide (uptoBulkAll ds ≤ 1048576)
def OpenSpec.upto (s : _root_.Go.ChangeSpec) : _root_.Go.OpenSpec := { _root_.Go.OpenSpec.ofChange s with cond := some uptoSmall }

/-- 'laws.FnCombineValues', WHERE WHAT IT READS IS OF BULK AT MOST 1048576: true; the input reads as it did. -/
def fnCombineValuesUptoRow : OpenClaim := { program := "ytkiafgppooacdaa", sum := "e8f16f74fb13122cb07ecbebf4c1a3d41fe76a8975139cfe06b37907449d5b26", func := "loop.example/windowaggregates/laws.FnCombineValues", spec := "fnCombineValues", unfollowed := true, recurses := true, apart := false, narrowed := true }
def FnCombineValuesUptoSaid : Prop := fnCombineValuesUptoRow.holds Try.pinned (OpenSpec.upto fnCombineValuesSpec)

/-- 'laws.FnCombineGroups', WHERE WHAT IT READS IS OF BULK AT MOST 1048576: true; the input reads as it did. -/
def fnCombineGroupsUptoRow : OpenClaim := { program := "ytkiafgppooacdaa", sum := "e8f16f74fb13122cb07ecbebf4c1a3d41fe76a8975139cfe06b37907449d5b26", func := "loop.example/windowaggregates/laws.FnCombineGroups", spec := "fnCombineGroups", unfollowed := true, recurses := true, apart := false, narrowed := true }
def FnCombineGroupsUptoSaid : Prop := fnCombineGroupsUptoRow.holds Try.pinned (OpenSpec.upto fnCombineGroupsSpec)

/-- 'laws.FnCommutes', WHERE WHAT IT READS IS OF BULK AT MOST 1048576: true; the input reads as it did. -/
def fnCommutesUptoRow : OpenClaim := { program := "ytkiafgppooacdaa", sum := "e8f16f74fb13122cb07ecbebf4c1a3d41fe76a8975139cfe06b37907449d5b26", func := "loop.example/windowaggregates/laws.FnCommutes", spec := "fnCommutes", unfollowed := true, recurses := true, apart := false, narrowed := true }
def FnCommutesUptoSaid : Prop := fnCommutesUptoRow.holds Try.pinned (OpenSpec.upto fnCommutesSpec)

/-- 'laws.FnRemoveItems', WHERE WHAT IT READS IS OF BULK AT MOST 1048576: true; the input reads as it did. -/
def fnRemoveItemsUptoRow : OpenClaim := { program := "ytkiafgppooacdaa", sum := "e8f16f74fb13122cb07ecbebf4c1a3d41fe76a8975139cfe06b37907449d5b26", func := "loop.example/windowaggregates/laws.FnRemoveItems", spec := "fnRemoveItems", unfollowed := true, recurses := true, apart := false, narrowed := true }
def FnRemoveItemsUptoSaid : Prop := fnRemoveItemsUptoRow.holds Try.pinned (OpenSpec.upto fnRemoveItemsSpec)

/-- 'laws.FnLiftItem', WHERE WHAT IT READS IS OF BULK AT MOST 1048576: true; the input reads as it did. -/
def fnLiftItemUptoRow : OpenClaim := { program := "ytkiafgppooacdaa", sum := "e8f16f74fb13122cb07ecbebf4c1a3d41fe76a8975139cfe06b37907449d5b26", func := "loop.example/windowaggregates/laws.FnLiftItem", spec := "fnLiftItem", unfollowed := true, recurses := true, apart := false, narrowed := true }
def FnLiftItemUptoSaid : Prop := fnLiftItemUptoRow.holds Try.pinned (OpenSpec.upto fnLiftItemSpec)

/-- 'laws.FnLowerValue', WHERE WHAT IT READS IS OF BULK AT MOST 1048576: true; the input reads as it did. -/
def fnLowerValueUptoRow : OpenClaim := { program := "ytkiafgppooacdaa", sum := "e8f16f74fb13122cb07ecbebf4c1a3d41fe76a8975139cfe06b37907449d5b26", func := "loop.example/windowaggregates/laws.FnLowerValue", spec := "fnLowerValue", unfollowed := true, recurses := true, apart := false, narrowed := true }
def FnLowerValueUptoSaid : Prop := fnLowerValueUptoRow.holds Try.pinned (OpenSpec.upto fnLowerValueSpec)

/-- 'laws.FnValueValid', WHERE WHAT IT READS IS OF BULK AT MOST 1048576: true; the input reads as it did. -/
def fnValueValidUptoRow : OpenClaim := { program := "ytkiafgppooacdaa", sum := "e8f16f74fb13122cb07ecbebf4c1a3d41fe76a8975139cfe06b37907449d5b26", func := "loop.example/windowaggregates/laws.FnValueValid", spec := "fnValueValid", unfollowed := true, recurses := true, apart := false, narrowed := true }
def FnValueValidUptoSaid : Prop := fnValueValidUptoRow.holds Try.pinned (OpenSpec.upto fnValueValidSpec)

/-- 'laws.FnFoldBack', WHERE WHAT IT READS IS OF BULK AT MOST 1048576: true; the input reads as it did. -/
def fnFoldBackUptoRow : OpenClaim := { program := "ytkiafgppooacdaa", sum := "e8f16f74fb13122cb07ecbebf4c1a3d41fe76a8975139cfe06b37907449d5b26", func := "loop.example/windowaggregates/laws.FnFoldBack", spec := "fnFoldBack", unfollowed := true, recurses := true, apart := false, narrowed := true }
def FnFoldBackUptoSaid : Prop := fnFoldBackUptoRow.holds Try.pinned (OpenSpec.upto fnFoldBackSpec)

/-- 'laws.FnFirstLast', WHERE WHAT IT READS IS OF BULK AT MOST 1048576: true; the input reads as it did. -/
def fnFirstLastUptoRow : OpenClaim := { program := "ytkiafgppooacdaa", sum := "e8f16f74fb13122cb07ecbebf4c1a3d41fe76a8975139cfe06b37907449d5b26", func := "loop.example/windowaggregates/laws.FnFirstLast", spec := "fnFirstLast", unfollowed := true, recurses := true, apart := false, narrowed := true }
def FnFirstLastUptoSaid : Prop := fnFirstLastUptoRow.holds Try.pinned (OpenSpec.upto fnFirstLastSpec)

/-- 'laws.FnRiseCount', WHERE WHAT IT READS IS OF BULK AT MOST 1048576: true; the input reads as it did. -/
def fnRiseCountUptoRow : OpenClaim := { program := "ytkiafgppooacdaa", sum := "e8f16f74fb13122cb07ecbebf4c1a3d41fe76a8975139cfe06b37907449d5b26", func := "loop.example/windowaggregates/laws.FnRiseCount", spec := "fnRiseCount", unfollowed := true, recurses := true, apart := false, narrowed := true }
def FnRiseCountUptoSaid : Prop := fnRiseCountUptoRow.holds Try.pinned (OpenSpec.upto fnRiseCountSpec)

end Rows
end Go.Proofs.Ytkiafgppooacdaa
