/-
  No cell of these rows narrows 'for every input' (looked for: loops, veiled, ifaces, maps, wideKeys, modest, calm, conditions, laid).
  DERIVED. THE GIVEN ROWS OF THIS SEAT. 9 by the template 'for every input the law returns true; each argument reads behind the call as it read before'; 0 by the template 'total and deterministic' (their statements: YtelhbphlmohclaaTotals.lean).
  GIVEN WITH THE SEED: the statements are not yours to turn. If you find one false, say at which input.
  Laid BY PROGRAM, IN A SANDBOX (cutbox-rows.mjs): the forced cells as the released guide's own fill.sh prints them over the translation 39229860e906dc95… (all of the seat's roots in one cut). By AI agents, Wed Nov 11 2026. No macro, syntax, notation, axiom, sorry.
-/
import Derived.Test.YtelhbphlmohclaaChecked
import GoSem.Claim
import GoSem.ClaimJoined
import GoSem.ClaimMapViews
import Derived.JoinedTies
import Derived.KernelRfl
namespace Go.Proofs.Ytelhbphlmohclaa
/- THE CELL 'sum', in the pinned program and in every row, IS THE sha256 OF THE DUMP (.gsa) THAT YtelhbphlmohclaaProg.lean LOADS. Nothing in Lean hashes anything: it is a label: what it is worth is what the hold of that sum in a sandbox is worth. -/
noncomputable def Try.pinned : Pinned := { name := "ytelhbphlmohclaa", sum := "39229860e906dc953bcf6409259061ac80745e38895d02c22f357785d784142a", checked := Try.checked }
namespace Rows
def none {H : Type} : Left H := { results := [], args := [] }

/-- 'laws.FnExactKindValid': WHATEVER THE INPUT: true; the input reads as it did. -/
def fnExactKindValidSpec : ChangeSpec := { name := "fnExactKindValid", fn := fun _ => fun
  | [d] => { results := [.lit (.bool true)], args := [d] }
  | _ => none }
def fnExactKindValidRow : OpenClaim := { program := "ytelhbphlmohclaa", sum := "39229860e906dc953bcf6409259061ac80745e38895d02c22f357785d784142a", func := "loop.example/windowaggregates/laws.FnExactKindValid", spec := "fnExactKindValid", apart := false }
def FnExactKindValidSaid : Prop := fnExactKindValidRow.holds Try.pinned (OpenSpec.ofChange fnExactKindValidSpec)

/-- ITS FALSE NEIGHBOUR: 'it returns false'. Refute it at one input. -/
def fnExactKindValidWrong : ChangeSpec := { name := "fnExactKindValid", fn := fun _ => fun
  | [d] => { results := [.lit (.bool false)], args := [d] }
  | _ => none }
def FnExactKindValidWrongFalsely : Prop := fnExactKindValidRow.holds Try.pinned (OpenSpec.ofChange fnExactKindValidWrong)

/-- 'laws.FnExactValueValid': WHATEVER THE INPUT: true; the input reads as it did. -/
def fnExactValueValidSpec : ChangeSpec := { name := "fnExactValueValid", fn := fun _ => fun
  | [d1, d2] => { results := [.lit (.bool true)], args := [d1, d2] }
  | _ => none }
def fnExactValueValidRow : OpenClaim := { program := "ytelhbphlmohclaa", sum := "39229860e906dc953bcf6409259061ac80745e38895d02c22f357785d784142a", func := "loop.example/windowaggregates/laws.FnExactValueValid", spec := "fnExactValueValid", unfollowed := true, recurses := true, apart := false }
def FnExactValueValidSaid : Prop := fnExactValueValidRow.holds Try.pinned (OpenSpec.ofChange fnExactValueValidSpec)

/-- ITS FALSE NEIGHBOUR: 'it returns false'. Refute it at one input. -/
def fnExactValueValidWrong : ChangeSpec := { name := "fnExactValueValid", fn := fun _ => fun
  | [d1, d2] => { results := [.lit (.bool false)], args := [d1, d2] }
  | _ => none }
def FnExactValueValidWrongFalsely : Prop := fnExactValueValidRow.holds Try.pinned (OpenSpec.ofChange fnExactValueValidWrong)

/-- 'laws.FnExactLiftItem': WHATEVER THE INPUT: true; the input reads as it did. -/
def fnExactLiftItemSpec : ChangeSpec := { name := "fnExactLiftItem", fn := fun _ => fun
  | [d1, d2] => { results := [.lit (.bool true)], args := [d1, d2] }
  | _ => none }
def fnExactLiftItemRow : OpenClaim := { program := "ytelhbphlmohclaa", sum := "39229860e906dc953bcf6409259061ac80745e38895d02c22f357785d784142a", func := "loop.example/windowaggregates/laws.FnExactLiftItem", spec := "fnExactLiftItem", unfollowed := true, recurses := true, apart := false }
def FnExactLiftItemSaid : Prop := fnExactLiftItemRow.holds Try.pinned (OpenSpec.ofChange fnExactLiftItemSpec)

/-- ITS FALSE NEIGHBOUR: 'it returns false'. Refute it at one input. -/
def fnExactLiftItemWrong : ChangeSpec := { name := "fnExactLiftItem", fn := fun _ => fun
  | [d1, d2] => { results := [.lit (.bool false)], args := [d1, d2] }
  | _ => none }
def FnExactLiftItemWrongFalsely : Prop := fnExactLiftItemRow.holds Try.pinned (OpenSpec.ofChange fnExactLiftItemWrong)

/-- 'laws.FnExactUnitOf': WHATEVER THE INPUT: true; the input reads as it did. -/
def fnExactUnitOfSpec : ChangeSpec := { name := "fnExactUnitOf", fn := fun _ => fun
  | [d] => { results := [.lit (.bool true)], args := [d] }
  | _ => none }
def fnExactUnitOfRow : OpenClaim := { program := "ytelhbphlmohclaa", sum := "39229860e906dc953bcf6409259061ac80745e38895d02c22f357785d784142a", func := "loop.example/windowaggregates/laws.FnExactUnitOf", spec := "fnExactUnitOf", unfollowed := true, recurses := true, apart := false }
def FnExactUnitOfSaid : Prop := fnExactUnitOfRow.holds Try.pinned (OpenSpec.ofChange fnExactUnitOfSpec)

/-- ITS FALSE NEIGHBOUR: 'it returns false'. Refute it at one input. -/
def fnExactUnitOfWrong : ChangeSpec := { name := "fnExactUnitOf", fn := fun _ => fun
  | [d] => { results := [.lit (.bool false)], args := [d] }
  | _ => none }
def FnExactUnitOfWrongFalsely : Prop := fnExactUnitOfRow.holds Try.pinned (OpenSpec.ofChange fnExactUnitOfWrong)

/-- 'laws.FnExactCombineValues': WHATEVER THE INPUT: true; the input reads as it did. -/
def fnExactCombineValuesSpec : ChangeSpec := { name := "fnExactCombineValues", fn := fun _ => fun
  | [d1, d2, d3] => { results := [.lit (.bool true)], args := [d1, d2, d3] }
  | _ => none }
def fnExactCombineValuesRow : OpenClaim := { program := "ytelhbphlmohclaa", sum := "39229860e906dc953bcf6409259061ac80745e38895d02c22f357785d784142a", func := "loop.example/windowaggregates/laws.FnExactCombineValues", spec := "fnExactCombineValues", unfollowed := true, recurses := true, apart := false }
def FnExactCombineValuesSaid : Prop := fnExactCombineValuesRow.holds Try.pinned (OpenSpec.ofChange fnExactCombineValuesSpec)

/-- ITS FALSE NEIGHBOUR: 'it returns false'. Refute it at one input. -/
def fnExactCombineValuesWrong : ChangeSpec := { name := "fnExactCombineValues", fn := fun _ => fun
  | [d1, d2, d3] => { results := [.lit (.bool false)], args := [d1, d2, d3] }
  | _ => none }
def FnExactCombineValuesWrongFalsely : Prop := fnExactCombineValuesRow.holds Try.pinned (OpenSpec.ofChange fnExactCombineValuesWrong)

/-- 'laws.FnExactLowerValue': WHATEVER THE INPUT: true; the input reads as it did. -/
def fnExactLowerValueSpec : ChangeSpec := { name := "fnExactLowerValue", fn := fun _ => fun
  | [d1, d2] => { results := [.lit (.bool true)], args := [d1, d2] }
  | _ => none }
def fnExactLowerValueRow : OpenClaim := { program := "ytelhbphlmohclaa", sum := "39229860e906dc953bcf6409259061ac80745e38895d02c22f357785d784142a", func := "loop.example/windowaggregates/laws.FnExactLowerValue", spec := "fnExactLowerValue", unfollowed := true, recurses := true, apart := false }
def FnExactLowerValueSaid : Prop := fnExactLowerValueRow.holds Try.pinned (OpenSpec.ofChange fnExactLowerValueSpec)

/-- ITS FALSE NEIGHBOUR: 'it returns false'. Refute it at one input. -/
def fnExactLowerValueWrong : ChangeSpec := { name := "fnExactLowerValue", fn := fun _ => fun
  | [d1, d2] => { results := [.lit (.bool false)], args := [d1, d2] }
  | _ => none }
def FnExactLowerValueWrongFalsely : Prop := fnExactLowerValueRow.holds Try.pinned (OpenSpec.ofChange fnExactLowerValueWrong)

/-- 'laws.FnExactCommutes': WHATEVER THE INPUT: true; the input reads as it did. -/
def fnExactCommutesSpec : ChangeSpec := { name := "fnExactCommutes", fn := fun _ => fun
  | [d] => { results := [.lit (.bool true)], args := [d] }
  | _ => none }
def fnExactCommutesRow : OpenClaim := { program := "ytelhbphlmohclaa", sum := "39229860e906dc953bcf6409259061ac80745e38895d02c22f357785d784142a", func := "loop.example/windowaggregates/laws.FnExactCommutes", spec := "fnExactCommutes", unfollowed := true, recurses := true, apart := false }
def FnExactCommutesSaid : Prop := fnExactCommutesRow.holds Try.pinned (OpenSpec.ofChange fnExactCommutesSpec)

/-- ITS FALSE NEIGHBOUR: 'it returns false'. Refute it at one input. -/
def fnExactCommutesWrong : ChangeSpec := { name := "fnExactCommutes", fn := fun _ => fun
  | [d] => { results := [.lit (.bool false)], args := [d] }
  | _ => none }
def FnExactCommutesWrongFalsely : Prop := fnExactCommutesRow.holds Try.pinned (OpenSpec.ofChange fnExactCommutesWrong)

/-- 'laws.FnExactRemoveFirst': WHATEVER THE INPUT: true; the input reads as it did. -/
def fnExactRemoveFirstSpec : ChangeSpec := { name := "fnExactRemoveFirst", fn := fun _ => fun
  | [d1, d2, d3] => { results := [.lit (.bool true)], args := [d1, d2, d3] }
  | _ => none }
def fnExactRemoveFirstRow : OpenClaim := { program := "ytelhbphlmohclaa", sum := "39229860e906dc953bcf6409259061ac80745e38895d02c22f357785d784142a", func := "loop.example/windowaggregates/laws.FnExactRemoveFirst", spec := "fnExactRemoveFirst", unfollowed := true, recurses := true, apart := false }
def FnExactRemoveFirstSaid : Prop := fnExactRemoveFirstRow.holds Try.pinned (OpenSpec.ofChange fnExactRemoveFirstSpec)

/-- ITS FALSE NEIGHBOUR: 'it returns false'. Refute it at one input. -/
def fnExactRemoveFirstWrong : ChangeSpec := { name := "fnExactRemoveFirst", fn := fun _ => fun
  | [d1, d2, d3] => { results := [.lit (.bool false)], args := [d1, d2, d3] }
  | _ => none }
def FnExactRemoveFirstWrongFalsely : Prop := fnExactRemoveFirstRow.holds Try.pinned (OpenSpec.ofChange fnExactRemoveFirstWrong)

/-- 'laws.FnExactFoldItems': WHATEVER THE INPUT: true; the input reads as it did. -/
def fnExactFoldItemsSpec : ChangeSpec := { name := "fnExactFoldItems", fn := fun _ => fun
  | [d1, d2] => { results := [.lit (.bool true)], args := [d1, d2] }
  | _ => none }
def fnExactFoldItemsRow : OpenClaim := { program := "ytelhbphlmohclaa", sum := "39229860e906dc953bcf6409259061ac80745e38895d02c22f357785d784142a", func := "loop.example/windowaggregates/laws.FnExactFoldItems", spec := "fnExactFoldItems", unfollowed := true, recurses := true, apart := false }
def FnExactFoldItemsSaid : Prop := fnExactFoldItemsRow.holds Try.pinned (OpenSpec.ofChange fnExactFoldItemsSpec)

/-- ITS FALSE NEIGHBOUR: 'it returns false'. Refute it at one input. -/
def fnExactFoldItemsWrong : ChangeSpec := { name := "fnExactFoldItems", fn := fun _ => fun
  | [d1, d2] => { results := [.lit (.bool false)], args := [d1, d2] }
  | _ => none }
def FnExactFoldItemsWrongFalsely : Prop := fnExactFoldItemsRow.holds Try.pinned (OpenSpec.ofChange fnExactFoldItemsWrong)

/- THE SECOND FORM. 'bulk': how many values and letters a reading holds, each counted each time it is reached (what is shared counts as often as it is met; a slice's spare places count too). A statement '..UptoSaid' is the law's where the arguments, and the package variables that the reading takes, are together of bulk at most 1048576: NARROWER than '..Said'. Prove '..Said' where nothing that the law and all that it calls make is longer than what came in: it says more and counts as full. Else prove '..UptoSaid'. A law counts once. -/
mutual
def uptoBulk {H : Type} : DataW H → Nat
  | .lit (.string bytes) => bytes.length + 1
  | .lit _ => 1
  | .nil => 1
  | .ptr d => uptoBulk d + 1
  | .slice elems spare => uptoBulkAll elems + uptoBulkAll spare + 1
  | .agg parts => uptoBulkAll parts + 1
  | .iface _ d => uptoBulk d + 1
  | .map entries => uptoBulkEntries entries + 1
  | .held _ => 1
def uptoBulkAll {H : Type} : List (DataW H) → Nat
  | [] => 0
  | d :: r => uptoBulk d + uptoBulkAll r
def uptoBulkEntries {H : Type} : List (Lit × DataW H) → Nat
  | [] => 0
  | x :: r => uptoBulkEntry x + uptoBulkEntries r
def uptoBulkEntry {H : Type} : Lit × DataW H → Nat
  | (.string bytes, d) => bytes.length + uptoBulk d + 1
  | (_, d) => uptoBulk d + 1
 end
def uptoSmall : (H : Type) → List (DataW H) → Bool := fun _ ds => decide (uptoBulkAll ds ≤ 1048576)
def OpenSpec.upto (s : _root_.Go.ChangeSpec) : _root_.Go.OpenSpec := { _root_.Go.OpenSpec.ofChange s with cond := some uptoSmall }

/-- 'laws.FnExactKindValid', WHERE WHAT IT READS IS OF BULK AT MOST 1048576: true; the input reads as it did. -/
def fnExactKindValidUptoRow : OpenClaim := { program := "ytelhbphlmohclaa", sum := "39229860e906dc953bcf6409259061ac80745e38895d02c22f357785d784142a", func := "loop.example/windowaggregates/laws.FnExactKindValid", spec := "fnExactKindValid", apart := false, narrowed := true }
def FnExactKindValidUptoSaid : Prop := fnExactKindValidUptoRow.holds Try.pinned (OpenSpec.upto fnExactKindValidSpec)

/-- 'laws.FnExactValueValid', WHERE WHAT IT READS IS OF BULK AT MOST 1048576: true; the input reads as it did. -/
def fnExactValueValidUptoRow : OpenClaim := { program := "ytelhbphlmohclaa", sum := "39229860e906dc953bcf6409259061ac80745e38895d02c22f357785d784142a", func := "loop.example/windowaggregates/laws.FnExactValueValid", spec := "fnExactValueValid", unfollowed := true, recurses := true, apart := false, narrowed := true }
def FnExactValueValidUptoSaid : Prop := fnExactValueValidUptoRow.holds Try.pinned (OpenSpec.upto fnExactValueValidSpec)

/-- 'laws.FnExactLiftItem', WHERE WHAT IT READS IS OF BULK AT MOST 1048576: true; the input reads as it did. -/
def fnExactLiftItemUptoRow : OpenClaim := { program := "ytelhbphlmohclaa", sum := "39229860e906dc953bcf6409259061ac80745e38895d02c22f357785d784142a", func := "loop.example/windowaggregates/laws.FnExactLiftItem", spec := "fnExactLiftItem", unfollowed := true, recurses := true, apart := false, narrowed := true }
def FnExactLiftItemUptoSaid : Prop := fnExactLiftItemUptoRow.holds Try.pinned (OpenSpec.upto fnExactLiftItemSpec)

/-- 'laws.FnExactUnitOf', WHERE WHAT IT READS IS OF BULK AT MOST 1048576: true; the input reads as it did. -/
def fnExactUnitOfUptoRow : OpenClaim := { program := "ytelhbphlmohclaa", sum := "39229860e906dc953bcf6409259061ac80745e38895d02c22f357785d784142a", func := "loop.example/windowaggregates/laws.FnExactUnitOf", spec := "fnExactUnitOf", unfollowed := true, recurses := true, apart := false, narrowed := true }
def FnExactUnitOfUptoSaid : Prop := fnExactUnitOfUptoRow.holds Try.pinned (OpenSpec.upto fnExactUnitOfSpec)

/-- 'laws.FnExactCombineValues', WHERE WHAT IT READS IS OF BULK AT MOST 1048576: true; the input reads as it did. -/
def fnExactCombineValuesUptoRow : OpenClaim := { program := "ytelhbphlmohclaa", sum := "39229860e906dc953bcf6409259061ac80745e38895d02c22f357785d784142a", func := "loop.example/windowaggregates/laws.FnExactCombineValues", spec := "fnExactCombineValues", unfollowed := true, recurses := true, apart := false, narrowed := true }
def FnExactCombineValuesUptoSaid : Prop := fnExactCombineValuesUptoRow.holds Try.pinned (OpenSpec.upto fnExactCombineValuesSpec)

/-- 'laws.FnExactLowerValue', WHERE WHAT IT READS IS OF BULK AT MOST 1048576: true; the input reads as it did. -/
def fnExactLowerValueUptoRow : OpenClaim := { program := "ytelhbphlmohclaa", sum := "39229860e906dc953bcf6409259061ac80745e38895d02c22f357785d784142a", func := "loop.example/windowaggregates/laws.FnExactLowerValue", spec := "fnExactLowerValue", unfollowed := true, recurses := true, apart := false, narrowed := true }
def FnExactLowerValueUptoSaid : Prop := fnExactLowerValueUptoRow.holds Try.pinned (OpenSpec.upto fnExactLowerValueSpec)

/-- 'laws.FnExactCommutes', WHERE WHAT IT READS IS OF BULK AT MOST 1048576: true; the input reads as it did. -/
def fnExactCommutesUptoRow : OpenClaim := { program := "ytelhbphlmohclaa", sum := "39229860e906dc953bcf6409259061ac80745e38895d02c22f357785d784142a", func := "loop.example/windowaggregates/laws.FnExactCommutes", spec := "fnExactCommutes", unfollowed := true, recurses := true, apart := false, narrowed := true }
def FnExactCommutesUptoSaid : Prop := fnExactCommutesUptoRow.holds Try.pinned (OpenSpec.upto fnExactCommutesSpec)

/-- 'laws.FnExactRemoveFirst', WHERE WHAT IT READS IS OF BULK AT MOST 1048576: true; the input reads as it did. -/
def fnExactRemoveFirstUptoRow : OpenClaim := { program := "ytelhbphlmohclaa", sum := "39229860e906dc953bcf6409259061ac80745e38895d02c22f357785d784142a", func := "loop.example/windowaggregates/laws.FnExactRemoveFirst", spec := "fnExactRemoveFirst", unfollowed := true, recurses := true, apart := false, narrowed := true }
def FnExactRemoveFirstUptoSaid : Prop := fnExactRemoveFirstUptoRow.holds Try.pinned (OpenSpec.upto fnExactRemoveFirstSpec)

/-- 'laws.FnExactFoldItems', WHERE WHAT IT READS IS OF BULK AT MOST 1048576: true; the input reads as it did. -/
def fnExactFoldItemsUptoRow : OpenClaim := { program := "ytelhbphlmohclaa", sum := "39229860e906dc953bcf6409259061ac80745e38895d02c22f357785d784142a", func := "loop.example/windowaggregates/laws.FnExactFoldItems", spec := "fnExactFoldItems", unfollowed := true, recurses := true, apart := false, narrowed := true }
def FnExactFoldItemsUptoSaid : Prop := fnExactFoldItemsUptoRow.holds Try.pinned (OpenSpec.upto fnExactFoldItemsSpec)

end Rows
end Go.Proofs.Ytelhbphlmohclaa
