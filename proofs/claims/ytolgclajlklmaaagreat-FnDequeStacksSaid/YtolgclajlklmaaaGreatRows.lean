/-
  No cell of these rows narrows 'for every input' (looked for: loops, veiled, ifaces, maps, wideKeys, modest, calm, conditions, laid).
  DERIVED. THE GIVEN ROWS OF THIS SEAT. 3 by the template 'for every input the law returns true; each argument reads behind the call as it read before'; 0 by the template 'total and deterministic' (their statements: YtolgclajlklmaaaGreatTotals.lean).
  GIVEN WITH THE SEED: the statements are not yours to turn. If you find one false, say at which input.
  Laid BY PROGRAM, IN A SANDBOX (cutbox-rows.mjs): the forced cells as the released guide's own fill.sh prints them over the translation 79005b8f9e9443b8… (all of the seat's roots in one cut). By AI agents, Wed Nov 11 2026. No macro, syntax, notation, axiom, sorry.
-/
import Derived.Test.YtolgclajlklmaaaGreatChecked
import GoSem.Claim
import GoSem.ClaimJoined
import GoSem.ClaimMapViews
import Derived.JoinedTies
import Derived.KernelRfl
namespace Go.Proofs.YtolgclajlklmaaaGreat
/- THE CELL 'sum', in the pinned program and in every row, IS THE sha256 OF THE DUMP (.gsa) THAT YtolgclajlklmaaaGreatProg.lean LOADS. Nothing in Lean hashes anything: it is a label: what it is worth is what the hold of that sum in a sandbox is worth. -/
noncomputable def Tryz.pinned : Pinned := { name := "ytolgclajlklmaaagreat", sum := "79005b8f9e9443b8cbd51bac181550e1f58be0acb081a7496f72818a3b319cc1", checked := Tryz.checked }
namespace Rows
def none {H : Type} : Left H := { results := [], args := [] }

/-- 'laws.FnDequeRun': WHATEVER THE INPUT: true; the input reads as it did. -/
def fnDequeRunSpec : ChangeSpec := { name := "fnDequeRun", fn := fun _ => fun
  | [d] => { results := [.lit (.bool true)], args := [d] }
  | _ => none }
def fnDequeRunRow : OpenClaim := { program := "ytolgclajlklmaaagreat", sum := "79005b8f9e9443b8cbd51bac181550e1f58be0acb081a7496f72818a3b319cc1", func := "loop.example/windowaggregates/laws.FnDequeRun", spec := "fnDequeRun", unfollowed := true, recurses := true, apart := false }
def FnDequeRunSaid : Prop := fnDequeRunRow.holds Tryz.pinned (OpenSpec.ofChange fnDequeRunSpec)

/-- ITS FALSE NEIGHBOUR: 'it returns false'. Refute it at one input. -/
def fnDequeRunWrong : ChangeSpec := { name := "fnDequeRun", fn := fun _ => fun
  | [d] => { results := [.lit (.bool false)], args := [d] }
  | _ => none }
def FnDequeRunWrongFalsely : Prop := fnDequeRunRow.holds Tryz.pinned (OpenSpec.ofChange fnDequeRunWrong)

/-- 'laws.FnDequeStacks': WHATEVER THE INPUT: true; the input reads as it did. -/
def fnDequeStacksSpec : ChangeSpec := { name := "fnDequeStacks", fn := fun _ => fun
  | [d] => { results := [.lit (.bool true)], args := [d] }
  | _ => none }
def fnDequeStacksRow : OpenClaim := { program := "ytolgclajlklmaaagreat", sum := "79005b8f9e9443b8cbd51bac181550e1f58be0acb081a7496f72818a3b319cc1", func := "loop.example/windowaggregates/laws.FnDequeStacks", spec := "fnDequeStacks", unfollowed := true, recurses := true, apart := false }
def FnDequeStacksSaid : Prop := fnDequeStacksRow.holds Tryz.pinned (OpenSpec.ofChange fnDequeStacksSpec)

/-- ITS FALSE NEIGHBOUR: 'it returns false'. Refute it at one input. -/
def fnDequeStacksWrong : ChangeSpec := { name := "fnDequeStacks", fn := fun _ => fun
  | [d] => { results := [.lit (.bool false)], args := [d] }
  | _ => none }
def FnDequeStacksWrongFalsely : Prop := fnDequeStacksRow.holds Tryz.pinned (OpenSpec.ofChange fnDequeStacksWrong)

/-- 'laws.FnExactSlicesOf': WHATEVER THE INPUT: true; the input reads as it did. -/
def fnExactSlicesOfSpec : ChangeSpec := { name := "fnExactSlicesOf", fn := fun _ => fun
  | [d1, d2, d3] => { results := [.lit (.bool true)], args := [d1, d2, d3] }
  | _ => none }
def fnExactSlicesOfRow : OpenClaim := { program := "ytolgclajlklmaaagreat", sum := "79005b8f9e9443b8cbd51bac181550e1f58be0acb081a7496f72818a3b319cc1", func := "loop.example/windowaggregates/laws.FnExactSlicesOf", spec := "fnExactSlicesOf", unfollowed := true, recurses := true, apart := false }
def FnExactSlicesOfSaid : Prop := fnExactSlicesOfRow.holds Tryz.pinned (OpenSpec.ofChange fnExactSlicesOfSpec)

/-- ITS FALSE NEIGHBOUR: 'it returns false'. Refute it at one input. -/
def fnExactSlicesOfWrong : ChangeSpec := { name := "fnExactSlicesOf", fn := fun _ => fun
  | [d1, d2, d3] => { results := [.lit (.bool false)], args := [d1, d2, d3] }
  | _ => none }
def FnExactSlicesOfWrongFalsely : Prop := fnExactSlicesOfRow.holds Tryz.pinned (OpenSpec.ofChange fnExactSlicesOfWrong)

/- THE SECOND FORM. 'bulk': how many values and letters a reading holds, each counted each time it is reached (what is shared counts as often as it is met; a slice's spare places count too). A statement '..UptoSaid' is the law's where the arguments, and the package variables that the reading takes, are together of bulk at most 1048576: NARROWER than '..Said'. Prove '..Said' where nothing that the law and all that it calls make is longer than what came in: it says more and counts as full. Else prove '..UptoSaid'. A law counts once. -/
mutual
def uptoBulk {H : Type} : DataW H → Nat
  | .lit (.string bytes) => bytes.length + 1
  | .lit _ => 1
  | .nil => 1
  | .ptr d => uptoBulk d + 1
  | .slice elems spare => uptoBulkAll elems + uptoBulkAll spare + 1
  | .agg parts => uptoBulkAll parts + 1
  | .iface _ d => uptoBulk d + 1
  | .map entries => uptoBulkEntries entries + 1
  | .held _ => 1
def uptoBulkAll {H : Type} : List (DataW H) → Nat
  | [] => 0
  | d :: r => uptoBulk d + uptoBulkAll r
def uptoBulkEntries {H : Type} : List (Lit × DataW H) → Nat
  | [] => 0
  | x :: r => uptoBulkEntry x + uptoBulkEntries r
def uptoBulkEntry {H : Type} : Lit × DataW H → Nat
  | (.string bytes, d) => bytes.length + uptoBulk d + 1
  | (_, d) => uptoBulk d + 1
 end
def uptoSmall : (H : Type) → List (DataW H) → Bool := fun _ ds => decide (uptoBulkAll ds ≤ 1048576)
def OpenSpec.upto (s : _root_.Go.ChangeSpec) : _root_.Go.OpenSpec := { _root_.Go.OpenSpec.ofChange s with cond := some uptoSmall }

/-- 'laws.FnDequeRun', WHERE WHAT IT READS IS OF BULK AT MOST 1048576: true; the input reads as it did. -/
def fnDequeRunUptoRow : OpenClaim := { program := "ytolgclajlklmaaagreat", sum := "79005b8f9e9443b8cbd51bac181550e1f58be0acb081a7496f72818a3b319cc1", func := "loop.example/windowaggregates/laws.FnDequeRun", spec := "fnDequeRun", unfollowed := true, recurses := true, apart := false, narrowed := true }
def FnDequeRunUptoSaid : Prop := fnDequeRunUptoRow.holds Tryz.pinned (OpenSpec.upto fnDequeRunSpec)

/-- 'laws.FnDequeStacks', WHERE WHAT IT READS IS OF BULK AT MOST 1048576: true; the input reads as it did. -/
def fnDequeStacksUptoRow : OpenClaim := { program := "ytolgclajlklmaaagreat", sum := "79005b8f9e9443b8cbd51bac181550e1f58be0acb081a7496f72818a3b319cc1", func := "loop.example/windowaggregates/laws.FnDequeStacks", spec := "fnDequeStacks", unfollowed := true, recurses := true, apart := false, narrowed := true }
def FnDequeStacksUptoSaid : Prop := fnDequeStacksUptoRow.holds Tryz.pinned (OpenSpec.upto fnDequeStacksSpec)

/-- 'laws.FnExactSlicesOf', WHERE WHAT IT READS IS OF BULK AT MOST 1048576: true; the input reads as it did. -/
def fnExactSlicesOfUptoRow : OpenClaim := { program := "ytolgclajlklmaaagreat", sum := "79005b8f9e9443b8cbd51bac181550e1f58be0acb081a7496f72818a3b319cc1", func := "loop.example/windowaggregates/laws.FnExactSlicesOf", spec := "fnExactSlicesOf", unfollowed := true, recurses := true, apart := false, narrowed := true }
def FnExactSlicesOfUptoSaid : Prop := fnExactSlicesOfUptoRow.holds Tryz.pinned (OpenSpec.upto fnExactSlicesOfSpec)

end Rows
end Go.Proofs.YtolgclajlklmaaaGreat
