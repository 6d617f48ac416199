/-
  No cell of these rows narrows 'for every input' (looked for: loops, veiled, ifaces, maps, wideKeys, modest, calm, conditions, laid).
  DERIVED. THE GIVEN ROWS OF THIS SEAT. 4 by the template 'for every input the law returns true; each argument reads behind the call as it read before'; 0 by the template 'total and deterministic' (their statements: YtohllpdmopofoaaGreatTotals.lean).
  GIVEN WITH THE SEED: the statements are not yours to turn. If you find one false, say at which input.
  Laid BY PROGRAM, IN A SANDBOX (cutbox-rows.mjs): the forced cells as the released guide's own fill.sh prints them over the translation 782a320fd36557d5… (all of the seat's roots in one cut). By AI agents, Wed Nov 11 2026. No macro, syntax, notation, axiom, sorry.
-/
import Derived.Test.YtohllpdmopofoaaGreatChecked
import GoSem.Claim
import GoSem.ClaimJoined
import GoSem.ClaimMapViews
import Derived.JoinedTies
import Derived.KernelRfl
namespace Go.Proofs.YtohllpdmopofoaaGreat
/- THE CELL 'sum', in the pinned program and in every row, IS THE sha256 OF THE DUMP (.gsa) THAT YtohllpdmopofoaaGreatProg.lean LOADS. Nothing in Lean hashes anything: it is a label: what it is worth is what the hold of that sum in a sandbox is worth. -/
noncomputable def Tryz.pinned : Pinned := { name := "ytohllpdmopofoaagreat", sum := "782a320fd36557d5bd79691ac603005f5387660afb6f00f78e36feace47a70a3", checked := Tryz.checked }
namespace Rows
def none {H : Type} : Left H := { results := [], args := [] }

/-- 'laws.FnHopNumbers': WHATEVER THE INPUT: true; the input reads as it did. -/
def fnHopNumbersSpec : ChangeSpec := { name := "fnHopNumbers", fn := fun _ => fun
  | [d] => { results := [.lit (.bool true)], args := [d] }
  | _ => none }
def fnHopNumbersRow : OpenClaim := { program := "ytohllpdmopofoaagreat", sum := "782a320fd36557d5bd79691ac603005f5387660afb6f00f78e36feace47a70a3", func := "loop.example/windowaggregates/laws.FnHopNumbers", spec := "fnHopNumbers", unfollowed := true, recurses := true, apart := false }
def FnHopNumbersSaid : Prop := fnHopNumbersRow.holds Tryz.pinned (OpenSpec.ofChange fnHopNumbersSpec)

/-- ITS FALSE NEIGHBOUR: 'it returns false'. Refute it at one input. -/
def fnHopNumbersWrong : ChangeSpec := { name := "fnHopNumbers", fn := fun _ => fun
  | [d] => { results := [.lit (.bool false)], args := [d] }
  | _ => none }
def FnHopNumbersWrongFalsely : Prop := fnHopNumbersRow.holds Tryz.pinned (OpenSpec.ofChange fnHopNumbersWrong)

/-- 'laws.FnPanesOf': WHATEVER THE INPUT: true; the input reads as it did. -/
def fnPanesOfSpec : ChangeSpec := { name := "fnPanesOf", fn := fun _ => fun
  | [d] => { results := [.lit (.bool true)], args := [d] }
  | _ => none }
def fnPanesOfRow : OpenClaim := { program := "ytohllpdmopofoaagreat", sum := "782a320fd36557d5bd79691ac603005f5387660afb6f00f78e36feace47a70a3", func := "loop.example/windowaggregates/laws.FnPanesOf", spec := "fnPanesOf", unfollowed := true, recurses := true, apart := false }
def FnPanesOfSaid : Prop := fnPanesOfRow.holds Tryz.pinned (OpenSpec.ofChange fnPanesOfSpec)

/-- ITS FALSE NEIGHBOUR: 'it returns false'. Refute it at one input. -/
def fnPanesOfWrong : ChangeSpec := { name := "fnPanesOf", fn := fun _ => fun
  | [d] => { results := [.lit (.bool false)], args := [d] }
  | _ => none }
def FnPanesOfWrongFalsely : Prop := fnPanesOfRow.holds Tryz.pinned (OpenSpec.ofChange fnPanesOfWrong)

/-- 'laws.FnPaneNumbers': WHATEVER THE INPUT: true; the input reads as it did. -/
def fnPaneNumbersSpec : ChangeSpec := { name := "fnPaneNumbers", fn := fun _ => fun
  | [d] => { results := [.lit (.bool true)], args := [d] }
  | _ => none }
def fnPaneNumbersRow : OpenClaim := { program := "ytohllpdmopofoaagreat", sum := "782a320fd36557d5bd79691ac603005f5387660afb6f00f78e36feace47a70a3", func := "loop.example/windowaggregates/laws.FnPaneNumbers", spec := "fnPaneNumbers", unfollowed := true, recurses := true, apart := false }
def FnPaneNumbersSaid : Prop := fnPaneNumbersRow.holds Tryz.pinned (OpenSpec.ofChange fnPaneNumbersSpec)

/-- ITS FALSE NEIGHBOUR: 'it returns false'. Refute it at one input. -/
def fnPaneNumbersWrong : ChangeSpec := { name := "fnPaneNumbers", fn := fun _ => fun
  | [d] => { results := [.lit (.bool false)], args := [d] }
  | _ => none }
def FnPaneNumbersWrongFalsely : Prop := fnPaneNumbersRow.holds Tryz.pinned (OpenSpec.ofChange fnPaneNumbersWrong)

/-- 'laws.FnHopTumble': WHATEVER THE INPUT: true; the input reads as it did. -/
def fnHopTumbleSpec : ChangeSpec := { name := "fnHopTumble", fn := fun _ => fun
  | [d] => { results := [.lit (.bool true)], args := [d] }
  | _ => none }
def fnHopTumbleRow : OpenClaim := { program := "ytohllpdmopofoaagreat", sum := "782a320fd36557d5bd79691ac603005f5387660afb6f00f78e36feace47a70a3", func := "loop.example/windowaggregates/laws.FnHopTumble", spec := "fnHopTumble", unfollowed := true, recurses := true, apart := false }
def FnHopTumbleSaid : Prop := fnHopTumbleRow.holds Tryz.pinned (OpenSpec.ofChange fnHopTumbleSpec)

/-- ITS FALSE NEIGHBOUR: 'it returns false'. Refute it at one input. -/
def fnHopTumbleWrong : ChangeSpec := { name := "fnHopTumble", fn := fun _ => fun
  | [d] => { results := [.lit (.bool false)], args := [d] }
  | _ => none }
def FnHopTumbleWrongFalsely : Prop := fnHopTumbleRow.holds Tryz.pinned (OpenSpec.ofChange fnHopTumbleWrong)

/- THE SECOND FORM. 'bulk': how many values and letters a reading holds, each counted each time it is reached (what is shared counts as often as it is met; a slice's spare places count too). A statement '..UptoSaid' is the law's where the arguments, and the package variables that the reading takes, are together of bulk at most 1048576: NARROWER than '..Said'. Prove '..Said' where nothing that the law and all that it calls make is longer than what came in: it says more and counts as full. Else prove '..UptoSaid'. A law counts once. -/
mutual
def uptoBulk {H : Type} : DataW H → Nat
  | .lit (.string bytes) => bytes.length + 1
  | .lit _ => 1
  | .nil => 1
  | .ptr d => uptoBulk d + 1
  | .slice elems spare => uptoBulkAll elems + uptoBulkAll spare + 1
  | .agg parts => uptoBulkAll parts + 1
  | .iface _ d => uptoBulk d + 1
  | .map entries => uptoBulkEntries entries + 1
  | .held _ => 1
def uptoBulkAll {H : Type} : List (DataW H) → Nat
  | [] => 0
  | d :: r => uptoBulk d + uptoBulkAll r
def uptoBulkEntries {H : Type} : List (Lit × DataW H) → Nat
  | [] => 0
  | x :: r => uptoBulkEntry x + uptoBulkEntries r
def uptoBulkEntry {H : Type} : Lit × DataW H → Nat
  | (.string bytes, d) => bytes.length + uptoBulk d + 1
  | (_, d) => uptoBulk d + 1
 end
def uptoSmall : (H : Type) → List (DataW H) → Bool := fun _ ds => decide (uptoBulkAll ds ≤ 1048576)
def OpenSpec.upto (s : _root_.Go.ChangeSpec) : _root_.Go.OpenSpec := { _root_.Go.OpenSpec.ofChange s with cond := some uptoSmall }

/-- 'laws.FnHopNumbers', WHERE WHAT IT READS IS OF BULK AT MOST 1048576: true; the input reads as it did. -/
def fnHopNumbersUptoRow : OpenClaim := { program := "ytohllpdmopofoaagreat", sum := "782a320fd36557d5bd79691ac603005f5387660afb6f00f78e36feace47a70a3", func := "loop.example/windowaggregates/laws.FnHopNumbers", spec := "fnHopNumbers", unfollowed := true, recurses := true, apart := false, narrowed := true }
def FnHopNumbersUptoSaid : Prop := fnHopNumbersUptoRow.holds Tryz.pinned (OpenSpec.upto fnHopNumbersSpec)

/-- 'laws.FnPanesOf', WHERE WHAT IT READS IS OF BULK AT MOST 1048576: true; the input reads as it did. -/
def fnPanesOfUptoRow : OpenClaim := { program := "ytohllpdmopofoaagreat", sum := "782a320fd36557d5bd79691ac603005f5387660afb6f00f78e36feace47a70a3", func := "loop.example/windowaggregates/laws.FnPanesOf", spec := "fnPanesOf", unfollowed := true, recurses := true, apart := false, narrowed := true }
def FnPanesOfUptoSaid : Prop := fnPanesOfUptoRow.holds Tryz.pinned (OpenSpec.upto fnPanesOfSpec)

/-- 'laws.FnPaneNumbers', WHERE WHAT IT READS IS OF BULK AT MOST 1048576: true; the input reads as it did. -/
def fnPaneNumbersUptoRow : OpenClaim := { program := "ytohllpdmopofoaagreat", sum := "782a320fd36557d5bd79691ac603005f5387660afb6f00f78e36feace47a70a3", func := "loop.example/windowaggregates/laws.FnPaneNumbers", spec := "fnPaneNumbers", unfollowed := true, recurses := true, apart := false, narrowed := true }
def FnPaneNumbersUptoSaid : Prop := fnPaneNumbersUptoRow.holds Tryz.pinned (OpenSpec.upto fnPaneNumbersSpec)

/-- 'laws.FnHopTumble', WHERE WHAT IT READS IS OF BULK AT MOST 1048576: true; the input reads as it did. -/
def fnHopTumbleUptoRow : OpenClaim := { program := "ytohllpdmopofoaagreat", sum := "782a320fd36557d5bd79691ac603005f5387660afb6f00f78e36feace47a70a3", func := "loop.example/windowaggregates/laws.FnHopTumble", spec := "fnHopTumble", unfollowed := true, recurses := true, apart := false, narrowed := true }
def FnHopTumbleUptoSaid : Prop := fnHopTumbleUptoRow.holds Tryz.pinned (OpenSpec.upto fnHopTumbleSpec)

end Rows
end Go.Proofs.YtohllpdmopofoaaGreat
