/-
  No cell of these rows narrows 'for every input' (looked for: loops, veiled, ifaces, maps, wideKeys, modest, calm, conditions, laid).
  DERIVED. THE GIVEN ROWS OF THIS SEAT. 3 by the template 'for every input the law returns true; each argument reads behind the call as it read before'; 0 by the template 'total and deterministic' (their statements: YthkokeeciicdnaaTotals.lean).
  GIVEN WITH THE SEED: the statements are not yours to turn. If you find one false, say at which input.
  Laid BY PROGRAM, IN A SANDBOX (cutbox-rows.mjs): the forced cells as the released guide's own fill.sh prints them over the translation c295e69919ee445f… (all of the seat's roots in one cut). By AI agents, Wed Nov 11 2026. No macro, syntax, notation, axiom, sorry.
-/
import Derived.Test.YthkokeeciicdnaaChecked
import GoSem.Claim
import GoSem.ClaimJoined
import GoSem.ClaimMapViews
import Derived.JoinedTies
import Derived.KernelRfl
namespace Go.Proofs.Ythkokeeciicdnaa
/- THE CELL 'sum', in the pinned program and in every row, IS THE sha256 OF THE DUMP (.gsa) THAT YthkokeeciicdnaaProg.lean LOADS. Nothing in Lean hashes anything: it is a label: what it is worth is what the hold of that sum in a sandbox is worth. -/
noncomputable def Try.pinned : Pinned := { name := "ythkokeeciicdnaa", sum := "c295e69919ee445febd427a3e1b45171f417c42edae32caf3b6ec5b9e3309204", checked := Try.checked }
namespace Rows
def none {H : Type} : Left H := { results := [], args := [] }

/-- 'laws.FnQueueStart': WHATEVER THE INPUT: true; the input reads as it did. -/
def fnQueueStartSpec : ChangeSpec := { name := "fnQueueStart", fn := fun _ => fun
  | [d] => { results := [.lit (.bool true)], args := [d] }
  | _ => none }
def fnQueueStartRow : OpenClaim := { program := "ythkokeeciicdnaa", sum := "c295e69919ee445febd427a3e1b45171f417c42edae32caf3b6ec5b9e3309204", func := "loop.example/windowaggregates/laws.FnQueueStart", spec := "fnQueueStart", unfollowed := true, recurses := true, apart := false }
def FnQueueStartSaid : Prop := fnQueueStartRow.holds Try.pinned (OpenSpec.ofChange fnQueueStartSpec)

/-- ITS FALSE NEIGHBOUR: 'it returns false'. Refute it at one input. -/
def fnQueueStartWrong : ChangeSpec := { name := "fnQueueStart", fn := fun _ => fun
  | [d] => { results := [.lit (.bool false)], args := [d] }
  | _ => none }
def FnQueueStartWrongFalsely : Prop := fnQueueStartRow.holds Try.pinned (OpenSpec.ofChange fnQueueStartWrong)

/-- 'laws.FnExactFormatOps': WHATEVER THE INPUT: true; the input reads as it did. -/
def fnExactFormatOpsSpec : ChangeSpec := { name := "fnExactFormatOps", fn := fun _ => fun
  | [d] => { results := [.lit (.bool true)], args := [d] }
  | _ => none }
def fnExactFormatOpsRow : OpenClaim := { program := "ythkokeeciicdnaa", sum := "c295e69919ee445febd427a3e1b45171f417c42edae32caf3b6ec5b9e3309204", func := "loop.example/windowaggregates/laws.FnExactFormatOps", spec := "fnExactFormatOps", inPlace := ["internal/abi.NoEscape", "internal/bytealg.MakeNoZero"], unfollowed := true, recurses := true, apart := false }
def FnExactFormatOpsSaid : Prop := fnExactFormatOpsRow.holds Try.pinned (OpenSpec.ofChange fnExactFormatOpsSpec)

/-- ITS FALSE NEIGHBOUR: 'it returns false'. Refute it at one input. -/
def fnExactFormatOpsWrong : ChangeSpec := { name := "fnExactFormatOps", fn := fun _ => fun
  | [d] => { results := [.lit (.bool false)], args := [d] }
  | _ => none }
def FnExactFormatOpsWrongFalsely : Prop := fnExactFormatOpsRow.holds Try.pinned (OpenSpec.ofChange fnExactFormatOpsWrong)

/-- 'laws.FnSlideOps': WHATEVER THE INPUT: true; the input reads as it did. -/
def fnSlideOpsSpec : ChangeSpec := { name := "fnSlideOps", fn := fun _ => fun
  | [d] => { results := [.lit (.bool true)], args := [d] }
  | _ => none }
def fnSlideOpsRow : OpenClaim := { program := "ythkokeeciicdnaa", sum := "c295e69919ee445febd427a3e1b45171f417c42edae32caf3b6ec5b9e3309204", func := "loop.example/windowaggregates/laws.FnSlideOps", spec := "fnSlideOps", inPlace := ["internal/abi.NoEscape", "internal/bytealg.MakeNoZero"], unfollowed := true, recurses := true, apart := false }
def FnSlideOpsSaid : Prop := fnSlideOpsRow.holds Try.pinned (OpenSpec.ofChange fnSlideOpsSpec)

/-- ITS FALSE NEIGHBOUR: 'it returns false'. Refute it at one input. -/
def fnSlideOpsWrong : ChangeSpec := { name := "fnSlideOps", fn := fun _ => fun
  | [d] => { results := [.lit (.bool false)], args := [d] }
  | _ => none }
def FnSlideOpsWrongFalsely : Prop := fnSlideOpsRow.holds Try.pinned (OpenSpec.ofChange fnSlideOpsWrong)

/- THE SECOND FORM. 'bulk': how many values and letters a reading holds, each counted each time it is reached (what is shared counts as often as it is met; a slice's spare places count too). A statement '..UptoSaid' is the law's where the arguments, and the package variables that the reading takes, are together of bulk at most 1048576: NARROWER than '..Said'. Prove '..Said' where nothing that the law and all that it calls make is longer than what came in: it says more and counts as full. Else prove '..UptoSaid'. A law counts once. -/
mutual
def uptoBulk {H : Type} : DataW H → Nat
  | .lit (.string bytes) => bytes.length + 1
  | .lit _ => 1
  | .nil => 1
  | .ptr d => uptoBulk d + 1
  | .slice elems spare => uptoBulkAll elems + uptoBulkAll spare + 1
  | .agg parts => uptoBulkAll parts + 1
  | .iface _ d => uptoBulk d + 1
  | .map entries => uptoBulkEntries entries + 1
  | .held _ => 1
def uptoBulkAll {H : Type} : List (DataW H) → Nat
  | [] => 0
  | d :: r => uptoBulk d + uptoBulkAll r
def uptoBulkEntries {H : Type} : List (Lit × DataW H) → Nat
  | [] => 0
  | x :: r => uptoBulkEntry x + uptoBulkEntries r
def uptoBulkEntry {H : Type} : Lit × DataW H → Nat
  | (.string bytes, d) => bytes.length + uptoBulk d + 1
  | (_, d) => uptoBulk d + 1
 end
def uptoSmall : (H : Type) → List (DataW H) → Bool := fun _ ds => decide (uptoBulkAll ds ≤ 1048576)
def OpenSpec.upto (s : _root_.Go.ChangeSpec) : _root_.Go.OpenSpec := { _root_.Go.OpenSpec.ofChange s with cond := some uptoSmall }

/-- 'laws.FnQueueStart', WHERE WHAT IT READS IS OF BULK AT MOST 1048576: true; the input reads as it did. -/
def fnQueueStartUptoRow : OpenClaim := { program := "ythkokeeciicdnaa", sum := "c295e69919ee445febd427a3e1b45171f417c42edae32caf3b6ec5b9e3309204", func := "loop.example/windowaggregates/laws.FnQueueStart", spec := "fnQueueStart", unfollowed := true, recurses := true, apart := false, narrowed := true }
def FnQueueStartUptoSaid : Prop := fnQueueStartUptoRow.holds Try.pinned (OpenSpec.upto fnQueueStartSpec)

/-- 'laws.FnExactFormatOps', WHERE WHAT IT READS IS OF BULK AT MOST 1048576: true; the input reads as it did. -/
def fnExactFormatOpsUptoRow : OpenClaim := { program := "ythkokeeciicdnaa", sum := "c295e69919ee445febd427a3e1b45171f417c42edae32caf3b6ec5b9e3309204", func := "loop.example/windowaggregates/laws.FnExactFormatOps", spec := "fnExactFormatOps", inPlace := ["internal/abi.NoEscape", "internal/bytealg.MakeNoZero"], unfollowed := true, recurses := true, apart := false, narrowed := true }
def FnExactFormatOpsUptoSaid : Prop := fnExactFormatOpsUptoRow.holds Try.pinned (OpenSpec.upto fnExactFormatOpsSpec)

/-- 'laws.FnSlideOps', WHERE WHAT IT READS IS OF BULK AT MOST 1048576: true; the input reads as it did. -/
def fnSlideOpsUptoRow : OpenClaim := { program := "ythkokeeciicdnaa", sum := "c295e69919ee445febd427a3e1b45171f417c42edae32caf3b6ec5b9e3309204", func := "loop.example/windowaggregates/laws.FnSlideOps", spec := "fnSlideOps", inPlace := ["internal/abi.NoEscape", "internal/bytealg.MakeNoZero"], unfollowed := true, recurses := true, apart := false, narrowed := true }
def FnSlideOpsUptoSaid : Prop := fnSlideOpsUptoRow.holds Try.pinned (OpenSpec.upto fnSlideOpsSpec)

end Rows
end Go.Proofs.Ythkokeeciicdnaa
