/-
  No cell of these rows narrows 'for every input' (looked for: loops, veiled, ifaces, maps, wideKeys, modest, calm, conditions, laid).
  DERIVED. THE GIVEN ROWS OF THIS SEAT. 5 by the template 'for every input the law returns true; each argument reads behind the call as it read before'; 0 by the template 'total and deterministic' (their statements: YtionbdjcpfbejaaTotals.lean).
  GIVEN WITH THE SEED: the statements are not yours to turn. If you find one false, say at which input.
  Laid BY PROGRAM, IN A SANDBOX (cutbox-rows.mjs): the forced cells as the released guide's own fill.sh prints them over the translation 7abcdb36f4e6ec17… (all of the seat's roots in one cut). By AI agents, Wed Nov 11 2026. No macro, syntax, notation, axiom, sorry.
-/
import Derived.Test.YtionbdjcpfbejaaChecked
import GoSem.Claim
import GoSem.ClaimJoined
import GoSem.ClaimMapViews
import Derived.JoinedTies
import Derived.KernelRfl
namespace Go.Proofs.Ytionbdjcpfbejaa
/- THE CELL 'sum', in the pinned program and in every row, IS THE sha256 OF THE DUMP (.gsa) THAT YtionbdjcpfbejaaProg.lean LOADS. Nothing in Lean hashes anything: it is a label: what it is worth is what the hold of that sum in a sandbox is worth. -/
noncomputable def Try.pinned : Pinned := { name := "ytionbdjcpfbejaa", sum := "7abcdb36f4e6ec179c4ab73a37de0737d075c2659d5228d98d2dd519cbaa578e", checked := Try.checked }
namespace Rows
def none {H : Type} : Left H := { results := [], args := [] }

/-- 'laws.FnExactOpsValid': WHATEVER THE INPUT: true; the input reads as it did. -/
def fnExactOpsValidSpec : ChangeSpec := { name := "fnExactOpsValid", fn := fun _ => fun
  | [d] => { results := [.lit (.bool true)], args := [d] }
  | _ => none }
def fnExactOpsValidRow : OpenClaim := { program := "ytionbdjcpfbejaa", sum := "7abcdb36f4e6ec179c4ab73a37de0737d075c2659d5228d98d2dd519cbaa578e", func := "loop.example/windowaggregates/laws.FnExactOpsValid", spec := "fnExactOpsValid", unfollowed := true, recurses := true, apart := false }
def FnExactOpsValidSaid : Prop := fnExactOpsValidRow.holds Try.pinned (OpenSpec.ofChange fnExactOpsValidSpec)

/-- ITS FALSE NEIGHBOUR: 'it returns false'. Refute it at one input. -/
def fnExactOpsValidWrong : ChangeSpec := { name := "fnExactOpsValid", fn := fun _ => fun
  | [d] => { results := [.lit (.bool false)], args := [d] }
  | _ => none }
def FnExactOpsValidWrongFalsely : Prop := fnExactOpsValidRow.holds Try.pinned (OpenSpec.ofChange fnExactOpsValidWrong)

/-- 'laws.FnExactWindowAfter': WHATEVER THE INPUT: true; the input reads as it did. -/
def fnExactWindowAfterSpec : ChangeSpec := { name := "fnExactWindowAfter", fn := fun _ => fun
  | [d] => { results := [.lit (.bool true)], args := [d] }
  | _ => none }
def fnExactWindowAfterRow : OpenClaim := { program := "ytionbdjcpfbejaa", sum := "7abcdb36f4e6ec179c4ab73a37de0737d075c2659d5228d98d2dd519cbaa578e", func := "loop.example/windowaggregates/laws.FnExactWindowAfter", spec := "fnExactWindowAfter", unfollowed := true, recurses := true, apart := false }
def FnExactWindowAfterSaid : Prop := fnExactWindowAfterRow.holds Try.pinned (OpenSpec.ofChange fnExactWindowAfterSpec)

/-- ITS FALSE NEIGHBOUR: 'it returns false'. Refute it at one input. -/
def fnExactWindowAfterWrong : ChangeSpec := { name := "fnExactWindowAfter", fn := fun _ => fun
  | [d] => { results := [.lit (.bool false)], args := [d] }
  | _ => none }
def FnExactWindowAfterWrongFalsely : Prop := fnExactWindowAfterRow.holds Try.pinned (OpenSpec.ofChange fnExactWindowAfterWrong)

/-- 'laws.FnExactFormatOps': WHATEVER THE INPUT: true; the input reads as it did. -/
def fnExactFormatOpsSpec : ChangeSpec := { name := "fnExactFormatOps", fn := fun _ => fun
  | [d] => { results := [.lit (.bool true)], args := [d] }
  | _ => none }
def fnExactFormatOpsRow : OpenClaim := { program := "ytionbdjcpfbejaa", sum := "7abcdb36f4e6ec179c4ab73a37de0737d075c2659d5228d98d2dd519cbaa578e", func := "loop.example/windowaggregates/laws.FnExactFormatOps", spec := "fnExactFormatOps", inPlace := ["internal/abi.NoEscape", "internal/bytealg.MakeNoZero"], unfollowed := true, recurses := true, apart := false }
def FnExactFormatOpsSaid : Prop := fnExactFormatOpsRow.holds Try.pinned (OpenSpec.ofChange fnExactFormatOpsSpec)

/-- ITS FALSE NEIGHBOUR: 'it returns false'. Refute it at one input. -/
def fnExactFormatOpsWrong : ChangeSpec := { name := "fnExactFormatOps", fn := fun _ => fun
  | [d] => { results := [.lit (.bool false)], args := [d] }
  | _ => none }
def FnExactFormatOpsWrongFalsely : Prop := fnExactFormatOpsRow.holds Try.pinned (OpenSpec.ofChange fnExactFormatOpsWrong)

/-- 'laws.FnExactStacksStart': WHATEVER THE INPUT: true; the input reads as it did. -/
def fnExactStacksStartSpec : ChangeSpec := { name := "fnExactStacksStart", fn := fun _ => fun
  | [d] => { results := [.lit (.bool true)], args := [d] }
  | _ => none }
def fnExactStacksStartRow : OpenClaim := { program := "ytionbdjcpfbejaa", sum := "7abcdb36f4e6ec179c4ab73a37de0737d075c2659d5228d98d2dd519cbaa578e", func := "loop.example/windowaggregates/laws.FnExactStacksStart", spec := "fnExactStacksStart", unfollowed := true, recurses := true, apart := false }
def FnExactStacksStartSaid : Prop := fnExactStacksStartRow.holds Try.pinned (OpenSpec.ofChange fnExactStacksStartSpec)

/-- ITS FALSE NEIGHBOUR: 'it returns false'. Refute it at one input. -/
def fnExactStacksStartWrong : ChangeSpec := { name := "fnExactStacksStart", fn := fun _ => fun
  | [d] => { results := [.lit (.bool false)], args := [d] }
  | _ => none }
def FnExactStacksStartWrongFalsely : Prop := fnExactStacksStartRow.holds Try.pinned (OpenSpec.ofChange fnExactStacksStartWrong)

/-- 'laws.FnExactStacksSize': WHATEVER THE INPUT: true; the input reads as it did. -/
def fnExactStacksSizeSpec : ChangeSpec := { name := "fnExactStacksSize", fn := fun _ => fun
  | [d] => { results := [.lit (.bool true)], args := [d] }
  | _ => none }
def fnExactStacksSizeRow : OpenClaim := { program := "ytionbdjcpfbejaa", sum := "7abcdb36f4e6ec179c4ab73a37de0737d075c2659d5228d98d2dd519cbaa578e", func := "loop.example/windowaggregates/laws.FnExactStacksSize", spec := "fnExactStacksSize", apart := false }
def FnExactStacksSizeSaid : Prop := fnExactStacksSizeRow.holds Try.pinned (OpenSpec.ofChange fnExactStacksSizeSpec)

/-- ITS FALSE NEIGHBOUR: 'it returns false'. Refute it at one input. -/
def fnExactStacksSizeWrong : ChangeSpec := { name := "fnExactStacksSize", fn := fun _ => fun
  | [d] => { results := [.lit (.bool false)], args := [d] }
  | _ => none }
def FnExactStacksSizeWrongFalsely : Prop := fnExactStacksSizeRow.holds Try.pinned (OpenSpec.ofChange fnExactStacksSizeWrong)

/- THE SECOND FORM. 'bulk': how many values and letters a reading holds, each counted each time it is reached (what is shared counts as often as it is met; a slice's spare places count too). A statement '..UptoSaid' is the law's where the arguments, and the package variables that the reading takes, are together of bulk at most 1048576: NARROWER than '..Said'. Prove '..Said' where nothing that the law and all that it calls make is longer than what came in: it says more and counts as full. Else prove '..UptoSaid'. A law counts once. -/
mutual
def uptoBulk {H : Type} : DataW H → Nat
  | .lit (.string bytes) => bytes.length + 1
  | .lit _ => 1
  | .nil => 1
  | .ptr d => uptoBulk d + 1
  | .slice elems spare => uptoBulkAll elems + uptoBulkAll spare + 1
  | .agg parts => uptoBulkAll parts + 1
  | .iface _ d => uptoBulk d + 1
  | .map entries => uptoBulkEntries entries + 1
  | .held _ => 1
def uptoBulkAll {H : Type} : List (DataW H) → Nat
  | [] => 0
  | d :: r => uptoBulk d + uptoBulkAll r
def uptoBulkEntries {H : Type} : List (Lit × DataW H) → Nat
  | [] => 0
  | x :: r => uptoBulkEntry x + uptoBulkEntries r
def uptoBulkEntry {H : Type} : Lit × DataW H → Nat
  | (.string bytes, d) => bytes.length + uptoBulk d + 1
  | (_, d) => uptoBulk d + 1
 end
def uptoSmall : (H : Type) → List (DataW H) → Bool := fun _ ds => decide (uptoBulkAll ds ≤ 1048576)
def OpenSpec.upto (s : _root_.Go.ChangeSpec) : _root_.Go.OpenSpec := { _root_.Go.OpenSpec.ofChange s with cond := some uptoSmall }

/-- 'laws.FnExactOpsValid', WHERE WHAT IT READS IS OF BULK AT MOST 1048576: true; the input reads as it did. -/
def fnExactOpsValidUptoRow : OpenClaim := { program := "ytionbdjcpfbejaa", sum := "7abcdb36f4e6ec179c4ab73a37de0737d075c2659d5228d98d2dd519cbaa578e", func := "loop.example/windowaggregates/laws.FnExactOpsValid", spec := "fnExactOpsValid", unfollowed := true, recurses := true, apart := false, narrowed := true }
def FnExactOpsValidUptoSaid : Prop := fnExactOpsValidUptoRow.holds Try.pinned (OpenSpec.upto fnExactOpsValidSpec)

/-- 'laws.FnExactWindowAfter', WHERE WHAT IT READS IS OF BULK AT MOST 1048576: true; the input reads as it did. -/
def fnExactWindowAfterUptoRow : OpenClaim := { program := "ytionbdjcpfbejaa", sum := "7abcdb36f4e6ec179c4ab73a37de0737d075c2659d5228d98d2dd519cbaa578e", func := "loop.example/windowaggregates/laws.FnExactWindowAfter", spec := "fnExactWindowAfter", unfollowed := true, recurses := true, apart := false, narrowed := true }
def FnExactWindowAfterUptoSaid : Prop := fnExactWindowAfterUptoRow.holds Try.pinned (OpenSpec.upto fnExactWindowAfterSpec)

/-- 'laws.FnExactFormatOps', WHERE WHAT IT READS IS OF BULK AT MOST 1048576: true; the input reads as it did. -/
def fnExactFormatOpsUptoRow : OpenClaim := { program := "ytionbdjcpfbejaa", sum := "7abcdb36f4e6ec179c4ab73a37de0737d075c2659d5228d98d2dd519cbaa578e", func := "loop.example/windowaggregates/laws.FnExactFormatOps", spec := "fnExactFormatOps", inPlace := ["internal/abi.NoEscape", "internal/bytealg.MakeNoZero"], unfollowed := true, recurses := true, apart := false, narrowed := true }
def FnExactFormatOpsUptoSaid : Prop := fnExactFormatOpsUptoRow.holds Try.pinned (OpenSpec.upto fnExactFormatOpsSpec)

/-- 'laws.FnExactStacksStart', WHERE WHAT IT READS IS OF BULK AT MOST 1048576: true; the input reads as it did. -/
def fnExactStacksStartUptoRow : OpenClaim := { program := "ytionbdjcpfbejaa", sum := "7abcdb36f4e6ec179c4ab73a37de0737d075c2659d5228d98d2dd519cbaa578e", func := "loop.example/windowaggregates/laws.FnExactStacksStart", spec := "fnExactStacksStart", unfollowed := true, recurses := true, apart := false, narrowed := true }
def FnExactStacksStartUptoSaid : Prop := fnExactStacksStartUptoRow.holds Try.pinned (OpenSpec.upto fnExactStacksStartSpec)

/-- 'laws.FnExactStacksSize', WHERE WHAT IT READS IS OF BULK AT MOST 1048576: true; the input reads as it did. -/
def fnExactStacksSizeUptoRow : OpenClaim := { program := "ytionbdjcpfbejaa", sum := "7abcdb36f4e6ec179c4ab73a37de0737d075c2659d5228d98d2dd519cbaa578e", func := "loop.example/windowaggregates/laws.FnExactStacksSize", spec := "fnExactStacksSize", apart := false, narrowed := true }
def FnExactStacksSizeUptoSaid : Prop := fnExactStacksSizeUptoRow.holds Try.pinned (OpenSpec.upto fnExactStacksSizeSpec)

end Rows
end Go.Proofs.Ytionbdjcpfbejaa
