/-
  The exported functions of chapter 1 at some kinds, each against plain mathematics.
-/
import Derived.Test.YtofpnmjadflebaaMa
import Derived.Test.YtofpnmjadflebaaA1
namespace Go.Proofs.Ytofpnmjadflebaa
open Go.RowKit
set_option linter.unusedSimpArgs false





















end Go.Proofs.Ytofpnmjadflebaa
