/-
  The model's functions of chapter 1 at some kinds, each against plain mathematics.
-/
import Derived.Test.YtofpnmjadflebaaS0
import Derived.Test.YtofpnmjadflebaaMa
namespace Go.Proofs.Ytofpnmjadflebaa
open Go.RowKit
set_option linter.unusedSimpArgs false
set_option linter.unusedVariables false






























end Go.Proofs.Ytofpnmjadflebaa
