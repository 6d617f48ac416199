/-
  Folds of items in the program, at some kinds.
-/
import Derived.Test.YtofpnmjadflebaaMa
import Derived.Test.YtofpnmjadflebaaL
import Derived.Test.YtofpnmjadflebaaA1
import Derived.Deep.RegionHeld3
namespace Go.Proofs.Ytofpnmjadflebaa
set_option linter.unusedSimpArgs false
set_option linter.unusedVariables false
open Go.RowKit
end Go.Proofs.Ytofpnmjadflebaa
