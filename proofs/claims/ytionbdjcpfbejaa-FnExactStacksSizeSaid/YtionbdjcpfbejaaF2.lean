/-
  Folds of items in the program, at some kinds.
-/
import Derived.Test.YtionbdjcpfbejaaMath4
import Derived.Test.YtionbdjcpfbejaaL
import Derived.Test.YtionbdjcpfbejaaA1
import Derived.Test.YtionbdjcpfbejaaA2
import Derived.Deep.RegionHeld3
namespace Go.Proofs.Ytionbdjcpfbejaa
set_option linter.unusedSimpArgs false
set_option linter.unusedVariables false
open Go.RowKit
end Go.Proofs.Ytionbdjcpfbejaa
