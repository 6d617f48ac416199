/-
  Folds of items in the program, at some kinds.
-/
import Derived.Test.YtccimldchfekeaaMath4
import Derived.Test.YtccimldchfekeaaL
import Derived.Test.YtccimldchfekeaaA1
import Derived.Test.YtccimldchfekeaaA2
import Derived.Deep.RegionHeld3
namespace Go.Proofs.Ytccimldchfekeaa
set_option linter.unusedSimpArgs false
set_option linter.unusedVariables false
open Go.RowKit
end Go.Proofs.Ytccimldchfekeaa
