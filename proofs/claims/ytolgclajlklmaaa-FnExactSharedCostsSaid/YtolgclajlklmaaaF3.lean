/-
  Folds of items in the program, at some kinds.
-/
import Derived.Test.YtolgclajlklmaaaMa
import Derived.Test.YtolgclajlklmaaaL
import Derived.Test.YtolgclajlklmaaaA2
import Derived.Deep.RegionHeld3
namespace Go.Proofs.Ytolgclajlklmaaa
set_option linter.unusedSimpArgs false
set_option linter.unusedVariables false
open Go.RowKit
end Go.Proofs.Ytolgclajlklmaaa
