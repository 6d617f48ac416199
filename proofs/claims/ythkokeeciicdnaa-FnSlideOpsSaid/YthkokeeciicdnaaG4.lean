/-
  Folds of items in the model, at some kinds.
-/
import Derived.Test.YthkokeeciicdnaaMa
import Derived.Test.YthkokeeciicdnaaL
import Derived.Test.YthkokeeciicdnaaS4
import Derived.Deep.RegionHeld3
namespace Go.Proofs.Ythkokeeciicdnaa
set_option linter.unusedSimpArgs false
set_option linter.unusedVariables false
open Go.RowKit


end Go.Proofs.Ythkokeeciicdnaa
