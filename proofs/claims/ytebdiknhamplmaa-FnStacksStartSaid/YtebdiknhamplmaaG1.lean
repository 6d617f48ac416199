/-
  Folds of items in the model, at some kinds.
-/
import Derived.Test.YtebdiknhamplmaaMath4
import Derived.Test.YtebdiknhamplmaaL
import Derived.Test.YtebdiknhamplmaaS1
import Derived.Deep.RegionHeld3
namespace Go.Proofs.Ytebdiknhamplmaa
set_option linter.unusedSimpArgs false
set_option linter.unusedVariables false
open Go.RowKit



end Go.Proofs.Ytebdiknhamplmaa
