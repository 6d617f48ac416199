/-
  Folds of items, in the program and in the model, at every kind and at every number that is none.
-/
import Derived.Test.YtofpnmjadflebaaF1
import Derived.Test.YtofpnmjadflebaaF2
import Derived.Test.YtofpnmjadflebaaF3
import Derived.Test.YtofpnmjadflebaaF4
import Derived.Test.YtofpnmjadflebaaG1
import Derived.Test.YtofpnmjadflebaaG2
import Derived.Test.YtofpnmjadflebaaG3
import Derived.Test.YtofpnmjadflebaaG4
namespace Go.Proofs.Ytofpnmjadflebaa
set_option linter.unusedSimpArgs false
set_option linter.unusedVariables false
open Go.RowKit
end Go.Proofs.Ytofpnmjadflebaa
