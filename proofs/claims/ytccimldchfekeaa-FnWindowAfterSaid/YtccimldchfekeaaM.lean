/-
  Folds of items, in the program and in the model, at every kind and at every number that is none.
-/
import Derived.Test.YtccimldchfekeaaF1
import Derived.Test.YtccimldchfekeaaF2
import Derived.Test.YtccimldchfekeaaF3
import Derived.Test.YtccimldchfekeaaF4
import Derived.Test.YtccimldchfekeaaG1
import Derived.Test.YtccimldchfekeaaG2
import Derived.Test.YtccimldchfekeaaG3
import Derived.Test.YtccimldchfekeaaG4
namespace Go.Proofs.Ytccimldchfekeaa
set_option linter.unusedSimpArgs false
set_option linter.unusedVariables false
open Go.RowKit
end Go.Proofs.Ytccimldchfekeaa
