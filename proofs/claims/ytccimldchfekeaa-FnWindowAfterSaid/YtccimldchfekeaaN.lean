/-
  The exported functions of chapter 1, in the program and in the model, at every kind and at every number that is none.
-/
import Derived.Test.YtccimldchfekeaaB1
import Derived.Test.YtccimldchfekeaaB2
import Derived.Test.YtccimldchfekeaaB3
import Derived.Test.YtccimldchfekeaaB4
import Derived.Test.YtccimldchfekeaaS1
import Derived.Test.YtccimldchfekeaaS2
import Derived.Test.YtccimldchfekeaaS3
import Derived.Test.YtccimldchfekeaaS4
import Derived.Test.YtccimldchfekeaaMath4
namespace Go.Proofs.Ytccimldchfekeaa
set_option linter.unusedSimpArgs false
set_option linter.unusedVariables false
open Go.RowKit
end Go.Proofs.Ytccimldchfekeaa
