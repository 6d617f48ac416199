/-
  The model's functions of chapter 1 at some kinds, each against plain mathematics.
-/
import Derived.Test.YtccimldchfekeaaS0
import Derived.Test.YtccimldchfekeaaMath3
namespace Go.Proofs.Ytccimldchfekeaa
open Go.RowKit
set_option linter.unusedSimpArgs false
set_option linter.unusedVariables false






























end Go.Proofs.Ytccimldchfekeaa
