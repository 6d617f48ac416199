/-
  The methods of some kinds of aggregates, each against plain mathematics.
-/
import Derived.Test.YtccimldchfekeaaA
namespace Go.Proofs.Ytccimldchfekeaa
set_option linter.unusedSimpArgs false
open Go.RowKit
end Go.Proofs.Ytccimldchfekeaa
