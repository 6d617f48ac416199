/-
  Rows of aggregates: a slice of triples of numbers; rows of the call's own; comparison, marks, copies.
-/
import Derived.Test.YtccimldchfekeaaEx
import Derived.Deep.RegionHeld3
import Derived.OwnWalk
namespace Go.Proofs.Ytccimldchfekeaa
set_option linter.unusedSimpArgs false
set_option linter.unusedVariables false
open Go.RowKit

end Go.Proofs.Ytccimldchfekeaa
