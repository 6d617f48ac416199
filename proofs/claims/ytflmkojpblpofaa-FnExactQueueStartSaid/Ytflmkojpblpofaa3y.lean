/-
  Stacks of a window without items, in the program and in the model; stacks compared.
-/
import Derived.Test.YtflmkojpblpofaaRw
import Derived.Test.YtflmkojpblpofaaN
import Derived.Test.Ytflmkojpblpofaa3a
import Derived.Deep.DeepCutAuto
namespace Go.Proofs.Ytflmkojpblpofaa
set_option linter.unusedSimpArgs false
set_option linter.unusedVariables false
open Go.RowKit
def Agg.first (k : Int) : Agg.V := if Agg.isKind k then Agg.unit k else Agg.zero
end Go.Proofs.Ytflmkojpblpofaa
