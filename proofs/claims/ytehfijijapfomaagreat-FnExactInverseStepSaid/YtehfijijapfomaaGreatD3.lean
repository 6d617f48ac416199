/-
  RemoveFirst in the program, at some kinds.
-/
import Derived.Test.YtehfijijapfomaaGreatR
import Derived.Stop.Asserts
import Derived.Test.YtehfijijapfomaaGreat6k
import Derived.Test.YtehfijijapfomaaGreatB3
namespace Go.Proofs.YtehfijijapfomaaGreat
set_option linter.unusedSimpArgs false
set_option linter.unusedVariables false
open Go.RowKit
end Go.Proofs.YtehfijijapfomaaGreat
