/-
  RemoveFirst in the program, at some kinds.
-/
import Derived.Test.YtikdjdoggjhmaaaGreatR
import Derived.Stop.Asserts
import Derived.Test.YtikdjdoggjhmaaaGreat6k
import Derived.Test.YtikdjdoggjhmaaaGreatB3
namespace Go.Proofs.YtikdjdoggjhmaaaGreat
set_option linter.unusedSimpArgs false
set_option linter.unusedVariables false
open Go.RowKit
end Go.Proofs.YtikdjdoggjhmaaaGreat
