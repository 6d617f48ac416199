/-
  RemoveFirst in the model, at some kinds.
-/
import Derived.Test.YtkiafgppooacdaaR
import Derived.Test.YtkiafgppooacdaaS3
import Derived.Deep.RegionHeld3
namespace Go.Proofs.Ytkiafgppooacdaa
set_option linter.unusedSimpArgs false
set_option linter.unusedVariables false
open Go.RowKit
end Go.Proofs.Ytkiafgppooacdaa
