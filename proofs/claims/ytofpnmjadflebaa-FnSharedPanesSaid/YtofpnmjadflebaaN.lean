/-
  The exported functions of chapter 1, in the program and in the model, at every kind and at every number that is none.
-/
import Derived.Test.YtofpnmjadflebaaB1
import Derived.Test.YtofpnmjadflebaaB2
import Derived.Test.YtofpnmjadflebaaB3
import Derived.Test.YtofpnmjadflebaaB4
import Derived.Test.YtofpnmjadflebaaS1
import Derived.Test.YtofpnmjadflebaaS2
import Derived.Test.YtofpnmjadflebaaS3
import Derived.Test.YtofpnmjadflebaaS4
import Derived.Test.YtofpnmjadflebaaMa
namespace Go.Proofs.Ytofpnmjadflebaa
set_option linter.unusedSimpArgs false
set_option linter.unusedVariables false
open Go.RowKit
end Go.Proofs.Ytofpnmjadflebaa
