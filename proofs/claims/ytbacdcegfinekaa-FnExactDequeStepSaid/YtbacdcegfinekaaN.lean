/-
  The exported functions of chapter 1, in the program and in the model, at every kind and at every number that is none.
-/
import Derived.Test.YtbacdcegfinekaaB1
import Derived.Test.YtbacdcegfinekaaB2
import Derived.Test.YtbacdcegfinekaaB3
import Derived.Test.YtbacdcegfinekaaB4
import Derived.Test.YtbacdcegfinekaaS1
import Derived.Test.YtbacdcegfinekaaS2
import Derived.Test.YtbacdcegfinekaaS3
import Derived.Test.YtbacdcegfinekaaS4
import Derived.Test.YtbacdcegfinekaaMa
namespace Go.Proofs.Ytbacdcegfinekaa
set_option linter.unusedSimpArgs false
set_option linter.unusedVariables false
open Go.RowKit
end Go.Proofs.Ytbacdcegfinekaa
