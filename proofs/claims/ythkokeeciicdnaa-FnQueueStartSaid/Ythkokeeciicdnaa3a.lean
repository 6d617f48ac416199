/-
  The model's functions of chapter 1, at every kind.
-/
import Derived.Test.YthkokeeciicdnaaS1
import Derived.Test.YthkokeeciicdnaaS2
import Derived.Test.YthkokeeciicdnaaS3
import Derived.Test.YthkokeeciicdnaaS4
import Derived.Test.YthkokeeciicdnaaMa
namespace Go.Proofs.Ythkokeeciicdnaa
set_option linter.unusedSimpArgs false
set_option linter.unusedVariables false
open Go.RowKit
end Go.Proofs.Ythkokeeciicdnaa
