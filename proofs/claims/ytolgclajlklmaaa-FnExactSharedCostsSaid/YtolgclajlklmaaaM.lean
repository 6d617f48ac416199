/-
  Folds of items, in the program and in the model, at every kind and at every number that is none.
-/
import Derived.Test.YtolgclajlklmaaaF1
import Derived.Test.YtolgclajlklmaaaF2
import Derived.Test.YtolgclajlklmaaaF3
import Derived.Test.YtolgclajlklmaaaF4
import Derived.Test.YtolgclajlklmaaaG1
import Derived.Test.YtolgclajlklmaaaG2
import Derived.Test.YtolgclajlklmaaaG3
import Derived.Test.YtolgclajlklmaaaG4
namespace Go.Proofs.Ytolgclajlklmaaa
set_option linter.unusedSimpArgs false
set_option linter.unusedVariables false
open Go.RowKit
end Go.Proofs.Ytolgclajlklmaaa
