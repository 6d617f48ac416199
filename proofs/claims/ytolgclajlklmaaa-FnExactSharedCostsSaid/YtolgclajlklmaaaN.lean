/-
  The exported functions of chapter 1, in the program and in the model, at every kind and at every number that is none.
-/
import Derived.Test.YtolgclajlklmaaaB1
import Derived.Test.YtolgclajlklmaaaB2
import Derived.Test.YtolgclajlklmaaaB3
import Derived.Test.YtolgclajlklmaaaB4
import Derived.Test.YtolgclajlklmaaaS1
import Derived.Test.YtolgclajlklmaaaS2
import Derived.Test.YtolgclajlklmaaaS3
import Derived.Test.YtolgclajlklmaaaS4
import Derived.Test.YtolgclajlklmaaaMa
namespace Go.Proofs.Ytolgclajlklmaaa
set_option linter.unusedSimpArgs false
set_option linter.unusedVariables false
open Go.RowKit
end Go.Proofs.Ytolgclajlklmaaa
