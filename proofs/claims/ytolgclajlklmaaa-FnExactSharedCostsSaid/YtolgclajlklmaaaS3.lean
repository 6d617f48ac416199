/-
  The model's functions of chapter 1 at some kinds, each against plain mathematics.
-/
import Derived.Test.YtolgclajlklmaaaS0
import Derived.Test.YtolgclajlklmaaaMa
namespace Go.Proofs.Ytolgclajlklmaaa
open Go.RowKit
set_option linter.unusedSimpArgs false
set_option linter.unusedVariables false






























end Go.Proofs.Ytolgclajlklmaaa
