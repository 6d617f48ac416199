/-
  The exported functions of chapter 1 at some kinds, each against plain mathematics.
-/
import Derived.Test.YtolgclajlklmaaaMa
import Derived.Test.YtolgclajlklmaaaA2
namespace Go.Proofs.Ytolgclajlklmaaa
open Go.RowKit
set_option linter.unusedSimpArgs false














end Go.Proofs.Ytolgclajlklmaaa
