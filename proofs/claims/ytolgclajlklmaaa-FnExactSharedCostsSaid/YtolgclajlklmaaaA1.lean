/-
  The methods of some kinds of aggregates, each against plain mathematics.
-/
import Derived.Test.YtolgclajlklmaaaA
namespace Go.Proofs.Ytolgclajlklmaaa
set_option linter.unusedSimpArgs false
open Go.RowKit
end Go.Proofs.Ytolgclajlklmaaa
