/-
  Rows of aggregates: marked, held, copied, as the exact laws do.
-/
import Derived.Test.YtolgclajlklmaaaRw
namespace Go.Proofs.Ytolgclajlklmaaa
set_option linter.unusedSimpArgs false
set_option linter.unusedVariables false
open Go.RowKit
end Go.Proofs.Ytolgclajlklmaaa
