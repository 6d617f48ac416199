/-
  The methods of some kinds of aggregates, each against plain mathematics.
-/
import Derived.Test.YtofpnmjadflebaaA
namespace Go.Proofs.Ytofpnmjadflebaa
set_option linter.unusedSimpArgs false
open Go.RowKit
end Go.Proofs.Ytofpnmjadflebaa
