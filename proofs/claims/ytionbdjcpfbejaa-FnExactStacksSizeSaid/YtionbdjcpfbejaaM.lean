/-
  Folds of items, in the program and in the model, at every kind and at every number that is none.
-/
import Derived.Test.YtionbdjcpfbejaaF1
import Derived.Test.YtionbdjcpfbejaaF2
import Derived.Test.YtionbdjcpfbejaaF3
import Derived.Test.YtionbdjcpfbejaaF4
import Derived.Test.YtionbdjcpfbejaaG1
import Derived.Test.YtionbdjcpfbejaaG2
import Derived.Test.YtionbdjcpfbejaaG3
import Derived.Test.YtionbdjcpfbejaaG4
namespace Go.Proofs.Ytionbdjcpfbejaa
set_option linter.unusedSimpArgs false
set_option linter.unusedVariables false
open Go.RowKit
end Go.Proofs.Ytionbdjcpfbejaa
