/-
  The exported functions of chapter 1 at some kinds, each against plain mathematics.
-/
import Derived.Test.YtbacdcegfinekaaMa
import Derived.Test.YtbacdcegfinekaaA3
namespace Go.Proofs.Ytbacdcegfinekaa
open Go.RowKit
set_option linter.unusedSimpArgs false














end Go.Proofs.Ytbacdcegfinekaa
