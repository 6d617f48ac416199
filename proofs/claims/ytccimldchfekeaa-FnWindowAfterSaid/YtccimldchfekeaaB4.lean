/-
  The exported functions of chapter 1 at some kinds, each against plain mathematics.
-/
import Derived.Test.YtccimldchfekeaaMath3
import Derived.Test.YtccimldchfekeaaA3
namespace Go.Proofs.Ytccimldchfekeaa
open Go.RowKit
set_option linter.unusedSimpArgs false














end Go.Proofs.Ytccimldchfekeaa
