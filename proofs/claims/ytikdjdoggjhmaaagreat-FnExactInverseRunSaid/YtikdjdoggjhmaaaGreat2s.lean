/-
  SlideNumbers, in the program and in the model: a row of its own with the numbers of all rows of a size.
-/
import Derived.Test.YtikdjdoggjhmaaaGreat5e
import Derived.Deep.RegionHeld3
namespace Go.Proofs.YtikdjdoggjhmaaaGreat
set_option linter.unusedSimpArgs false
set_option linter.unusedVariables false
open Go.RowKit
/-- Whether SlideNumbers has numbers. -/
def Agg.slideOk (k : Int) (l : List Int) (s : Int) : Bool := Agg.isKind k && Agg.itemsOk l && decide (1 ≤ s ∧ s ≤ 60)
def Agg.slideOut (k : Int) (l : List Int) (s : Int) : List Int := if Agg.slideOk k l s then Agg.slides k l s.toNat else []
end Go.Proofs.YtikdjdoggjhmaaaGreat
