/-
  Numbers of aggregates and of folds, in the program and in the model; numbers of all rows of a size.
-/
import Derived.Test.YthkokeeciicdnaaM
import Derived.Test.YthkokeeciicdnaaN
import Derived.Test.YthkokeeciicdnaaRw
import Derived.Test.YthkokeeciicdnaaMa
namespace Go.Proofs.Ythkokeeciicdnaa
set_option linter.unusedSimpArgs false
set_option linter.unusedVariables false
open Go.RowKit
/-- The number of an aggregate, or -1. -/
def Agg.num (k : Int) (v : Agg.V) : Int := if (Agg.aLow k v).2 then (Agg.aLow k v).1 else -1
/-- The number of a list's fold, or -1. -/
def Agg.number (k : Int) (l : List Int) : Int := Agg.num k (Agg.fold k l)
/-- The numbers of all rows of s items. -/
def Agg.slides (k : Int) (l : List Int) (s : Nat) : List Int := (List.range (l.length + 1 - s)).map fun i => Agg.number k ((l.drop i).take s)
theorem Agg.slides_len (k : Int) (l : List Int) (s : Nat) : (Agg.slides k l s).length = l.length + 1 - s := by simp [Agg.slides]
theorem Agg.slides_step (k : Int) (l : List Int) (s j : Nat) (h : j < l.length + 1 - s) : (Agg.slides k l s).take (j + 1) = (Agg.slides k l s).take j ++ [Agg.number k ((l.drop j).take s)] := by
  rw [List.take_succ_eq_append_getElem (by rw [Agg.slides_len]; exact h)]
  simp [Agg.slides]
end Go.Proofs.Ythkokeeciicdnaa
