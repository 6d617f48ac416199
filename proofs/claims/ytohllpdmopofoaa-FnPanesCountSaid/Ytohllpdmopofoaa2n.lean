/-
  Numbers of aggregates and of folds, in the program and in the model; numbers of all rows of a size.
-/
import Derived.Test.YtohllpdmopofoaaM
import Derived.Test.YtohllpdmopofoaaN
import Derived.Test.YtohllpdmopofoaaEx
import Derived.Test.YtohllpdmopofoaaMath5
namespace Go.Proofs.Ytohllpdmopofoaa
set_option linter.unusedSimpArgs false
set_option linter.unusedVariables false
open Go.RowKit
/-- The number of an aggregate, or -1. -/
def Agg.num (k : Int) (v : Agg.V) : Int := if (Agg.aLow k v).2 then (Agg.aLow k v).1 else -1
/-- The number of a list's fold, or -1. -/
def Agg.number (k : Int) (l : List Int) : Int := Agg.num k (Agg.fold k l)
/-- The numbers of all rows of s items. -/
def Agg.slides (k : Int) (l : List Int) (s : Nat) : List Int := (List.range (l.length + 1 - s)).map fun i => Agg.number k ((l.drop i).take s)
theorem Agg.slides_len (k : Int) (l : List Int) (s : Nat) : (Agg.slides k l s).length = l.length + 1 - s := by simp [Agg.slides]
theorem Agg.slides_step (k : Int) (l : List Int) (s j : Nat) (h : j < l.length + 1 - s) : (Agg.slides k l s).take (j + 1) = (Agg.slides k l s).take j ++ [Agg.number k ((l.drop j).take s)] := by
  rw [List.take_succ_eq_append_getElem (by rw [Agg.slides_len]; exact h)]
  simp [Agg.slides]
theorem s_fold_any (k : Int) (hk : Agg.isKind k = true) (a : Option Addr) (n cap : Nat) (l : List Int) (w : World) (h : Nums .i64 w a n cap l) (hi : Agg.itemsOk l = true) :
    Calls Try.prog 46 #[.int .i64 k, .slice a n cap] w fun e w' => e = .returned (.agg #[.int .i64 (Agg.fold k l).x, .int .i64 (Agg.fold k l).y, .int .i64 (Agg.fold k l).z]) ∧ Below w.heap.size w w' := by
  rcases Agg.kinds hk with rfl | rfl | rfl | rfl | rfl | rfl | rfl | rfl | rfl | rfl
  · exact s_fold_1 a n cap l w h hi
  · exact s_fold_2 a n cap l w h hi
  · exact s_fold_3 a n cap l w h hi
  · exact s_fold_4 a n cap l w h hi
  · exact s_fold_5 a n cap l w h hi
  · exact s_fold_6 a n cap l w h hi
  · exact s_fold_7 a n cap l w h hi
  · exact s_fold_8 a n cap l w h hi
  · exact s_fold_9 a n cap l w h hi
  · exact s_fold_10 a n cap l w h hi
end Go.Proofs.Ytohllpdmopofoaa
