/-
  QueriesOf, in the program and in the model.
-/
import Derived.Test.Ythkokeeciicdnaa2b
namespace Go.Proofs.Ythkokeeciicdnaa
set_option linter.unusedSimpArgs false
set_option linter.unusedVariables false
open Go.RowKit
/-- The numbers of the windows after each change. -/
def Agg.qs (k : Int) (l : List (Bool × Int)) : List Int := (List.range l.length).map fun i => Agg.number k (Agg.winAt l (i + 1))
def Agg.qOk (k : Int) (l : List (Bool × Int)) : Bool := Agg.isKind k && Agg.opsOk l
def Agg.qOut (k : Int) (l : List (Bool × Int)) : List Int := if Agg.qOk k l then Agg.qs k l else []
theorem Agg.qs_len (k : Int) (l : List (Bool × Int)) : (Agg.qs k l).length = l.length := by simp [Agg.qs]
theorem Agg.qs_step (k : Int) (l : List (Bool × Int)) (j : Nat) (h : j < l.length) : (Agg.qs k l).take (j + 1) = (Agg.qs k l).take j ++ [Agg.number k (Agg.winAt l (j + 1))] := by
  rw [List.take_succ_eq_append_getElem (by rw [Agg.qs_len]; exact h)]
  simp [Agg.qs]
theorem Agg.qOut_len (k : Int) (l : List (Bool × Int)) : (Agg.qOut k l).length ≤ 200 := by
  unfold Agg.qOut
  split
  · rename_i h
    simp only [Agg.qOk, Bool.and_eq_true] at h
    rw [Agg.qs_len]
    exact (Agg.opsOk_parts h.2).1
  · simp
theorem Agg.win_ok {l : List (Bool × Int)} (h : Agg.opsOk l = true) (i : Nat) (hi : i ≤ l.length) : Agg.itemsOk (Agg.winAt l i) = true := by
  obtain ⟨-, h1, h2⟩ := Agg.opsOk_parts h
  exact Agg.items_of (Agg.win_len i (Agg.fitTo_down hi h2)) (Agg.win_items i (Agg.allOk_down hi h1))
end Go.Proofs.Ythkokeeciicdnaa
