/-
  Rows of changes of the call's own: compared, marked, held, as the exact laws do.
-/
import Derived.Test.YtccimldchfekeaaOp
namespace Go.Proofs.Ytccimldchfekeaa
set_option linter.unusedSimpArgs false
set_option linter.unusedVariables false
open Go.RowKit
/-- The marks of changes from k on. -/
def seqO (k : Int) : Nat → List (Bool × Int)
  | 0 => []
  | n + 1 => (k % 3 == 0, k + 1) :: seqO (k + 2) n
theorem seqO_length (k : Int) (n : Nat) : (seqO k n).length = n := by
  induction n generalizing k with
  | zero => rfl
  | succ n ih => simp [seqO, ih]
theorem seqO_at (k : Int) (n i : Nat) (h : i < n) : (seqO k n)[i]?.getD (false, 0) = ((k + 2 * i) % 3 == 0, k + 2 * i + 1) := by
  induction n generalizing k i with
  | zero => omega
  | succ n ih =>
    cases i with
    | zero => simp [seqO]
    | succ i =>
      simp only [seqO, List.getElem?_cons_succ]
      rw [ih (k + 2) i (by omega), show k + 2 + 2 * (i : Int) = k + 2 * ((i + 1 : Nat) : Int) by omega]
theorem seqO_snoc (k : Int) (n : Nat) : seqO k (n + 1) = seqO k n ++ [((k + 2 * n) % 3 == 0, k + 2 * n + 1)] := by
  induction n generalizing k with
  | zero => simp [seqO]
  | succ n ih =>
    rw [seqO, ih (k + 2), seqO, List.cons_append, show k + 2 + 2 * (n : Int) = k + 2 * ((n + 1 : Nat) : Int) by omega]
def markedO (k : Int) (l : List (Bool × Int)) (i : Nat) : List (Bool × Int) := seqO k i ++ l.drop i
theorem markedO_zero (k : Int) (l : List (Bool × Int)) : markedO k l 0 = l := by simp [markedO, seqO]
theorem markedO_all (k : Int) (l : List (Bool × Int)) : markedO k l l.length = seqO k l.length := by simp [markedO]
theorem opRow_append (a b : List (Bool × Int)) : opRow (a ++ b) = opRow a ++ opRow b := by simp [opRow]
theorem markedO_set (k : Int) (l : List (Bool × Int)) (i : Nat) (h : i < l.length) : ((opRow (markedO k l i)).set (i * 2) (.bool ((k + 2 * i) % 3 == 0))).set (i * 2 + 1) (.int .i64 (k + 2 * i + 1)) = opRow (markedO k l (i + 1)) := by
  obtain ⟨o, t, ht, hd⟩ : ∃ o t, l.drop i = o :: t ∧ l.drop (i + 1) = t := ⟨_, _, List.drop_eq_getElem_cons h, rfl⟩
  unfold markedO
  rw [ht, hd, seqO_snoc, List.append_assoc, opRow_append, opRow_append]
  rw [List.set_append_right _ _ (by rw [opRow_length, seqO_length]; omega), List.set_append_right _ _ (by rw [opRow_length, seqO_length]; omega)]
  rw [opRow_length, seqO_length, Nat.sub_self, show i * 2 + 1 - i * 2 = 1 by omega]
  simp [opRow, opCells]
theorem grownR {a b d : World} {c : Nat} (h : a.grownBy b (some c)) (k : b.grownBy d (some c)) : a.grownBy d (some c) :=
  ⟨k.os.trans h.os, k.tape.trans h.tape, k.output.trans h.output, Nat.le_trans h.size k.size, fun i hi hne => (k.block i (Nat.lt_of_lt_of_le hi h.size) hne).trans (h.block i hi hne)⟩

end Go.Proofs.Ytccimldchfekeaa
