/-
  Rows of aggregates: marked, held, copied, as the exact laws do.
-/
import Derived.Test.YticoalgnkddapaaGreatRw
namespace Go.Proofs.YticoalgnkddapaaGreat
set_option linter.unusedSimpArgs false
set_option linter.unusedVariables false
open Go.RowKit
/-- The marks of aggregates from k on. -/
def seqV (k : Int) : Nat → List Agg.V
  | 0 => []
  | n + 1 => ⟨k, k + 1, k + 2⟩ :: seqV (k + 3) n
theorem seqV_length (k : Int) (n : Nat) : (seqV k n).length = n := by
  induction n generalizing k with
  | zero => rfl
  | succ n ih => simp [seqV, ih]
theorem seqV_at (k : Int) (n i : Nat) (h : i < n) : (seqV k n)[i]?.getD Agg.zero = ⟨k + 3 * i, k + 3 * i + 1, k + 3 * i + 2⟩ := by
  induction n generalizing k i with
  | zero => omega
  | succ n ih =>
    cases i with
    | zero => simp [seqV]
    | succ i =>
      simp only [seqV, List.getElem?_cons_succ]
      rw [ih (k + 3) i (by omega), show k + 3 + 3 * (i : Int) = k + 3 * ((i + 1 : Nat) : Int) by omega]
theorem seqV_snoc (k : Int) (n : Nat) : seqV k (n + 1) = seqV k n ++ [⟨k + 3 * n, k + 3 * n + 1, k + 3 * n + 2⟩] := by
  induction n generalizing k with
  | zero => simp [seqV]
  | succ n ih =>
    rw [seqV, ih (k + 3), seqV, List.cons_append, show k + 3 + 3 * (n : Int) = k + 3 * ((n + 1 : Nat) : Int) by omega]
def markedV (k : Int) (l : List Agg.V) (i : Nat) : List Agg.V := seqV k i ++ l.drop i
theorem markedV_zero (k : Int) (l : List Agg.V) : markedV k l 0 = l := by simp [markedV, seqV]
theorem markedV_all (k : Int) (l : List Agg.V) : markedV k l l.length = seqV k l.length := by simp [markedV]
theorem markedV_set (k : Int) (l : List Agg.V) (i : Nat) (h : i < l.length) : (((valRow (markedV k l i)).set (i * 3) (.int .i64 (k + 3 * i))).set (i * 3 + 1) (.int .i64 (k + 3 * i + 1))).set (i * 3 + 2) (.int .i64 (k + 3 * i + 1 + 1)) = valRow (markedV k l (i + 1)) := by
  rw [show k + 3 * (i : Int) + 1 + 1 = k + 3 * i + 2 by omega]
  obtain ⟨o, t, ht, hd⟩ : ∃ o t, l.drop i = o :: t ∧ l.drop (i + 1) = t := ⟨_, _, List.drop_eq_getElem_cons h, rfl⟩
  unfold markedV
  rw [ht, hd, seqV_snoc, List.append_assoc, valRow_append, valRow_append]
  rw [List.set_append_right _ _ (by rw [valRow_length, seqV_length]; omega), List.set_append_right _ _ (by rw [valRow_length, seqV_length]; omega), List.set_append_right _ _ (by rw [valRow_length, seqV_length]; omega)]
  rw [valRow_length, seqV_length, Nat.sub_self, show i * 3 + 1 - i * 3 = 1 by omega, show i * 3 + 2 - i * 3 = 2 by omega]
  simp [valRow, valCells]
theorem v_grownR {a b d : World} {c : Nat} (h : a.grownBy b (some c)) (k : b.grownBy d (some c)) : a.grownBy d (some c) :=
  ⟨k.os.trans h.os, k.tape.trans h.tape, k.output.trans h.output, Nat.le_trans h.size k.size, fun i hi hne => (k.block i (Nat.lt_of_lt_of_le hi h.size) hne).trans (h.block i hi hne)⟩

def partlyV (l : List Agg.V) (k : Nat) : List Agg.V := l.take k ++ List.replicate (l.length - k) Agg.zero
theorem partlyV_all (l : List Agg.V) : partlyV l l.length = l := by simp [partlyV]
theorem partlyV_set (l : List Agg.V) (k : Nat) (h : k < l.length) : (((valRow (partlyV l k)).set (k * 3) (.int .i64 (l[k]?.getD Agg.zero).x)).set (k * 3 + 1) (.int .i64 (l[k]?.getD Agg.zero).y)).set (k * 3 + 2) (.int .i64 (l[k]?.getD Agg.zero).z) = valRow (partlyV l (k + 1)) := by
  obtain ⟨m, hm⟩ : ∃ m, l.length - k = m + 1 := ⟨l.length - k - 1, by omega⟩
  have e : l.take (k + 1) = l.take k ++ [l[k]?.getD Agg.zero] := by
    rw [List.take_succ_eq_append_getElem h]; simp [h]
  have e2 : l.length - (k + 1) = m := by omega
  have hk : (valRow (l.take k)).length = k * 3 := by rw [valRow_length]; simp; omega
  unfold partlyV
  rw [hm, e, e2, List.append_assoc, valRow_append, valRow_append, List.replicate_succ]
  rw [List.set_append_right _ _ (by rw [hk]; omega), List.set_append_right _ _ (by rw [hk]; omega), List.set_append_right _ _ (by rw [hk]; omega), hk, Nat.sub_self, show k * 3 + 1 - k * 3 = 1 by omega, show k * 3 + 2 - k * 3 = 2 by omega]
  simp [valRow, valCells]
theorem made_vals (n : Nat) : (madeCells #[Value.int .i64 0, Value.int .i64 0, Value.int .i64 0] (n * 3)).toList = valRow (List.replicate n Agg.zero) := by
  apply List.ext_getElem
  · rw [valRow_length]; simp [madeCells]
  · intro i h1 h2
    have hi : i < n * 3 := by simpa [madeCells] using h1
    obtain ⟨q, hq⟩ : ∃ q, i = q * 3 ∨ i = q * 3 + 1 ∨ i = q * 3 + 2 := ⟨i / 3, by omega⟩
    have hqn : q < n := by omega
    have := valRow_at (List.replicate n Agg.zero) q (by simpa using hqn)
    simp only [List.getElem?_replicate, hqn, if_true, Option.getD_some] at this
    rcases hq with rfl | rfl | rfl
    · rw [List.getElem?_eq_getElem h2] at this
      rw [Option.some.inj this.1]
      simp [madeCells, Nat.mul_mod_left, Agg.zero]
    · rw [List.getElem?_eq_getElem h2] at this
      rw [Option.some.inj this.2.1]
      have e : (q * 3 + 1) % 3 = 1 := by omega
      simp [madeCells, e, Agg.zero]
    · rw [List.getElem?_eq_getElem h2] at this
      rw [Option.some.inj this.2.2]
      have e : (q * 3 + 2) % 3 = 2 := by omega
      simp [madeCells, e, Agg.zero]
/-- A row of aggregates is made. -/
def MadeVals (l : List Agg.V) (n : Nat) (w : World) (e : Ending) (w' : World) : Prop :=
  ∃ v, e = .returned v ∧ OwnV w' w.heap.size w'.heap.size v n l ∧ Below w.heap.size w w'
end Go.Proofs.YticoalgnkddapaaGreat
