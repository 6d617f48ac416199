/-
  Queries: copied, measured.
-/
import Derived.Test.Ytofpnmjadflebaa9a
import Derived.OwnWalk
namespace Go.Proofs.Ytofpnmjadflebaa
set_option linter.unusedSimpArgs false
set_option linter.unusedVariables false
open Go.RowKit
def qryAt (l : List (Int × Int)) (i : Nat) : Int × Int := l[i]?.getD (0, 0)
def partlyQy (l : List (Int × Int)) (k : Nat) : List (Int × Int) := l.take k ++ List.replicate (l.length - k) (0, 0)
theorem partlyQy_all (l : List (Int × Int)) : partlyQy l l.length = l := by simp [partlyQy]
theorem partlyQy_set (l : List (Int × Int)) (k : Nat) (h : k < l.length) : ((qryRow (partlyQy l k)).set (k * 2) (.int .i64 (qryAt l k).1)).set (k * 2 + 1) (.int .i64 (qryAt l k).2) = qryRow (partlyQy l (k + 1)) := by
  obtain ⟨m, hm⟩ : ∃ m, l.length - k = m + 1 := ⟨l.length - k - 1, by omega⟩
  have e : l.take (k + 1) = l.take k ++ [qryAt l k] := by
    rw [List.take_succ_eq_append_getElem h]; simp [qryAt, h]
  have e2 : l.length - (k + 1) = m := by omega
  have hk : (qryRow (l.take k)).length = k * 2 := by rw [qryRow_length]; simp; omega
  unfold partlyQy
  rw [hm, e, e2, List.append_assoc, qryRow_append, qryRow_append, List.replicate_succ]
  rw [List.set_append_right _ _ (by rw [hk]; omega), List.set_append_right _ _ (by rw [hk]; omega), hk, Nat.sub_self, show k * 2 + 1 - k * 2 = 1 by omega]
  simp [qryRow, qryCells]
theorem made_qrys (n : Nat) : (madeCells #[Value.int .i64 0, Value.int .i64 0] (n * 2)).toList = qryRow (List.replicate n (0, 0)) := by
  apply List.ext_getElem
  · rw [qryRow_length]; simp [madeCells]
  · intro i h1 h2
    have hi : i < n * 2 := by simpa [madeCells] using h1
    obtain ⟨q, hq⟩ : ∃ q, i = q * 2 ∨ i = q * 2 + 1 := ⟨i / 2, by omega⟩
    have hqn : q < n := by omega
    have := qryRow_at (List.replicate n (0, 0)) q (by simpa using hqn)
    simp only [List.getElem?_replicate, hqn, if_true, Option.getD_some] at this
    rcases hq with rfl | rfl
    · rw [List.getElem?_eq_getElem h2] at this
      rw [Option.some.inj this.1]
      simp [madeCells, Nat.mul_mod_left]
    · rw [List.getElem?_eq_getElem h2] at this
      rw [Option.some.inj this.2]
      have e : (q * 2 + 1) % 2 = 1 := by omega
      simp [madeCells, e]
/-- A row of queries is made. -/
def MadeQrys (l : List (Int × Int)) (n : Nat) (w : World) (e : Ending) (w' : World) : Prop :=
  ∃ v, e = .returned v ∧ OwnQy w' w.heap.size w'.heap.size v n l ∧ Below w.heap.size w w'
end Go.Proofs.Ytofpnmjadflebaa
