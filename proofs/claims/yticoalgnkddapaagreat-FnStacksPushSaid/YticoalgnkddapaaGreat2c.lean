/-
  Changes: copied, measured, told apart, collected.
-/
import Derived.Test.YticoalgnkddapaaGreatRw
import Derived.Test.YticoalgnkddapaaGreatMa
import Derived.OwnWalk
namespace Go.Proofs.YticoalgnkddapaaGreat
set_option linter.unusedSimpArgs false
set_option linter.unusedVariables false
open Go.RowKit
def partlyO (l : List (Bool × Int)) (k : Nat) : List (Bool × Int) := l.take k ++ List.replicate (l.length - k) (false, 0)
theorem partlyO_all (l : List (Bool × Int)) : partlyO l l.length = l := by simp [partlyO]
theorem partlyO_set (l : List (Bool × Int)) (k : Nat) (h : k < l.length) : ((opRow (partlyO l k)).set (k * 2) (.bool (Agg.opAt l k).1)).set (k * 2 + 1) (.int .i64 (Agg.opAt l k).2) = opRow (partlyO l (k + 1)) := by
  obtain ⟨m, hm⟩ : ∃ m, l.length - k = m + 1 := ⟨l.length - k - 1, by omega⟩
  have e : l.take (k + 1) = l.take k ++ [Agg.opAt l k] := by
    rw [List.take_succ_eq_append_getElem h]; simp [Agg.opAt, h]
  have e2 : l.length - (k + 1) = m := by omega
  have hk : (opRow (l.take k)).length = k * 2 := by rw [opRow_length]; simp; omega
  unfold partlyO
  rw [hm, e, e2, List.append_assoc, opRow_append, opRow_append, List.replicate_succ]
  rw [List.set_append_right _ _ (by rw [hk]; omega), List.set_append_right _ _ (by rw [hk]; omega), hk, Nat.sub_self, show k * 2 + 1 - k * 2 = 1 by omega]
  simp [opRow, opCells]
theorem made_ops (n : Nat) : (madeCells #[Value.bool false, Value.int .i64 0] (n * 2)).toList = opRow (List.replicate n (false, 0)) := by
  apply List.ext_getElem
  · rw [opRow_length]; simp [madeCells]
  · intro i h1 h2
    have hi : i < n * 2 := by simpa [madeCells] using h1
    obtain ⟨q, hq⟩ : ∃ q, i = q * 2 ∨ i = q * 2 + 1 := ⟨i / 2, by omega⟩
    have hqn : q < n := by omega
    have := opRow_at (List.replicate n (false, 0)) q (by simpa using hqn)
    simp only [List.getElem?_replicate, hqn, if_true, Option.getD_some] at this
    rcases hq with rfl | rfl
    · rw [List.getElem?_eq_getElem h2] at this
      rw [Option.some.inj this.1]
      simp [madeCells, Nat.mul_mod_left]
    · rw [List.getElem?_eq_getElem h2] at this
      rw [Option.some.inj this.2]
      have e : (q * 2 + 1) % 2 = 1 := by omega
      simp [madeCells, e]
/-- A row of changes is made. -/
def MadeOps (l : List (Bool × Int)) (n : Nat) (w : World) (e : Ending) (w' : World) : Prop :=
  ∃ v, e = .returned v ∧ OwnO w' w.heap.size w'.heap.size v n l ∧ Below w.heap.size w w'
/-- A change as the program keeps it. -/
def chg (o : Bool × Int) : Value := if o.1 then .iface 173 (.agg #[.int .i64 o.2]) else .iface 174 (.agg #[])
theorem changeOf_any (p : Bool) (x : Int) (w : World) :
    Calls Tryz.prog 102 #[.agg #[.bool p, .int .i64 x]] w fun e w' => e = .returned (.tuple #[if Agg.opOk (p, x) then chg (p, x) else .nilIface, .bool (Agg.opOk (p, x))]) ∧ Below w.heap.size w w' := by
  cases p
  · by_cases hx : x = 0
    · subst hx
      have e : Agg.opOk (false, 0) = true := by simp [Agg.opOk]
      rw [e, if_pos rfl]
      go_enter Tryz.func102, Tryz.ntmps102
      go_wp2_with fail
      go_returns
      exact ⟨rfl, (by first | (go_grown; done) | (refine below_drewN ?_ _; go_grown; done) | (refine (below_drewN _ ?_); go_grown; done))⟩
    · have e : Agg.opOk (false, x) = false := by simp [Agg.opOk, hx]
      rw [e, if_neg (by simp)]
      clear e
      go_enter Tryz.func102, Tryz.ntmps102
      go_wp2_with fail
      go_returns
      exact ⟨rfl, (by first | (go_grown; done) | (refine below_drewN ?_ _; go_grown; done) | (refine (below_drewN _ ?_); go_grown; done))⟩
  · cases hx : Agg.isItem x
    · have e : Agg.opOk (true, x) = false := by simp [Agg.opOk, hx]
      rw [e, if_neg (by simp)]
      clear e
      go_enter Tryz.func102, Tryz.ntmps102
      go_wp2_with (go_at_call 67; refine (isItem_any _ _).mono ?_; rintro e wk ⟨rfl, rfl⟩)
      go_returns
      exact ⟨rfl, (by first | (go_grown; done) | (refine below_drewN ?_ _; go_grown; done) | (refine (below_drewN _ ?_); go_grown; done))⟩
    · have e : Agg.opOk (true, x) = true := by simp [Agg.opOk, hx]
      rw [e, if_pos rfl]
      clear e
      go_enter Tryz.func102, Tryz.ntmps102
      go_wp2_with (go_at_call 67; refine (isItem_any _ _).mono ?_; rintro e wk ⟨rfl, rfl⟩)
      go_returns
      exact ⟨rfl, (by first | (go_grown; done) | (refine below_drewN ?_ _; go_grown; done) | (refine (below_drewN _ ?_); go_grown; done))⟩
end Go.Proofs.YticoalgnkddapaaGreat
