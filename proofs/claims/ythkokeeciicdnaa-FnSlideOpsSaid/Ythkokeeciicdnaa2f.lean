/-
  Changes that the model bends; cases of a kind and changes.
-/
import Derived.Test.Ythkokeeciicdnaa2d
import Derived.Test.YthkokeeciicdnaaRw
import Derived.Deep.DeepMust
namespace Go.Proofs.Ythkokeeciicdnaa
set_option linter.unusedSimpArgs false
set_option linter.unusedVariables false
open Go.RowKit
theorem opRow_oneCell (l : List (Bool × Int)) : ∀ u ∈ opRow l, u.oneCell' = true := by
  intro u hu
  simp only [opRow, List.mem_flatMap] at hu
  obtain ⟨v, -, hv⟩ := hu
  exact two_oneCell _ _ u hv
theorem opRow_set (l : List (Bool × Int)) (j : Nat) (q : Bool) (x : Int) (h : j < l.length) : ((opRow l).set (j * 2) (.bool q)).set (j * 2 + 1) (.int .i64 x) = opRow (l.set j (q, x)) := by
  induction l generalizing j with
  | nil => simp at h
  | cons o l ih =>
    cases j with
    | zero => simp [opRow, opCells]
    | succ j =>
      have := ih j (by simpa using h)
      rw [show (j + 1) * 2 = j * 2 + 1 + 1 by omega]
      simp only [opRow, opCells, List.flatMap_cons, List.cons_append, List.nil_append, List.set_cons_succ] at this ⊢
      rw [this]
theorem ops_src {w : World} {base n : Nat} {v : Value} {l : List (Bool × Int)} (h : w.ownsRow base 69 2 v n (opRow l)) : ∃ a c, v = .slice a n c ∧ SrcOk w a n 2 (opRow l) := by
  have hl : (opRow l).length = n * 2 := h.1
  rcases h.2 with ⟨rfl, rfl⟩ | ⟨g, cap, cur, rfl, -, hg, h1, h2, h3, h4⟩
  · exact ⟨none, 0, rfl, fun _ => ⟨rfl, List.eq_nil_of_length_eq_zero (by simpa using hl)⟩, fun ad e => (by cases e), hl, opRow_oneCell l⟩
  · refine ⟨_, cap, rfl, fun e => (by cases e), ?_, hl, opRow_oneCell l⟩
    intro ad e j u hj
    obtain rfl := Option.some.inj e
    have hjn : j < n * 2 := by rw [← hl]; exact (List.getElem?_eq_some_iff.1 hj).1
    rw [Addr.add_lit, Nat.zero_add]
    have hc : cur[j]? = some u := by rw [← hj, ← h4, List.getElem?_take, if_pos hjn, Array.getElem?_toList]
    simp [World.cell?, hg, hc]
theorem opRow_set1 (l : List (Bool × Int)) (j : Nat) (x : Int) (h : j < l.length) : (opRow l).set (j * 2 + 1) (.int .i64 x) = opRow (l.set j ((l[j]?.getD (false, 0)).1, x)) := by
  induction l generalizing j with
  | nil => simp at h
  | cons o l ih =>
    cases j with
    | zero => simp [opRow, opCells]
    | succ j =>
      have := ih j (by simpa using h)
      rw [show (j + 1) * 2 = j * 2 + 1 + 1 by omega]
      simp only [opRow, opCells, List.flatMap_cons, List.cons_append, List.nil_append, List.set_cons_succ, List.getElem?_cons_succ] at this ⊢
      rw [this]
def lenV : Value → Nat
  | .slice _ n _ => n
  | _ => 0
theorem own_some {w : World} {base e size n : Nat} {v : Value} {xs : List Value} (h : w.ownsRow base e size v n xs) (hn : 0 < n) : ∃ g c, v = .slice (some ⟨g, 0, none⟩) n c ∧ base ≤ g ∧ g < w.heap.size ∧ c ≤ 9223372036854775807 ∧ n ≤ c := by
  rcases h.2 with ⟨_, h0⟩ | ⟨g, cap, cur, rfl, hb, hg, h1, h2, -⟩
  · omega
  · exact ⟨g, cap, rfl, hb, (Array.getElem?_eq_some_iff.1 hg).1, by unfold maxLen at h2; omega, h1⟩
theorem row_ne_some {v : Value} {b c : Nat} (h : ∀ k, v.ownBlock = some k → b ≤ k) (hc : c < b) : v.ownBlock = none ∨ v.ownBlock ≠ some c := by
  cases hv : v.ownBlock with
  | none => exact .inl rfl
  | some k => exact .inr (fun e => by have := h k hv; cases e; omega)
/-- A kind and changes. -/
def CaseDrawn (w : World) (e : Ending) (w' : World) : Prop :=
  ∃ (k : Int) (v : Value) (n : Nat) (l : List (Bool × Int)), e = .returned (.tuple #[.int .i64 k, v]) ∧ OwnO w' w.heap.size w'.heap.size v n l ∧ n ≤ 100 ∧ -1 ≤ k ∧ k ≤ 11 ∧ Below w.heap.size w w'
end Go.Proofs.Ythkokeeciicdnaa
