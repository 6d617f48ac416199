/-
  Rows of numbers in memory of the call's own, as the exact laws make, mark, compare and hold them.
-/
import Derived.Test.YtohllpdmopofoaaGreatT
import Derived.Maps.AppendAt
namespace Go.Proofs.YtohllpdmopofoaaGreat
set_option linter.unusedSimpArgs false
set_option linter.unusedVariables false
open Go.RowKit

theorem Below.grownNone {w w' : World} (hb : Below w.heap.size w w') (row : Option Nat) : w.grownBy w' row :=
  ⟨hb.os, hb.tape, hb.output, hb.size, fun k hk _ => hb.block k hk⟩

/-- A row of numbers whose block, if it has one, is not below lo and below hi. -/
def OwnR (w : World) (lo hi : Nat) (v : Value) (n : Nat) (l : List Int) : Prop :=
  w.ownsRow lo 3 1 v n (l.map (Value.int .i64)) ∧ lo ≤ hi ∧ hi ≤ w.heap.size ∧ (∀ g, v.ownBlock = some g → g < hi)

theorem OwnR.kept {w w' : World} {lo hi n : Nat} {v : Value} {l : List Int} {row : Option Nat} (h : OwnR w lo hi v n l) (hg : w.grownBy w' row) (hr : ∀ j, row = some j → j < lo ∨ hi ≤ j) : OwnR w' lo hi v n l := by
  obtain ⟨h1, h2, h3, h4⟩ := h
  refine ⟨h1.kept hg ?_, h2, Nat.le_trans h3 hg.size, h4⟩
  cases hv : v.ownBlock with
  | none => exact .inl rfl
  | some g =>
    refine .inr (fun e => ?_)
    have := (h1.lt g hv).1
    have := h4 g hv
    have := hr g e.symm
    omega
theorem OwnR.below {w w' : World} {lo hi n : Nat} {v : Value} {l : List Int} (h : OwnR w lo hi v n l) (hb : Below w.heap.size w w') : OwnR w' lo hi v n l :=
  h.kept (row := none) (Below.grownNone hb _) (fun j e => by cases e)
theorem OwnR.nums {w : World} {lo hi n : Nat} {v : Value} {l : List Int} (h : OwnR w lo hi v n l) : ∃ a cap, v = .slice a n cap ∧ Nums .i64 w a n cap l ∧ l.length = n := by
  have hl : l.length = n := by have := h.1.1; simpa using this
  rcases h.1.2 with ⟨rfl, rfl⟩ | ⟨g, cap, cur, rfl, -, hg, h1, h2, -⟩
  · exact ⟨none, 0, rfl, ⟨hl, Nat.le_refl _, by simp [maxLen], .inl rfl⟩, hl⟩
  · exact ⟨_, cap, rfl, Nums.of_owns (g := g) h.1, hl⟩
theorem owns_lower {w : World} {base base' e size n : Nat} {v : Value} {xs : List Value} (h : w.ownsRow base e size v n xs) (hb : base' ≤ base) : w.ownsRow base' e size v n xs := by
  obtain ⟨h1, h2⟩ := h
  refine ⟨h1, ?_⟩
  rcases h2 with h2 | ⟨g, cap, cur, hv, hg, rest⟩
  · exact .inl h2
  · exact .inr ⟨g, cap, cur, hv, Nat.le_trans hb hg, rest⟩
/-- A row that a call has made. -/
theorem OwnR.made {w w' : World} {n : Nat} {v : Value} {l : List Int} (h : w'.ownsRow w.heap.size 3 1 v n (l.map (Value.int .i64))) (hs : w.heap.size ≤ w'.heap.size) : OwnR w' w.heap.size w'.heap.size v n l :=
  ⟨h, hs, Nat.le_refl _, fun g hg => (h.lt g hg).2⟩

/-- A row is made, with these numbers. -/
def MadeRow (l : List Int) (n : Nat) (w : World) (e : Ending) (w' : World) : Prop :=
  ∃ v, e = .returned v ∧ OwnR w' w.heap.size w'.heap.size v n l ∧ Below w.heap.size w w'



/-- k, k + 1 and so on: n numbers. -/
def seq (k : Int) : Nat → List Int
  | 0 => []
  | n + 1 => k :: seq (k + 1) n
theorem seq_length (k : Int) (n : Nat) : (seq k n).length = n := by
  induction n generalizing k with
  | zero => rfl
  | succ n ih => simp [seq, ih]
theorem seq_at (k : Int) (n i : Nat) (h : i < n) : (seq k n)[i]?.getD 0 = k + i := by
  induction n generalizing k i with
  | zero => omega
  | succ n ih =>
    cases i with
    | zero => simp [seq]
    | succ i => simp [seq, ih (k + 1) i (by omega)]; omega

/-- The first i numbers of l replaced by those from k on. -/
def marked (k : Int) (l : List Int) (i : Nat) : List Int := (seq k i) ++ l.drop i
theorem marked_zero (k : Int) (l : List Int) : marked k l 0 = l := by simp [marked, seq]
theorem marked_all (k : Int) (l : List Int) : marked k l l.length = seq k l.length := by simp [marked]
theorem seq_snoc (k : Int) (n : Nat) : seq k (n + 1) = seq k n ++ [k + n] := by
  induction n generalizing k with
  | zero => simp [seq]
  | succ n ih =>
    rw [seq, ih (k + 1), seq, List.cons_append]
    congr 2
    simp
    omega
theorem marked_set (k : Int) (l : List Int) (i : Nat) (h : i < l.length) : (marked k l i).set i (k + i) = marked k l (i + 1) := by
  unfold marked
  rw [List.set_append_right _ _ (by rw [seq_length]; omega), seq_length, Nat.sub_self, List.drop_eq_getElem_cons h, List.set_cons_zero, seq_snoc, List.append_assoc, List.singleton_append]


end Go.Proofs.YtohllpdmopofoaaGreat
