/-
  Rows of queries: a slice of pairs of numbers; rows of the call's own; comparison, marks.
-/
import Derived.Test.YtofpnmjadflebaaRw
import Derived.Deep.RegionHeld3
namespace Go.Proofs.Ytofpnmjadflebaa
set_option linter.unusedSimpArgs false
set_option linter.unusedVariables false
open Go.RowKit

def qryCells (o : Int × Int) : List Value := [.int .i64 o.1, .int .i64 o.2]
def qryRow (l : List (Int × Int)) : List Value := l.flatMap qryCells
theorem qryRow_nil : qryRow [] = [] := rfl
theorem qryRow_snoc (l : List (Int × Int)) (o : Int × Int) : qryRow (l ++ [o]) = qryRow l ++ [.int .i64 o.1, .int .i64 o.2] := by simp [qryRow, qryCells]
theorem qryRow_length (l : List (Int × Int)) : (qryRow l).length = l.length * 2 := by
  induction l with
  | nil => rfl
  | cons o l ih => simp only [qryRow, List.flatMap_cons, List.length_append] at ih ⊢; simp [qryCells, ih]; omega
theorem qryRow_at (l : List (Int × Int)) : ∀ i, i < l.length → (qryRow l)[i * 2]? = some (.int .i64 (l[i]?.getD (0, 0)).1) ∧ (qryRow l)[i * 2 + 1]? = some (.int .i64 (l[i]?.getD (0, 0)).2) := by
  induction l with
  | nil => intro i h; simp at h
  | cons o l ih =>
    intro i h
    cases i with
    | zero => simp [qryRow, qryCells]
    | succ i =>
      have := ih i (by simpa using h)
      rw [show (i + 1) * 2 = i * 2 + 2 by omega, show i * 2 + 2 + 1 = (i * 2 + 1) + 2 by omega]
      simpa [qryRow, qryCells] using this

/-- The slice with this address, length and capacity reads as the list l of queries. -/
def Qrs (w : World) (a : Option Addr) (n cap : Nat) (l : List (Int × Int)) : Prop :=
  l.length = n ∧ n ≤ cap ∧ cap ≤ maxLen ∧
  (n = 0 ∨ ∃ b off, a = some ⟨b, off, none⟩ ∧ b < w.heap.size ∧ ∀ i, i < n → w.cell? ⟨b, off + i * 2, none⟩ = some (.int .i64 (l[i]?.getD (0, 0)).1) ∧ w.cell? ⟨b, off + i * 2 + 1, none⟩ = some (.int .i64 (l[i]?.getD (0, 0)).2))
theorem Qrs.below {w w' : World} {a : Option Addr} {n cap : Nat} {l : List (Int × Int)} (h : Qrs w a n cap l) (hb : Below w.heap.size w w') : Qrs w' a n cap l := by
  obtain ⟨h1, h2, h3, h4⟩ := h
  refine ⟨h1, h2, h3, ?_⟩
  rcases h4 with h4 | ⟨b, off, ha, hlt, hc⟩
  · exact .inl h4
  · exact .inr ⟨b, off, ha, Nat.lt_of_lt_of_le hlt hb.size, fun i hi => ⟨(hb.cell (p := ⟨b, off + i * 2, none⟩) hlt).trans (hc i hi).1, (hb.cell (p := ⟨b, off + i * 2 + 1, none⟩) hlt).trans (hc i hi).2⟩⟩

/-- A row of queries whose block, if it has one, is not below lo and below hi. -/
def OwnQy (w : World) (lo hi : Nat) (v : Value) (n : Nat) (l : List (Int × Int)) : Prop :=
  w.ownsRow lo 28 2 v n (qryRow l) ∧ lo ≤ hi ∧ hi ≤ w.heap.size ∧ (∀ g, v.ownBlock = some g → g < hi)
theorem OwnQy.kept {w w' : World} {lo hi n : Nat} {v : Value} {l : List (Int × Int)} {row : Option Nat} (h : OwnQy w lo hi v n l) (hg : w.grownBy w' row) (hr : ∀ j, row = some j → j < lo ∨ hi ≤ j) : OwnQy w' lo hi v n l := by
  obtain ⟨h1, h2, h3, h4⟩ := h
  refine ⟨h1.kept hg ?_, h2, Nat.le_trans h3 hg.size, h4⟩
  cases hv : v.ownBlock with
  | none => exact .inl rfl
  | some g =>
    refine .inr (fun e => ?_)
    have := (h1.lt g hv).1
    have := h4 g hv
    have := hr g e.symm
    omega
theorem OwnQy.below {w w' : World} {lo hi n : Nat} {v : Value} {l : List (Int × Int)} (h : OwnQy w lo hi v n l) (hb : Below w.heap.size w w') : OwnQy w' lo hi v n l :=
  h.kept (row := none) (Below.grownNone hb _) (fun j e => by cases e)
theorem OwnQy.len {w : World} {lo hi n : Nat} {v : Value} {l : List (Int × Int)} (h : OwnQy w lo hi v n l) : l.length = n := by
  have := h.1.1
  rw [qryRow_length] at this
  omega
theorem OwnQy.ops {w : World} {lo hi n : Nat} {v : Value} {l : List (Int × Int)} (h : OwnQy w lo hi v n l) : ∃ a cap, v = .slice a n cap ∧ Qrs w a n cap l := by
  have hl := h.len
  rcases h.1.2 with ⟨rfl, rfl⟩ | ⟨g, cap, cur, rfl, -, hg, h1, h2, h3, h4⟩
  · exact ⟨none, 0, rfl, hl, Nat.le_refl _, by simp [maxLen], .inl rfl⟩
  · refine ⟨_, cap, rfl, hl, h1, h2, .inr ⟨g, 0, rfl, (Array.getElem?_eq_some_iff.1 hg).1, fun i hi => ?_⟩⟩
    have hcell : ∀ j, j < n * 2 → w.cell? ⟨g, j, none⟩ = (qryRow l)[j]? := by
      intro j hj
      have : cur[j]? = (qryRow l)[j]? := by
        rw [← h4, List.getElem?_take, if_pos hj, Array.getElem?_toList]
      simp [World.cell?, hg, this]
    have := qryRow_at l i (by omega)
    rw [Nat.zero_add, hcell _ (by omega), hcell _ (by omega)]
    exact this
theorem OwnQy.made {w w' : World} {n : Nat} {v : Value} {l : List (Int × Int)} (h : w'.ownsRow w.heap.size 28 2 v n (qryRow l)) (hs : w.heap.size ≤ w'.heap.size) : OwnQy w' w.heap.size w'.heap.size v n l :=
  ⟨h, hs, Nat.le_refl _, fun g hg => (h.lt g hg).2⟩
theorem infoQy : (Try.prog.info? 28).map (fun i => (i.zero, i.size, i.bytes)) = some (some (.agg #[.int .i64 0, .int .i64 0]), 2, 16) := by kernel_rfl
theorem cell_two_newQ (w : World) (p : Int) (x : Int) (T : TypeId) : ∀ j u, [Value.int .i64 p, Value.int .i64 x][j]? = some u → (w.alloc (.cells #[.int .i64 p, .int .i64 x] T)).cell? ((⟨w.heap.size, 0, none⟩ : Addr).add j) = some u := by
  intro j u h
  match j, h with
  | 0, h => simp at h; subst h; simp [Addr.add, World.cell?_alloc_new]
  | 1, h => simp at h; subst h; simp [Addr.add, World.cell?_alloc_new]
  | j + 2, h => simp at h
theorem two_oneCellQ (p : Int) (x : Int) : ∀ u ∈ [Value.int .i64 p, Value.int .i64 x], u.oneCell' = true := by
  intro u h
  simp only [List.mem_cons, List.not_mem_nil, or_false] at h
  rcases h with rfl | rfl <;> rfl

/-- The marks of queries from k on. -/
def seqQy (k : Int) : Nat → List (Int × Int)
  | 0 => []
  | n + 1 => (k, k + 1) :: seqQy (k + 2) n
theorem seqQy_length (k : Int) (n : Nat) : (seqQy k n).length = n := by
  induction n generalizing k with
  | zero => rfl
  | succ n ih => simp [seqQy, ih]
theorem seqQy_at (k : Int) (n i : Nat) (h : i < n) : (seqQy k n)[i]?.getD (0, 0) = (k + 2 * i, k + 2 * i + 1) := by
  induction n generalizing k i with
  | zero => omega
  | succ n ih =>
    cases i with
    | zero => simp [seqQy]
    | succ i =>
      simp only [seqQy, List.getElem?_cons_succ]
      rw [ih (k + 2) i (by omega), show k + 2 + 2 * (i : Int) = k + 2 * ((i + 1 : Nat) : Int) by omega]
theorem seqQy_snoc (k : Int) (n : Nat) : seqQy k (n + 1) = seqQy k n ++ [(k + 2 * n, k + 2 * n + 1)] := by
  induction n generalizing k with
  | zero => simp [seqQy]
  | succ n ih =>
    rw [seqQy, ih (k + 2), seqQy, List.cons_append, show k + 2 + 2 * (n : Int) = k + 2 * ((n + 1 : Nat) : Int) by omega]
def markedQy (k : Int) (l : List (Int × Int)) (i : Nat) : List (Int × Int) := seqQy k i ++ l.drop i
theorem markedQy_zero (k : Int) (l : List (Int × Int)) : markedQy k l 0 = l := by simp [markedQy, seqQy]
theorem markedQy_all (k : Int) (l : List (Int × Int)) : markedQy k l l.length = seqQy k l.length := by simp [markedQy]
theorem qryRow_append (a b : List (Int × Int)) : qryRow (a ++ b) = qryRow a ++ qryRow b := by simp [qryRow]
theorem markedQy_set (k : Int) (l : List (Int × Int)) (i : Nat) (h : i < l.length) : ((qryRow (markedQy k l i)).set (i * 2) (.int .i64 (k + 2 * i))).set (i * 2 + 1) (.int .i64 (k + 2 * i + 1)) = qryRow (markedQy k l (i + 1)) := by
  obtain ⟨o, t, ht, hd⟩ : ∃ o t, l.drop i = o :: t ∧ l.drop (i + 1) = t := ⟨_, _, List.drop_eq_getElem_cons h, rfl⟩
  unfold markedQy
  rw [ht, hd, seqQy_snoc, List.append_assoc, qryRow_append, qryRow_append]
  rw [List.set_append_right _ _ (by rw [qryRow_length, seqQy_length]; omega), List.set_append_right _ _ (by rw [qryRow_length, seqQy_length]; omega)]
  rw [qryRow_length, seqQy_length, Nat.sub_self, show i * 2 + 1 - i * 2 = 1 by omega]
  simp [qryRow, qryCells]
end Go.Proofs.Ytofpnmjadflebaa
