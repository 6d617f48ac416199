/-
  Rows of changes: a slice of pairs of a bool and a number; rows of the call's own; comparison, marks.
-/
import Derived.Test.YtccimldchfekeaaEx
import Derived.Deep.RegionHeld3
namespace Go.Proofs.Ytccimldchfekeaa
set_option linter.unusedSimpArgs false
set_option linter.unusedVariables false
open Go.RowKit

def opCells (o : Bool × Int) : List Value := [.bool o.1, .int .i64 o.2]
def opRow (l : List (Bool × Int)) : List Value := l.flatMap opCells
theorem opRow_nil : opRow [] = [] := rfl
theorem opRow_snoc (l : List (Bool × Int)) (o : Bool × Int) : opRow (l ++ [o]) = opRow l ++ [.bool o.1, .int .i64 o.2] := by simp [opRow, opCells]
theorem opRow_length (l : List (Bool × Int)) : (opRow l).length = l.length * 2 := by
  induction l with
  | nil => rfl
  | cons o l ih => simp only [opRow, List.flatMap_cons, List.length_append] at ih ⊢; simp [opCells, ih]; omega
theorem opRow_at (l : List (Bool × Int)) : ∀ i, i < l.length → (opRow l)[i * 2]? = some (.bool (l[i]?.getD (false, 0)).1) ∧ (opRow l)[i * 2 + 1]? = some (.int .i64 (l[i]?.getD (false, 0)).2) := by
  induction l with
  | nil => intro i h; simp at h
  | cons o l ih =>
    intro i h
    cases i with
    | zero => simp [opRow, opCells]
    | succ i =>
      have := ih i (by simpa using h)
      rw [show (i + 1) * 2 = i * 2 + 2 by omega, show i * 2 + 2 + 1 = (i * 2 + 1) + 2 by omega]
      simpa [opRow, opCells] using this

/-- The slice with this address, length and capacity reads as the list l of changes. -/
def Ops (w : World) (a : Option Addr) (n cap : Nat) (l : List (Bool × Int)) : Prop :=
  l.length = n ∧ n ≤ cap ∧ cap ≤ maxLen ∧
  (n = 0 ∨ ∃ b off, a = some ⟨b, off, none⟩ ∧ b < w.heap.size ∧ ∀ i, i < n → w.cell? ⟨b, off + i * 2, none⟩ = some (.bool (l[i]?.getD (false, 0)).1) ∧ w.cell? ⟨b, off + i * 2 + 1, none⟩ = some (.int .i64 (l[i]?.getD (false, 0)).2))
theorem Ops.below {w w' : World} {a : Option Addr} {n cap : Nat} {l : List (Bool × Int)} (h : Ops w a n cap l) (hb : Below w.heap.size w w') : Ops w' a n cap l := by
  obtain ⟨h1, h2, h3, h4⟩ := h
  refine ⟨h1, h2, h3, ?_⟩
  rcases h4 with h4 | ⟨b, off, ha, hlt, hc⟩
  · exact .inl h4
  · exact .inr ⟨b, off, ha, Nat.lt_of_lt_of_le hlt hb.size, fun i hi => ⟨(hb.cell (p := ⟨b, off + i * 2, none⟩) hlt).trans (hc i hi).1, (hb.cell (p := ⟨b, off + i * 2 + 1, none⟩) hlt).trans (hc i hi).2⟩⟩

theorem below_callD {w wr w2 : World} (h : Below w.heap.size w wr) (hb : Below wr.drew.heap.size wr.drew w2) : Below w.heap.size w w2 :=
  h.drew.trans (hb.mono h.size)
/-- A row of changes whose block, if it has one, is not below lo and below hi. -/
def OwnO (w : World) (lo hi : Nat) (v : Value) (n : Nat) (l : List (Bool × Int)) : Prop :=
  w.ownsRow lo 31 2 v n (opRow l) ∧ lo ≤ hi ∧ hi ≤ w.heap.size ∧ (∀ g, v.ownBlock = some g → g < hi)
theorem OwnO.kept {w w' : World} {lo hi n : Nat} {v : Value} {l : List (Bool × Int)} {row : Option Nat} (h : OwnO w lo hi v n l) (hg : w.grownBy w' row) (hr : ∀ j, row = some j → j < lo ∨ hi ≤ j) : OwnO w' lo hi v n l := by
  obtain ⟨h1, h2, h3, h4⟩ := h
  refine ⟨h1.kept hg ?_, h2, Nat.le_trans h3 hg.size, h4⟩
  cases hv : v.ownBlock with
  | none => exact .inl rfl
  | some g =>
    refine .inr (fun e => ?_)
    have := (h1.lt g hv).1
    have := h4 g hv
    have := hr g e.symm
    omega
theorem OwnO.below {w w' : World} {lo hi n : Nat} {v : Value} {l : List (Bool × Int)} (h : OwnO w lo hi v n l) (hb : Below w.heap.size w w') : OwnO w' lo hi v n l :=
  h.kept (row := none) (Below.grownNone hb _) (fun j e => by cases e)
theorem OwnO.len {w : World} {lo hi n : Nat} {v : Value} {l : List (Bool × Int)} (h : OwnO w lo hi v n l) : l.length = n := by
  have := h.1.1
  rw [opRow_length] at this
  omega
theorem OwnO.ops {w : World} {lo hi n : Nat} {v : Value} {l : List (Bool × Int)} (h : OwnO w lo hi v n l) : ∃ a cap, v = .slice a n cap ∧ Ops w a n cap l := by
  have hl := h.len
  rcases h.1.2 with ⟨rfl, rfl⟩ | ⟨g, cap, cur, rfl, -, hg, h1, h2, h3, h4⟩
  · exact ⟨none, 0, rfl, hl, Nat.le_refl _, by simp [maxLen], .inl rfl⟩
  · refine ⟨_, cap, rfl, hl, h1, h2, .inr ⟨g, 0, rfl, (Array.getElem?_eq_some_iff.1 hg).1, fun i hi => ?_⟩⟩
    have hcell : ∀ j, j < n * 2 → w.cell? ⟨g, j, none⟩ = (opRow l)[j]? := by
      intro j hj
      have : cur[j]? = (opRow l)[j]? := by
        rw [← h4, List.getElem?_take, if_pos hj, Array.getElem?_toList]
      simp [World.cell?, hg, this]
    have := opRow_at l i (by omega)
    rw [Nat.zero_add, hcell _ (by omega), hcell _ (by omega)]
    exact this
theorem OwnO.made {w w' : World} {n : Nat} {v : Value} {l : List (Bool × Int)} (h : w'.ownsRow w.heap.size 31 2 v n (opRow l)) (hs : w.heap.size ≤ w'.heap.size) : OwnO w' w.heap.size w'.heap.size v n l :=
  ⟨h, hs, Nat.le_refl _, fun g hg => (h.lt g hg).2⟩
theorem infoOp : (Try.prog.info? 31).map (fun i => (i.zero, i.size, i.bytes)) = some (some (.agg #[.bool false, .int .i64 0]), 2, 16) := by kernel_rfl
theorem cell_two_new (w : World) (p : Bool) (x : Int) (T : TypeId) : ∀ j u, [Value.bool p, Value.int .i64 x][j]? = some u → (w.alloc (.cells #[.bool p, .int .i64 x] T)).cell? ((⟨w.heap.size, 0, none⟩ : Addr).add j) = some u := by
  intro j u h
  match j, h with
  | 0, h => simp at h; subst h; simp [Addr.add, World.cell?_alloc_new]
  | 1, h => simp at h; subst h; simp [Addr.add, World.cell?_alloc_new]
  | j + 2, h => simp at h
theorem two_oneCell (p : Bool) (x : Int) : ∀ u ∈ [Value.bool p, Value.int .i64 x], u.oneCell' = true := by
  intro u h
  simp only [List.mem_cons, List.not_mem_nil, or_false] at h
  rcases h with rfl | rfl <;> rfl

end Go.Proofs.Ytccimldchfekeaa
