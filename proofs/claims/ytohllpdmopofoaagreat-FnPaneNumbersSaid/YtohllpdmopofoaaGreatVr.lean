/-
  Rows of aggregates: a slice of triples of numbers; rows of the call's own; comparison, marks, copies.
-/
import Derived.Test.YtohllpdmopofoaaGreatEx
import Derived.Deep.RegionHeld3
import Derived.OwnWalk
namespace Go.Proofs.YtohllpdmopofoaaGreat
set_option linter.unusedSimpArgs false
set_option linter.unusedVariables false
open Go.RowKit

def valCells (v : Agg.V) : List Value := [.int .i64 v.x, .int .i64 v.y, .int .i64 v.z]
def valRow (l : List Agg.V) : List Value := l.flatMap valCells
theorem valRow_nil : valRow [] = [] := rfl
theorem valRow_append (a b : List Agg.V) : valRow (a ++ b) = valRow a ++ valRow b := by simp [valRow]
theorem valRow_snoc (l : List Agg.V) (v : Agg.V) : valRow (l ++ [v]) = valRow l ++ [.int .i64 v.x, .int .i64 v.y, .int .i64 v.z] := by simp [valRow, valCells]
theorem valRow_length (l : List Agg.V) : (valRow l).length = l.length * 3 := by
  induction l with
  | nil => rfl
  | cons o l ih => simp only [valRow, List.flatMap_cons, List.length_append] at ih ⊢; simp [valCells, ih]; omega
theorem valRow_at (l : List Agg.V) : ∀ i, i < l.length → (valRow l)[i * 3]? = some (.int .i64 (l[i]?.getD Agg.zero).x) ∧ (valRow l)[i * 3 + 1]? = some (.int .i64 (l[i]?.getD Agg.zero).y) ∧ (valRow l)[i * 3 + 2]? = some (.int .i64 (l[i]?.getD Agg.zero).z) := by
  induction l with
  | nil => intro i h; simp at h
  | cons o l ih =>
    intro i h
    cases i with
    | zero => simp [valRow, valCells]
    | succ i =>
      have := ih i (by simpa using h)
      rw [show (i + 1) * 3 = i * 3 + 3 by omega, show i * 3 + 3 + 1 = (i * 3 + 1) + 3 by omega, show i * 3 + 3 + 2 = (i * 3 + 2) + 3 by omega]
      simpa [valRow, valCells] using this

/-- The slice with this address, length and capacity reads as the list l of aggregates. -/
def Vals (w : World) (a : Option Addr) (n cap : Nat) (l : List Agg.V) : Prop :=
  l.length = n ∧ n ≤ cap ∧ cap ≤ maxLen ∧
  (n = 0 ∨ ∃ b off, a = some ⟨b, off, none⟩ ∧ b < w.heap.size ∧ ∀ i, i < n → w.cell? ⟨b, off + i * 3, none⟩ = some (.int .i64 (l[i]?.getD Agg.zero).x) ∧ w.cell? ⟨b, off + i * 3 + 1, none⟩ = some (.int .i64 (l[i]?.getD Agg.zero).y) ∧ w.cell? ⟨b, off + i * 3 + 2, none⟩ = some (.int .i64 (l[i]?.getD Agg.zero).z))
theorem Vals.below {w w' : World} {a : Option Addr} {n cap : Nat} {l : List Agg.V} (h : Vals w a n cap l) (hb : Below w.heap.size w w') : Vals w' a n cap l := by
  obtain ⟨h1, h2, h3, h4⟩ := h
  refine ⟨h1, h2, h3, ?_⟩
  rcases h4 with h4 | ⟨b, off, ha, hlt, hc⟩
  · exact .inl h4
  · exact .inr ⟨b, off, ha, Nat.lt_of_lt_of_le hlt hb.size, fun i hi => ⟨(hb.cell (p := ⟨b, off + i * 3, none⟩) hlt).trans (hc i hi).1, (hb.cell (p := ⟨b, off + i * 3 + 1, none⟩) hlt).trans (hc i hi).2.1, (hb.cell (p := ⟨b, off + i * 3 + 2, none⟩) hlt).trans (hc i hi).2.2⟩⟩

theorem v_below_callD {w wr w2 : World} (h : Below w.heap.size w wr) (hb : Below wr.drew.heap.size wr.drew w2) : Below w.heap.size w w2 :=
  h.drew.trans (hb.mono h.size)
/-- A row of aggregates whose block, if it has one, is not below lo and below hi. -/
def OwnV (w : World) (lo hi : Nat) (v : Value) (n : Nat) (l : List Agg.V) : Prop :=
  w.ownsRow lo 40 3 v n (valRow l) ∧ lo ≤ hi ∧ hi ≤ w.heap.size ∧ (∀ g, v.ownBlock = some g → g < hi)
theorem OwnV.kept {w w' : World} {lo hi n : Nat} {v : Value} {l : List Agg.V} {row : Option Nat} (h : OwnV w lo hi v n l) (hg : w.grownBy w' row) (hr : ∀ j, row = some j → j < lo ∨ hi ≤ j) : OwnV w' lo hi v n l := by
  obtain ⟨h1, h2, h3, h4⟩ := h
  refine ⟨h1.kept hg ?_, h2, Nat.le_trans h3 hg.size, h4⟩
  cases hv : v.ownBlock with
  | none => exact .inl rfl
  | some g =>
    refine .inr (fun e => ?_)
    have := (h1.lt g hv).1
    have := h4 g hv
    have := hr g e.symm
    omega
theorem OwnV.below {w w' : World} {lo hi n : Nat} {v : Value} {l : List Agg.V} (h : OwnV w lo hi v n l) (hb : Below w.heap.size w w') : OwnV w' lo hi v n l :=
  h.kept (row := none) (Below.grownNone hb _) (fun j e => by cases e)
theorem OwnV.len {w : World} {lo hi n : Nat} {v : Value} {l : List Agg.V} (h : OwnV w lo hi v n l) : l.length = n := by
  have := h.1.1
  rw [valRow_length] at this
  omega
theorem OwnV.vals {w : World} {lo hi n : Nat} {v : Value} {l : List Agg.V} (h : OwnV w lo hi v n l) : ∃ a cap, v = .slice a n cap ∧ Vals w a n cap l := by
  have hl := h.len
  rcases h.1.2 with ⟨rfl, rfl⟩ | ⟨g, cap, cur, rfl, -, hg, h1, h2, h3, h4⟩
  · exact ⟨none, 0, rfl, hl, Nat.le_refl _, by simp [maxLen], .inl rfl⟩
  · refine ⟨_, cap, rfl, hl, h1, h2, .inr ⟨g, 0, rfl, (Array.getElem?_eq_some_iff.1 hg).1, fun i hi => ?_⟩⟩
    have hcell : ∀ j, j < n * 3 → w.cell? ⟨g, j, none⟩ = (valRow l)[j]? := by
      intro j hj
      have : cur[j]? = (valRow l)[j]? := by
        rw [← h4, List.getElem?_take, if_pos hj, Array.getElem?_toList]
      simp [World.cell?, hg, this]
    have := valRow_at l i (by omega)
    rw [Nat.zero_add, hcell _ (by omega), hcell _ (by omega), hcell _ (by omega)]
    exact this
theorem OwnV.made {w w' : World} {n : Nat} {v : Value} {l : List Agg.V} (h : w'.ownsRow w.heap.size 40 3 v n (valRow l)) (hs : w.heap.size ≤ w'.heap.size) : OwnV w' w.heap.size w'.heap.size v n l :=
  ⟨h, hs, Nat.le_refl _, fun g hg => (h.lt g hg).2⟩
theorem infoVal : (Tryz.prog.info? 40).map (fun i => (i.zero, i.size, i.bytes)) = some (some (.agg #[.int .i64 0, .int .i64 0, .int .i64 0]), 3, 24) := by kernel_rfl
theorem cell_three_new (w : World) (x y z : Int) (T : TypeId) : ∀ j u, [Value.int .i64 x, Value.int .i64 y, Value.int .i64 z][j]? = some u → (w.alloc (.cells #[.int .i64 x, .int .i64 y, .int .i64 z] T)).cell? ((⟨w.heap.size, 0, none⟩ : Addr).add j) = some u := by
  intro j u h
  match j, h with
  | 0, h => simp at h; subst h; simp [Addr.add, World.cell?_alloc_new]
  | 1, h => simp at h; subst h; simp [Addr.add, World.cell?_alloc_new]
  | 2, h => simp at h; subst h; simp [Addr.add, World.cell?_alloc_new]
  | j + 3, h => simp at h
theorem three_oneCell (x y z : Int) : ∀ u ∈ [Value.int .i64 x, Value.int .i64 y, Value.int .i64 z], u.oneCell' = true := by
  intro u h
  simp only [List.mem_cons, List.not_mem_nil, or_false] at h
  rcases h with rfl | rfl | rfl <;> rfl

end Go.Proofs.YtohllpdmopofoaaGreat
