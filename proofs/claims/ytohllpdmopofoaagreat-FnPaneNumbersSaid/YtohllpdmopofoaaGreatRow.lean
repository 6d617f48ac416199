/-
  Slices of numbers: a slice value that reads as a list; it stays so where memory only grows; what was handed in is such a slice.
-/
import Derived.Test.YtohllpdmopofoaaGreatA
import Derived.OpenShut
namespace Go.Proofs.YtohllpdmopofoaaGreat
open Go.RowKit
set_option linter.unusedSimpArgs false

/-- A slice of integers of a kind as it came in: nil, or a row of cells. -/
def IsRow (k : IntKind) (w : World) (a : Option Addr) (len cap : Nat) (zs : List Int) : Prop :=
  (a = none ∧ len = 0 ∧ cap = 0 ∧ zs = []) ∨
  ∃ x, a = some x ∧ len ≤ cap ∧ cap ≤ maxLen ∧ zs.length = cap ∧ (∀ i, i < zs.length → w.cell? (x.add i) = some (.int k (zs.getD i 0))) ∧ ∀ n ∈ zs, (Lit.int k n).wf = true

/-- The slice with this address, length and capacity reads as the list l. -/
def Nums (k : IntKind) (w : World) (a : Option Addr) (n cap : Nat) (l : List Int) : Prop :=
  l.length = n ∧ n ≤ cap ∧ cap ≤ maxLen ∧
  (n = 0 ∨ ∃ b off, a = some ⟨b, off, none⟩ ∧ b < w.heap.size ∧ ∀ i, i < n → w.cell? ⟨b, off + i, none⟩ = some (.int k (l[i]?.getD 0)))

theorem Nums.below {k : IntKind} {w w' : World} {a : Option Addr} {n cap : Nat} {l : List Int} (h : Nums k w a n cap l) (hb : Below w.heap.size w w') : Nums k w' a n cap l := by
  obtain ⟨h1, h2, h3, h4⟩ := h
  refine ⟨h1, h2, h3, ?_⟩
  rcases h4 with h4 | ⟨b, off, ha, hlt, hc⟩
  · exact .inl h4
  · exact .inr ⟨b, off, ha, Nat.lt_of_lt_of_le hlt hb.size, fun i hi => (hb.cell (p := ⟨b, off + i, none⟩) hlt).trans (hc i hi)⟩

theorem Nums.of_row {k : IntKind} {w : World} {a : Option Addr} {len cap : Nat} {zs : List Int} (h : IsRow k w a len cap zs) : Nums k w a len cap (zs.take len) := by
  rcases h with ⟨rfl, rfl, rfl, rfl⟩ | ⟨x, rfl, hl, hm, hz, hcell, _⟩
  · exact ⟨rfl, Nat.le_refl _, by simp [maxLen], .inl rfl⟩
  · refine ⟨by simp; omega, hl, hm, ?_⟩
    by_cases h0 : len = 0
    · exact .inl h0
    · have hc := hcell 0 (by omega)
      obtain ⟨b, off, spot⟩ := x
      have hspot : spot = none := by simpa [Addr.add] using World.cell?_spot hc
      subst hspot
      refine .inr ⟨b, off, rfl, World.block_lt_of_cell? w _ hc, fun i hi => ?_⟩
      have hi2 := hcell i (by omega)
      have ea : (⟨b, off, none⟩ : Addr).add i = ⟨b, off + i, none⟩ := by
        by_cases hi0 : i = 0
        · subst hi0; simp [Addr.add]
        · simp [Addr.add, hi0]
      rw [ea] at hi2
      rw [hi2, List.getD_eq_getElem?_getD]
      simp [List.getElem?_take, hi]

theorem Nums.row_wf {k : IntKind} {w : World} {a : Option Addr} {len cap : Nat} {zs : List Int} (h : IsRow k w a len cap zs) : ∀ n ∈ zs.take len, (Lit.int k n).wf = true := by
  rcases h with ⟨rfl, rfl, rfl, rfl⟩ | ⟨x, rfl, _, _, _, _, hw⟩
  · simp
  · exact fun n hn => hw n (List.mem_of_mem_take hn)

/-- A variable of three numbers: its block. -/
def Box (w : World) (c : Nat) (T : TypeId) (x y z : Int) : Prop := w.heap[c]? = some (.cells #[.int .i64 x, .int .i64 y, .int .i64 z] T (0, 0))

theorem Box.new (w : World) (T : TypeId) (x y z : Int) : Box (w.alloc (.cells #[.int .i64 x, .int .i64 y, .int .i64 z] T)) w.heap.size T x y z := heap_alloc_new w _
theorem Box.lt {w : World} {c : Nat} {T : TypeId} {x y z : Int} (h : Box w c T x y z) : c < w.heap.size := (Array.getElem?_eq_some_iff.1 h).1
theorem Box.below {w w' : World} {B c : Nat} {T : TypeId} {x y z : Int} (h : Box w c T x y z) (hb : Below B w w') (hc : c < B) : Box w' c T x y z := (hb.block c hc).trans h
theorem Box.cells {w : World} {c : Nat} {T : TypeId} {x y z : Int} (h : Box w c T x y z) :
    w.cell? ⟨c, 0, none⟩ = some (.int .i64 x) ∧ w.cell? ⟨c, 1, none⟩ = some (.int .i64 y) ∧ w.cell? ⟨c, 2, none⟩ = some (.int .i64 z) := by
  unfold Box at h
  refine ⟨?_, ?_, ?_⟩ <;> simp [World.cell?, h]
theorem Box.free {w : World} {c : Nat} {T : TypeId} {x y z : Int} (h : Box w c T x y z) (o : Nat) : w.frozen? ⟨c, o, none⟩ = false := by
  unfold Box at h
  simp [World.frozen?, h]
theorem Box.set {w : World} {c : Nat} {T : TypeId} {x y z : Int} (h : Box w c T x y z) (x' y' z' : Int) :
    Box (((w.setCell ⟨c, 0, none⟩ (.int .i64 x')).setCell ⟨c, 1, none⟩ (.int .i64 y')).setCell ⟨c, 2, none⟩ (.int .i64 z')) c T x' y' z' := by
  unfold Box at *
  simp [World.setCell, Array.getElem?_modify, h]
theorem Box.set_other {w : World} {c d : Nat} {T : TypeId} {x y z : Int} (h : Box w d T x y z) (hd : d ≠ c) (o : Nat) (v : Value) :
    Box (w.setCell ⟨c, o, none⟩ v) d T x y z := by
  unfold Box at *
  rw [Below.heap_setCell _ _ _ _ (by simpa using hd)]
  exact h

/-- Two variables, and what was there before the call, over a call that makes memory alone. -/
theorem carry {w wr w2 : World} {c : Nat} {T S : TypeId} {x y z x' y' z' : Int} (HB : Box wr c T x y z) (HR : Box wr w.heap.size S x' y' z') (HW : Below w.heap.size w wr) (_hwc : w.heap.size < c) (hb : Below wr.heap.size wr w2) :
    Box w2 c T x y z ∧ Box w2 w.heap.size S x' y' z' ∧ Below w.heap.size w w2 :=
  ⟨HB.below hb HB.lt, HR.below hb HR.lt, HW.trans (hb.mono (Nat.le_of_lt HR.lt))⟩
theorem carryD {w wr w2 : World} {c : Nat} {T S : TypeId} {x y z x' y' z' : Int} (HB : Box wr c T x y z) (HR : Box wr w.heap.size S x' y' z') (HW : Below w.heap.size w wr) (hwc : w.heap.size < c) (hb : Below wr.drew.heap.size wr.drew w2) :
    Box w2 c T x y z ∧ Box w2 w.heap.size S x' y' z' ∧ Below w.heap.size w w2 :=
  carry (wr := wr.drew) HB HR HW.drew hwc hb

end Go.Proofs.YtohllpdmopofoaaGreat
