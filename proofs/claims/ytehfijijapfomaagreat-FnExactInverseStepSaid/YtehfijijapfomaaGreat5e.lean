/-
  Rows of a list, one some elements behind the other: collected, and their numbers.
-/
import Derived.Test.YtehfijijapfomaaGreat2n
import Derived.Deep.RegionHeld3
namespace Go.Proofs.YtehfijijapfomaaGreat
set_option linter.unusedSimpArgs false
set_option linter.unusedVariables false
open Go.RowKit
theorem Nums.part {k : IntKind} {w : World} {b off n cap : Nat} {l : List Int} (h : Nums k w (some ⟨b, off, none⟩) n cap l) {i s : Nat} (hi : i + s ≤ n) : Nums k w (some ⟨b, off + i, none⟩) s (cap - i) ((l.drop i).take s) := by
  obtain ⟨h1, h2, h3, h4⟩ := h
  refine ⟨by simp; omega, by omega, by omega, ?_⟩
  rcases h4 with h4 | ⟨b', off', ha, hb, hc⟩
  · exact .inl (by omega)
  · simp only [Option.some.injEq, Addr.mk.injEq, and_true] at ha
    obtain ⟨rfl, rfl⟩ := ha
    refine .inr ⟨b, off + i, rfl, hb, fun j hj => ?_⟩
    rw [Nat.add_assoc, hc (i + j) (by omega), List.getElem?_take, if_pos hj, List.getElem?_drop]
theorem part_ok {l : List Int} (h : Agg.itemsOk l = true) (i s : Nat) : Agg.itemsOk ((l.drop i).take s) = true := Agg.items_take (Agg.items_drop h i) s
/-- A row of numbers of the call's own, and whether there is one. -/
def RowOut (l : List Int) (b : Bool) (w : World) (e : Ending) (w' : World) : Prop :=
  ∃ (v : Value) (n : Nat), e = .returned (.tuple #[v, .bool b]) ∧ OwnR w' w.heap.size w'.heap.size v n l ∧ Below w.heap.size w w'
theorem RowOut.none_ {w w' : World} (h : Below w.heap.size w w') : RowOut [] false w (.returned (.tuple #[.slice none 0 0, .bool false])) w' :=
  ⟨_, 0, rfl, OwnR.made (World.ownsRow_nil _ _ _ _) h.size, h⟩
/-- How many rows of s elements of n there are that begin h elements apart. -/
def Agg.rowsN (n s h : Nat) : Nat := if n < s then 0 else (n - s) / h + 1
theorem Agg.rowsN_lt {n s h j : Nat} (hh : 1 ≤ h) : j < Agg.rowsN n s h ↔ s + j * h ≤ n := by
  unfold Agg.rowsN
  split
  · constructor
    · intro h2; omega
    · intro h2; have := Nat.zero_le (j * h); omega
  · have := Nat.le_div_iff_mul_le (x := j) (y := n - s) (k := h) (by omega)
    constructor
    · intro h2; have := this.1 (by omega); omega
    · intro h2; have := this.2 (by omega); omega
theorem Agg.rowsN_le {n s h : Nat} (hs : 1 ≤ s) : Agg.rowsN n s h ≤ n := by
  unfold Agg.rowsN
  split
  · omega
  · have := Nat.div_le_self (n - s) h; omega
theorem Agg.rowsN_one {n s : Nat} (hs : 1 ≤ s) : Agg.rowsN n s 1 = n + 1 - s := by
  unfold Agg.rowsN
  split <;> (try rw [Nat.div_one]) <;> omega
/-- The numbers of n rows. -/
def Agg.nums (k : Int) (f : Nat → List Int) (n : Nat) : List Int := (List.range n).map fun i => Agg.number k (f i)
theorem Agg.nums_len (k : Int) (f : Nat → List Int) (n : Nat) : (Agg.nums k f n).length = n := by simp [Agg.nums]
theorem Agg.nums_step (k : Int) (f : Nat → List Int) (n j : Nat) (h : j < n) : (Agg.nums k f n).take (j + 1) = (Agg.nums k f n).take j ++ [Agg.number k (f j)] := by
  rw [List.take_succ_eq_append_getElem (by rw [Agg.nums_len]; exact h)]
  simp [Agg.nums]
/-- The numbers of the rows of s items that begin h items apart. -/
def Agg.hops (k : Int) (l : List Int) (s h : Nat) : List Int := Agg.nums k (fun j => (l.drop (j * h)).take s) (Agg.rowsN l.length s h)
theorem Agg.slides_hops (k : Int) (l : List Int) {s : Nat} (hs : 1 ≤ s) : Agg.slides k l s = Agg.hops k l s 1 := by
  simp [Agg.slides, Agg.hops, Agg.nums, Agg.rowsN_one hs]
/-- A slice of slices of numbers. -/
def Rows2 (w : World) (a : Option Addr) (n cap : Nat) (f : Nat → List Int) : Prop :=
  n ≤ cap ∧ cap ≤ 9223372036854775807 ∧ (n = 0 ∨ ∃ b off, a = some ⟨b, off, none⟩ ∧ b < w.heap.size ∧ ∀ i, i < n → ∃ a' m c, w.cell? ⟨b, off + i, none⟩ = some (.slice a' m c) ∧ Nums .i64 w a' m c (f i))
theorem Rows2.below {w w' : World} {a : Option Addr} {n cap : Nat} {f : Nat → List Int} (h : Rows2 w a n cap f) (hb : Below w.heap.size w w') : Rows2 w' a n cap f := by
  obtain ⟨h1, h2, h3⟩ := h
  refine ⟨h1, h2, ?_⟩
  rcases h3 with h3 | ⟨b, off, ha, hlt, hc⟩
  · exact .inl h3
  · refine .inr ⟨b, off, ha, Nat.lt_of_lt_of_le hlt hb.size, fun i hi => ?_⟩
    obtain ⟨a', m, c, e, hN⟩ := hc i hi
    exact ⟨a', m, c, (hb.cell (p := ⟨b, off + i, none⟩) hlt).trans e, hN.below hb⟩
theorem Rows2.zero (w : World) (a : Option Addr) (cap : Nat) (f : Nat → List Int) (h : cap ≤ 9223372036854775807) : Rows2 w a 0 cap f := ⟨Nat.zero_le _, h, .inl rfl⟩
/-- Slices of numbers in a row of the call's own. -/
def RowsMade (f : Nat → List Int) (n : Nat) (w : World) (e : Ending) (w' : World) : Prop :=
  ∃ (a : Option Addr) (cap : Nat), e = .returned (.slice a n cap) ∧ Rows2 w' a n cap f ∧ Below w.heap.size w w'
theorem infoWin5 : (Tryz.prog.info? 22).map (fun i => (i.zero, i.size, i.bytes)) = some (some (.slice none 0 0), 1, 24) := by kernel_rfl
theorem RowsMade.of {f : Nat → List Int} {n : Nat} {w w' : World} {v : Value} {cs : List Value} (h : w'.ownsRow w.heap.size 22 1 v n cs) (hc : ∀ j, j < n → ∃ a m c, cs[j]? = some (.slice a m c) ∧ Nums .i64 w' a m c (f j)) (hb : Below w.heap.size w w') : RowsMade f n w (.returned v) w' := by
  rcases h.2 with ⟨rfl, rfl⟩ | ⟨g, cap, cur, rfl, hlo, hg, h1, h2, -⟩
  · exact ⟨none, 0, rfl, Rows2.zero _ _ _ _ (by omega), hb⟩
  · refine ⟨_, cap, rfl, ⟨h1, by unfold maxLen at h2; omega, .inr ⟨g, 0, rfl, (Array.getElem?_eq_some_iff.1 hg).1, fun i hi => ?_⟩⟩, hb⟩
    obtain ⟨a, m, c, e, hN⟩ := hc i hi
    exact ⟨a, m, c, by rw [Nat.zero_add]; exact (h.cellAt i (by omega)).trans e, hN⟩
end Go.Proofs.YtehfijijapfomaaGreat
