/-
  The reader from which the laws draw: a slice of bytes and a position in a block of the call's own; what pick answers.
-/
import Derived.Test.YtohllpdmopofoaaGreatRow
import Derived.Deep.RegionHeld3
namespace Go.Proofs.YtohllpdmopofoaaGreat
set_option linter.unusedSimpArgs false
set_option linter.unusedVariables false
open Go.RowKit

/-- A reader in block c: its bytes lie below block B, which is not above c. -/
def Rd (w : World) (B c : Nat) (p : Int) : Prop :=
  B ≤ c ∧ c < w.heap.size ∧ 0 ≤ p ∧ ∃ (a : Option Addr) (n cap : Nat) (l : List Int),
    w.heap[c]? = some (.cells #[.slice a n cap, .int .i64 p] 101 (0, 0)) ∧ n ≤ 2000 ∧
    (n = 0 ∨ ∃ b off, a = some ⟨b, off, none⟩ ∧ b < B ∧ ∀ i, i < n → w.cell? ⟨b, off + i, none⟩ = some (.int .u8 (l[i]?.getD 0)) ∧ 0 ≤ l[i]?.getD 0 ∧ l[i]?.getD 0 ≤ 255)

/-- The reader stays where another block, or none, is written. -/
theorem Rd.kept {w w' : World} {B c : Nat} {p : Int} (h : Rd w B c p) (hg : w.grownBy w' none) : Rd w' B c p := by
  obtain ⟨h1, h2, h3, a, n, cap, l, h4, h5, h6⟩ := h
  refine ⟨h1, Nat.lt_of_lt_of_le h2 hg.size, h3, a, n, cap, l, (hg.block c h2 (by simp)).trans h4, h5, ?_⟩
  rcases h6 with h6 | ⟨b, off, ha, hb, hc⟩
  · exact .inl h6
  · exact .inr ⟨b, off, ha, hb, fun i hi => ⟨(World.cell?_of_block (hg.block b (by omega) (by simp))).trans (hc i hi).1, (hc i hi).2⟩⟩

def Picked (n : Int) (B c : Nat) (p : Int) (w : World) (e : Ending) (w' : World) : Prop :=
  ∃ v : Int, e = .returned (.int .i64 v) ∧ 0 ≤ v ∧ (1 ≤ n → v < n) ∧ (n < 1 → v = 0) ∧ Rd w' B c (p + 1) ∧ w.grownBy w' (some c)

theorem Rd.stepped {w : World} {B c : Nat} {p : Int} (h : Rd w B c p) : Rd (w.setCell ⟨c, 1, none⟩ (.int .i64 (p + 1))) B c (p + 1) ∧ w.grownBy (w.setCell ⟨c, 1, none⟩ (.int .i64 (p + 1))) (some c) := by
  obtain ⟨h1, h2, h3, a, n, cap, l, h4, h5, h6⟩ := h
  refine ⟨⟨h1, by simpa [World.setCell] using h2, by omega, a, n, cap, l, ?_, h5, ?_⟩, ⟨rfl, rfl, rfl, by simp [World.setCell], fun k hk hne => Below.heap_setCell _ _ _ _ (fun e => hne (by rw [e]))⟩⟩
  · simp [World.setCell, Array.getElem?_modify, h4]
  · rcases h6 with h6 | ⟨b, off, ha, hb, hc⟩
    · exact .inl h6
    · refine .inr ⟨b, off, ha, hb, fun i hi => ⟨(World.cell?_of_block ?_).trans (hc i hi).1, (hc i hi).2⟩⟩
      exact Below.heap_setCell _ _ _ _ (by show b ≠ c; omega)

end Go.Proofs.YtohllpdmopofoaaGreat
