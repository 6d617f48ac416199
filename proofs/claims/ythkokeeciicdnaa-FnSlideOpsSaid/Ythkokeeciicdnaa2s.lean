/-
  SlideNumbers, in the program and in the model: a row of its own with the numbers of all rows of a size.
-/
import Derived.Test.Ythkokeeciicdnaa2n
import Derived.Deep.RegionHeld3
namespace Go.Proofs.Ythkokeeciicdnaa
set_option linter.unusedSimpArgs false
set_option linter.unusedVariables false
open Go.RowKit
theorem Nums.part {k : IntKind} {w : World} {b off n cap : Nat} {l : List Int} (h : Nums k w (some ⟨b, off, none⟩) n cap l) {i s : Nat} (hi : i + s ≤ n) : Nums k w (some ⟨b, off + i, none⟩) s (cap - i) ((l.drop i).take s) := by
  obtain ⟨h1, h2, h3, h4⟩ := h
  refine ⟨by simp; omega, by omega, by omega, ?_⟩
  rcases h4 with h4 | ⟨b', off', ha, hb, hc⟩
  · exact .inl (by omega)
  · simp only [Option.some.injEq, Addr.mk.injEq, and_true] at ha
    obtain ⟨rfl, rfl⟩ := ha
    refine .inr ⟨b, off + i, rfl, hb, fun j hj => ?_⟩
    rw [Nat.add_assoc, hc (i + j) (by omega), List.getElem?_take, if_pos hj, List.getElem?_drop]
/-- Whether SlideNumbers has numbers. -/
def Agg.slideOk (k : Int) (l : List Int) (s : Int) : Bool := Agg.isKind k && Agg.itemsOk l && decide (1 ≤ s ∧ s ≤ 60)
def Agg.slideOut (k : Int) (l : List Int) (s : Int) : List Int := if Agg.slideOk k l s then Agg.slides k l s.toNat else []
/-- A row of numbers of the call's own, and whether there is one. -/
def RowOut (l : List Int) (b : Bool) (w : World) (e : Ending) (w' : World) : Prop :=
  ∃ (v : Value) (n : Nat), e = .returned (.tuple #[v, .bool b]) ∧ OwnR w' w.heap.size w'.heap.size v n l ∧ Below w.heap.size w w'
theorem RowOut.none_ {w w' : World} (h : Below w.heap.size w w') : RowOut [] false w (.returned (.tuple #[.slice none 0 0, .bool false])) w' :=
  ⟨_, 0, rfl, OwnR.made (World.ownsRow_nil _ _ _ _) h.size, h⟩
theorem part_ok {l : List Int} (h : Agg.itemsOk l = true) (i s : Nat) : Agg.itemsOk ((l.drop i).take s) = true := Agg.items_take (Agg.items_drop h i) s
end Go.Proofs.Ythkokeeciicdnaa
