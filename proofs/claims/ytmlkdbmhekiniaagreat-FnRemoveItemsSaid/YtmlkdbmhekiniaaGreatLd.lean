/-
  Laws of chapter 1 about a list and its parts, walked: FnCombineValues.
-/
import Derived.Test.YtmlkdbmhekiniaaGreatDw
import Derived.Test.YtmlkdbmhekiniaaGreatM
import Derived.Test.YtmlkdbmhekiniaaGreatN
namespace Go.Proofs.YtmlkdbmhekiniaaGreat
set_option linter.unusedSimpArgs false
set_option linter.unusedVariables false
open Go.RowKit
theorem Nums.take {k : IntKind} {w : World} {b off n cap : Nat} {l : List Int} (h : Nums k w (some ⟨b, off, none⟩) n cap l) {i : Nat} (hi : i ≤ n) : Nums k w (some ⟨b, off, none⟩) i cap (l.take i) := by
  obtain ⟨h1, h2, h3, h4⟩ := h
  refine ⟨by simp; omega, by omega, h3, ?_⟩
  rcases h4 with h4 | ⟨b', off', ha, hb, hc⟩
  · exact .inl (by omega)
  · refine .inr ⟨b', off', ha, hb, fun j hj => ?_⟩
    rw [hc j (by omega), List.getElem?_take, if_pos hj]
theorem Nums.drop {k : IntKind} {w : World} {b off n cap : Nat} {l : List Int} (h : Nums k w (some ⟨b, off, none⟩) n cap l) {i : Nat} (hi : i ≤ n) : Nums k w (some ⟨b, off + i, none⟩) (n - i) (cap - i) (l.drop i) := by
  obtain ⟨h1, h2, h3, h4⟩ := h
  refine ⟨by simp; omega, by omega, by omega, ?_⟩
  rcases h4 with h4 | ⟨b', off', ha, hb, hc⟩
  · exact .inl (by omega)
  · simp only [Option.some.injEq, Addr.mk.injEq, and_true] at ha
    obtain ⟨rfl, rfl⟩ := ha
    refine .inr ⟨b, off + i, rfl, hb, fun j hj => ?_⟩
    rw [Nat.add_assoc, hc (i + j) (by omega), List.getElem?_drop]
theorem Nums.nil {k : IntKind} {w : World} {a : Option Addr} {n cap : Nat} {l : List Int} (hl : l.length = n) (hn : n = 0) (hc : cap ≤ maxLen) : Nums k w a n cap l := ⟨hl, by omega, hc, .inl hn⟩
end Go.Proofs.YtmlkdbmhekiniaaGreat
