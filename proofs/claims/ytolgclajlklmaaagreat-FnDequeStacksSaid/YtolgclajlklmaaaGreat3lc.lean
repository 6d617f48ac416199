import Derived.Test.YtolgclajlklmaaaGreat3rd
import Derived.Test.YtolgclajlklmaaaGreatTb
import Derived.Test.YtolgclajlklmaaaGreatDq
import Derived.Deep.Cut
namespace Go.Proofs.YtolgclajlklmaaaGreat
set_option linter.unusedSimpArgs false
set_option linter.unusedVariables false
open Go.RowKit
theorem Agg.runOk_parts {k : Int} {l : List (Bool × Int)} (h : Agg.runOk k l = true) : Agg.isKind k = true ∧ Agg.opsOk l = true := by
  simp only [Agg.runOk, Bool.and_eq_true] at h
  exact h
theorem Agg.run_end {k : Int} {l : List (Bool × Int)} (h : Agg.runOk k l = true) :
    Agg.runN k l = Agg.qOut k l ∧ Agg.qOk k l = true ∧ Agg.sOk k (Agg.runS k l) = true ∧ (Agg.runS k l).front.length + (Agg.runS k l).items.length = (Agg.winOut l).length := by
  obtain ⟨hk, ho⟩ := Agg.runOk_parts h
  have ho2 := ho
  simp only [Agg.opsOk, Bool.and_eq_true, decide_eq_true_eq] at ho2
  obtain ⟨⟨hn200, hall⟩, hfit⟩ := ho2
  have e1 : Agg.runS k l = Agg.stAt k l l.length := by simp [Agg.runS, h]
  have st := Agg.stands_at hk l.length hfit
  obtain ⟨c0, c1, c2, c3⟩ := Agg.cost_at k l l.length
  have hp := Agg.pushes_le l l.length
  refine ⟨?_, by simp [Agg.qOk, hk, ho], ?_, ?_⟩
  · simp only [Agg.runN, h, if_true, Agg.qOut, Agg.qOk, hk, ho, Bool.and_self, Agg.stNums, Agg.qs]
    apply List.map_congr_left
    intro i hi
    have hi := List.mem_range.1 hi
    have := (Agg.run_step2 hk ho hi).2.2.1
    rw [this]
    rfl
  · rw [e1]
    exact st.valid hk (Agg.items_at hall hfit) c0 (by omega) (by omega) (by omega)
  · rw [e1]
    have := st.size
    simp only [Agg.S.size] at this
    rw [this]
    simp [Agg.winOut, ho]
end Go.Proofs.YtolgclajlklmaaaGreat
