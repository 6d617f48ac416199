import Derived.Test.YtolgclajlklmaaaGreat6td
import Derived.Test.YtolgclajlklmaaaGreat6zo
import Derived.Test.YtolgclajlklmaaaGreatWq
import Derived.Deep.Cut
namespace Go.Proofs.YtolgclajlklmaaaGreat
set_option linter.unusedSimpArgs false
set_option linter.unusedVariables false
open Go.RowKit
theorem Agg.dqRun_end {k : Int} {l : List (Bool × Int)} (h : Agg.dqRunOk k l = true) :
    Agg.isOrd k = true ∧ Agg.opsOk l = true ∧ Agg.dqRunS k l = Agg.dqAt k l l.length ∧ Agg.dqRunN k l = Agg.dqNs k l ∧ Agg.dqOk k (Agg.dqRunS k l) = true ∧ Agg.DStands k (Agg.winAt l l.length) (Agg.dqRunS k l) := by
  have h2 := h
  simp only [Agg.dqRunOk, Bool.and_eq_true] at h2
  have e1 : Agg.dqRunS k l = Agg.dqAt k l l.length := by simp [Agg.dqRunS, h]
  have e2 : Agg.dqRunN k l = Agg.dqNs k l := by simp [Agg.dqRunN, h]
  have e3 := Agg.dq_run_at h2.1 h2.2 l.length (Nat.le_refl _)
  rw [e1, e2]
  exact ⟨h2.1, h2.2, rfl, rfl, e3.1, e3.2⟩
theorem Agg.before3 {a b : Int} (h : Agg.before 3 a b = false) : ¬ b < a := by simp [Agg.before] at h; omega
theorem Agg.before4 {a b : Int} (h : Agg.before 4 a b = false) : ¬ a < b := by simp [Agg.before] at h; omega
end Go.Proofs.YtolgclajlklmaaaGreat
