/-
  WindowAfter, in the program and in the model.
-/
import Derived.Test.YtfcjdpmoakidhaaGreat2a
import Derived.Test.YtfcjdpmoakidhaaGreat2s
import Derived.Lib.SliceRun
import Derived.Deep.DeepMust
namespace Go.Proofs.YtfcjdpmoakidhaaGreat
set_option linter.unusedSimpArgs false
set_option linter.unusedVariables false
open Go.RowKit
def Agg.winOut (l : List (Bool × Int)) : List Int := if Agg.opsOk l then Agg.winAt l l.length else []
theorem Agg.opsOk_parts {l : List (Bool × Int)} (h : Agg.opsOk l = true) : l.length ≤ 200 ∧ Agg.allOk l l.length = true ∧ Agg.fitTo l l.length = true := by
  simp only [Agg.opsOk, Bool.and_eq_true, decide_eq_true_eq] at h
  exact ⟨h.1.1, h.1.2, h.2⟩
theorem Agg.winOut_len (l : List (Bool × Int)) : (Agg.winOut l).length ≤ 60 := by
  unfold Agg.winOut
  split
  · rename_i h
    exact Agg.win_len _ (Agg.opsOk_parts h).2.2
  · simp
end Go.Proofs.YtfcjdpmoakidhaaGreat
