/-
  The laws FnStacksCost, walked.
-/
import Derived.Test.YtmlkdbmhekiniaaGreat3lc
namespace Go.Proofs.YtmlkdbmhekiniaaGreat
set_option linter.unusedSimpArgs false
set_option linter.unusedVariables false
open Go.RowKit
theorem Agg.runS_of {k : Int} {l : List (Bool × Int)} (h : Agg.runOk k l = true) : Agg.runS k l = Agg.stAt k l l.length := by simp [Agg.runS, h]
end Go.Proofs.YtmlkdbmhekiniaaGreat
