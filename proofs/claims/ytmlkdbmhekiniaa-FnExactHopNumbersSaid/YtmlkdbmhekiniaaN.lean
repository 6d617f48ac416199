/-
  The exported functions of chapter 1, in the program and in the model, at every kind and at every number that is none.
-/
import Derived.Test.YtmlkdbmhekiniaaB1
import Derived.Test.YtmlkdbmhekiniaaB2
import Derived.Test.YtmlkdbmhekiniaaB3
import Derived.Test.YtmlkdbmhekiniaaB4
import Derived.Test.YtmlkdbmhekiniaaS1
import Derived.Test.YtmlkdbmhekiniaaS2
import Derived.Test.YtmlkdbmhekiniaaS3
import Derived.Test.YtmlkdbmhekiniaaS4
import Derived.Test.YtmlkdbmhekiniaaMa
namespace Go.Proofs.Ytmlkdbmhekiniaa
set_option linter.unusedSimpArgs false
set_option linter.unusedVariables false
open Go.RowKit
theorem kindValid_any (k : Int) (w : World) : Calls Try.prog 17 #[.int .i64 k] w fun e w' => e = .returned (.bool (Agg.isKind k)) ∧ w = w' := by
  cases hk : Agg.isKind k
  · have hk2 := Lib.hid (show ¬ (1 ≤ k ∧ k ≤ 10) by simpa [Agg.isKind] using hk)
    go_enter Try.func17, Try.ntmps17
    go_wp2_with (go_at_call 29; refine (kindOf_not _ _ hk2.out).mono ?_; rintro e w1 ⟨rfl, rfl⟩)
    go_returns
    exact ⟨rfl, rfl⟩
  · rcases Agg.kinds hk with rfl | rfl | rfl | rfl | rfl | rfl | rfl | rfl | rfl | rfl
    · exact kindValid_1 w
    · exact kindValid_2 w
    · exact kindValid_3 w
    · exact kindValid_4 w
    · exact kindValid_5 w
    · exact kindValid_6 w
    · exact kindValid_7 w
    · exact kindValid_8 w
    · exact kindValid_9 w
    · exact kindValid_10 w
set_option maxHeartbeats 1000000 in
theorem lowerValue_any (k : Int) (x y z : Int) (w : World) :
    Calls Try.prog 37 #[.int .i64 k, .agg #[.int .i64 x, .int .i64 y, .int .i64 z]] w fun e w' => e = .returned (.tuple #[.int .i64 (Agg.aLow k ⟨x, y, z⟩).1, .bool (Agg.aLow k ⟨x, y, z⟩).2]) ∧ Below w.heap.size w w' := by
  cases hk : Agg.isKind k
  · have e : Agg.aLow k ⟨x, y, z⟩ = (0, false) := by simp [Agg.valid, Agg.aLift, Agg.aUnit, Agg.aComb, Agg.aLow, Agg.aRest, Agg.aFold, Agg.give, hk]
    rw [e]
    have hk2 := Lib.hid (show ¬ (1 ≤ k ∧ k ≤ 10) by simpa [Agg.isKind] using hk)
    clear e
    go_enter Try.func37, Try.ntmps37
    go_wp2_with (go_at_call 29; refine (kindOf_not _ _ hk2.out).mono ?_; rintro e w1 ⟨rfl, rfl⟩)
    go_returns
    exact ⟨rfl, (by first | (go_grown; done) | (refine below_drewN ?_ _; go_grown; done) | (refine (below_drewN _ ?_); go_grown; done))⟩
  · rcases Agg.kinds hk with rfl | rfl | rfl | rfl | rfl | rfl | rfl | rfl | rfl | rfl
    · exact lowerValue_1 x y z w
    · exact lowerValue_2 x y z w
    · exact lowerValue_3 x y z w
    · exact lowerValue_4 x y z w
    · exact lowerValue_5 x y z w
    · exact lowerValue_6 x y z w
    · exact lowerValue_7 x y z w
    · exact lowerValue_8 x y z w
    · exact lowerValue_9 x y z w
    · exact lowerValue_10 x y z w
end Go.Proofs.Ytmlkdbmhekiniaa
