/-
  The exported functions of chapter 1, in the program and in the model, at every kind and at every number that is none.
-/
import Derived.Test.YtehfijijapfomaaB1
import Derived.Test.YtehfijijapfomaaB2
import Derived.Test.YtehfijijapfomaaB3
import Derived.Test.YtehfijijapfomaaB4
import Derived.Test.YtehfijijapfomaaS1
import Derived.Test.YtehfijijapfomaaS2
import Derived.Test.YtehfijijapfomaaS3
import Derived.Test.YtehfijijapfomaaS4
import Derived.Test.YtehfijijapfomaaMa
namespace Go.Proofs.Ytehfijijapfomaa
set_option linter.unusedSimpArgs false
set_option linter.unusedVariables false
open Go.RowKit
set_option maxHeartbeats 1000000 in
theorem s_valueValid_any (k : Int) (x y z : Int) (w : World) :
    Calls Try.prog 66 #[.int .i64 k, .agg #[.int .i64 x, .int .i64 y, .int .i64 z]] w fun e w' => e = .returned (.bool (Agg.valid k ⟨x, y, z⟩)) ∧ Below w.heap.size w w' := by
  cases hk : Agg.isKind k
  · have e : Agg.valid k ⟨x, y, z⟩ = false := by simp [Agg.valid, Agg.aLift, Agg.aUnit, Agg.aComb, Agg.aLow, Agg.aRest, Agg.aFold, Agg.give, hk]
    rw [e]
    have hk2 := Lib.hid (show ¬ (1 ≤ k ∧ k ≤ 10) by simpa [Agg.isKind] using hk)
    clear e
    go_enter Try.func66, Try.ntmps66
    go_wp2_with (go_at_call 78; refine (s_kind_any _ _).mono ?_; rintro e w1 ⟨rfl, rfl⟩)
    go_returns
    exact ⟨rfl, (by first | (go_grown; done) | (refine below_drewN ?_ _; go_grown; done) | (refine (below_drewN _ ?_); go_grown; done))⟩
  · rcases Agg.kinds hk with rfl | rfl | rfl | rfl | rfl | rfl | rfl | rfl | rfl | rfl
    · exact s_valueValid_1 x y z w
    · exact s_valueValid_2 x y z w
    · exact s_valueValid_3 x y z w
    · exact s_valueValid_4 x y z w
    · exact s_valueValid_5 x y z w
    · exact s_valueValid_6 x y z w
    · exact s_valueValid_7 x y z w
    · exact s_valueValid_8 x y z w
    · exact s_valueValid_9 x y z w
    · exact s_valueValid_10 x y z w
end Go.Proofs.Ytehfijijapfomaa
