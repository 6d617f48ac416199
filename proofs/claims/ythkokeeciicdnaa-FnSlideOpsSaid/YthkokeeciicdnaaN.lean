/-
  The exported functions of chapter 1, in the program and in the model, at every kind and at every number that is none.
-/
import Derived.Test.YthkokeeciicdnaaB1
import Derived.Test.YthkokeeciicdnaaB2
import Derived.Test.YthkokeeciicdnaaB3
import Derived.Test.YthkokeeciicdnaaB4
import Derived.Test.YthkokeeciicdnaaS1
import Derived.Test.YthkokeeciicdnaaS2
import Derived.Test.YthkokeeciicdnaaS3
import Derived.Test.YthkokeeciicdnaaS4
import Derived.Test.YthkokeeciicdnaaMa
namespace Go.Proofs.Ythkokeeciicdnaa
set_option linter.unusedSimpArgs false
set_option linter.unusedVariables false
open Go.RowKit
theorem kindValid_any (k : Int) (w : World) : Calls Try.prog 24 #[.int .i64 k] w fun e w' => e = .returned (.bool (Agg.isKind k)) ∧ w = w' := by
  cases hk : Agg.isKind k
  · have hk2 := Lib.hid (show ¬ (1 ≤ k ∧ k ≤ 10) by simpa [Agg.isKind] using hk)
    go_enter Try.func24, Try.ntmps24
    go_wp2_with (go_at_call 27; refine (kindOf_not _ _ hk2.out).mono ?_; rintro e w1 ⟨rfl, rfl⟩)
    go_returns
    exact ⟨rfl, rfl⟩
  · rcases Agg.kinds hk with rfl | rfl | rfl | rfl | rfl | rfl | rfl | rfl | rfl | rfl
    · exact kindValid_1 w
    · exact kindValid_2 w
    · exact kindValid_3 w
    · exact kindValid_4 w
    · exact kindValid_5 w
    · exact kindValid_6 w
    · exact kindValid_7 w
    · exact kindValid_8 w
    · exact kindValid_9 w
    · exact kindValid_10 w
set_option maxHeartbeats 1000000 in
theorem unitOf_any (k : Int)  (w : World) :
    Calls Try.prog 11 #[.int .i64 k] w fun e w' => e = .returned (.tuple #[.agg #[.int .i64 (Agg.aUnit k).1.x, .int .i64 (Agg.aUnit k).1.y, .int .i64 (Agg.aUnit k).1.z], .bool (Agg.aUnit k).2]) ∧ Below w.heap.size w w' := by
  cases hk : Agg.isKind k
  · have e : Agg.aUnit k = (Agg.zero, false) := by simp [Agg.valid, Agg.aLift, Agg.aUnit, Agg.aComb, Agg.aLow, Agg.aRest, Agg.aFold, Agg.give, hk]
    rw [e]
    have hk2 := Lib.hid (show ¬ (1 ≤ k ∧ k ≤ 10) by simpa [Agg.isKind] using hk)
    clear e
    go_enter Try.func11, Try.ntmps11
    go_wp2_with (go_at_call 27; refine (kindOf_not _ _ hk2.out).mono ?_; rintro e w1 ⟨rfl, rfl⟩)
    refine bodyPost_ret (by simp [results, Try.results11, go_sem, *]; try rfl) rfl ?_
    exact ⟨ret_agg_bool rfl rfl rfl rfl, (by first | (go_grown; done) | (refine below_drewN ?_ _; go_grown; done) | (refine (below_drewN _ ?_); go_grown; done))⟩
  · rcases Agg.kinds hk with rfl | rfl | rfl | rfl | rfl | rfl | rfl | rfl | rfl | rfl
    · exact unitOf_1 w
    · exact unitOf_2 w
    · exact unitOf_3 w
    · exact unitOf_4 w
    · exact unitOf_5 w
    · exact unitOf_6 w
    · exact unitOf_7 w
    · exact unitOf_8 w
    · exact unitOf_9 w
    · exact unitOf_10 w
end Go.Proofs.Ythkokeeciicdnaa
