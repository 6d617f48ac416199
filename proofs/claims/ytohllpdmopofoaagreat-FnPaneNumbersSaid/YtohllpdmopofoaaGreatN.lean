/-
  The exported functions of chapter 1, in the program and in the model, at every kind and at every number that is none.
-/
import Derived.Test.YtohllpdmopofoaaGreatB1
import Derived.Test.YtohllpdmopofoaaGreatB2
import Derived.Test.YtohllpdmopofoaaGreatB3
import Derived.Test.YtohllpdmopofoaaGreatB4
import Derived.Test.YtohllpdmopofoaaGreatS1
import Derived.Test.YtohllpdmopofoaaGreatS2
import Derived.Test.YtohllpdmopofoaaGreatS3
import Derived.Test.YtohllpdmopofoaaGreatS4
import Derived.Test.YtohllpdmopofoaaGreatMath4
namespace Go.Proofs.YtohllpdmopofoaaGreat
set_option linter.unusedSimpArgs false
set_option linter.unusedVariables false
open Go.RowKit
theorem kindValid_any (k : Int) (w : World) : Calls Tryz.prog 25 #[.int .i64 k] w fun e w' => e = .returned (.bool (Agg.isKind k)) ∧ w = w' := by
  cases hk : Agg.isKind k
  · have hk2 := Lib.hid (show ¬ (1 ≤ k ∧ k ≤ 10) by simpa [Agg.isKind] using hk)
    go_enter Tryz.func25, Tryz.ntmps25
    go_wp2_with (go_at_call 38; refine (kindOf_not _ _ hk2.out).mono ?_; rintro e w1 ⟨rfl, rfl⟩)
    go_returns
    exact ⟨rfl, rfl⟩
  · rcases Agg.kinds hk with rfl | rfl | rfl | rfl | rfl | rfl | rfl | rfl | rfl | rfl
    · exact kindValid_1 w
    · exact kindValid_2 w
    · exact kindValid_3 w
    · exact kindValid_4 w
    · exact kindValid_5 w
    · exact kindValid_6 w
    · exact kindValid_7 w
    · exact kindValid_8 w
    · exact kindValid_9 w
    · exact kindValid_10 w
set_option maxHeartbeats 1000000 in
theorem unitOf_any (k : Int)  (w : World) :
    Calls Tryz.prog 17 #[.int .i64 k] w fun e w' => e = .returned (.tuple #[.agg #[.int .i64 (Agg.aUnit k).1.x, .int .i64 (Agg.aUnit k).1.y, .int .i64 (Agg.aUnit k).1.z], .bool (Agg.aUnit k).2]) ∧ Below w.heap.size w w' := by
  cases hk : Agg.isKind k
  · have e : Agg.aUnit k = (Agg.zero, false) := by simp [Agg.valid, Agg.aLift, Agg.aUnit, Agg.aComb, Agg.aLow, Agg.aRest, Agg.aFold, Agg.give, hk]
    rw [e]
    have hk2 := Lib.hid (show ¬ (1 ≤ k ∧ k ≤ 10) by simpa [Agg.isKind] using hk)
    clear e
    go_enter Tryz.func17, Tryz.ntmps17
    go_wp2_with (go_at_call 38; refine (kindOf_not _ _ hk2.out).mono ?_; rintro e w1 ⟨rfl, rfl⟩)
    refine bodyPost_ret (by simp [results, Tryz.results17, go_sem, *]; try rfl) rfl ?_
    exact ⟨ret_agg_bool rfl rfl rfl rfl, (by first | (go_grown; done) | (refine below_drewN ?_ _; go_grown; done) | (refine (below_drewN _ ?_); go_grown; done))⟩
  · rcases Agg.kinds hk with rfl | rfl | rfl | rfl | rfl | rfl | rfl | rfl | rfl | rfl
    · exact unitOf_1 w
    · exact unitOf_2 w
    · exact unitOf_3 w
    · exact unitOf_4 w
    · exact unitOf_5 w
    · exact unitOf_6 w
    · exact unitOf_7 w
    · exact unitOf_8 w
    · exact unitOf_9 w
    · exact unitOf_10 w
set_option maxHeartbeats 1000000 in
theorem combineValues_any (k : Int) (ax ay az bx by' bz : Int) (w : World) :
    Calls Tryz.prog 18 #[.int .i64 k, .agg #[.int .i64 ax, .int .i64 ay, .int .i64 az], .agg #[.int .i64 bx, .int .i64 by', .int .i64 bz]] w fun e w' => e = .returned (.tuple #[.agg #[.int .i64 (Agg.aComb k ⟨ax, ay, az⟩ ⟨bx, by', bz⟩).1.x, .int .i64 (Agg.aComb k ⟨ax, ay, az⟩ ⟨bx, by', bz⟩).1.y, .int .i64 (Agg.aComb k ⟨ax, ay, az⟩ ⟨bx, by', bz⟩).1.z], .bool (Agg.aComb k ⟨ax, ay, az⟩ ⟨bx, by', bz⟩).2]) ∧ Below w.heap.size w w' := by
  cases hk : Agg.isKind k
  · have e : Agg.aComb k ⟨ax, ay, az⟩ ⟨bx, by', bz⟩ = (Agg.zero, false) := by simp [Agg.valid, Agg.aLift, Agg.aUnit, Agg.aComb, Agg.aLow, Agg.aRest, Agg.aFold, Agg.give, hk]
    rw [e]
    have hk2 := Lib.hid (show ¬ (1 ≤ k ∧ k ≤ 10) by simpa [Agg.isKind] using hk)
    clear e
    go_enter Tryz.func18, Tryz.ntmps18
    go_wp2_with (go_at_call 38; refine (kindOf_not _ _ hk2.out).mono ?_; rintro e w1 ⟨rfl, rfl⟩)
    refine bodyPost_ret (by simp [results, Tryz.results18, go_sem, *]; try rfl) rfl ?_
    exact ⟨ret_agg_bool rfl rfl rfl rfl, (by first | (go_grown; done) | (refine below_drewN ?_ _; go_grown; done) | (refine (below_drewN _ ?_); go_grown; done))⟩
  · rcases Agg.kinds hk with rfl | rfl | rfl | rfl | rfl | rfl | rfl | rfl | rfl | rfl
    · exact combineValues_1 ax ay az bx by' bz w
    · exact combineValues_2 ax ay az bx by' bz w
    · exact combineValues_3 ax ay az bx by' bz w
    · exact combineValues_4 ax ay az bx by' bz w
    · exact combineValues_5 ax ay az bx by' bz w
    · exact combineValues_6 ax ay az bx by' bz w
    · exact combineValues_7 ax ay az bx by' bz w
    · exact combineValues_8 ax ay az bx by' bz w
    · exact combineValues_9 ax ay az bx by' bz w
    · exact combineValues_10 ax ay az bx by' bz w
set_option maxHeartbeats 1000000 in
theorem lowerValue_any (k : Int) (x y z : Int) (w : World) :
    Calls Tryz.prog 23 #[.int .i64 k, .agg #[.int .i64 x, .int .i64 y, .int .i64 z]] w fun e w' => e = .returned (.tuple #[.int .i64 (Agg.aLow k ⟨x, y, z⟩).1, .bool (Agg.aLow k ⟨x, y, z⟩).2]) ∧ Below w.heap.size w w' := by
  cases hk : Agg.isKind k
  · have e : Agg.aLow k ⟨x, y, z⟩ = (0, false) := by simp [Agg.valid, Agg.aLift, Agg.aUnit, Agg.aComb, Agg.aLow, Agg.aRest, Agg.aFold, Agg.give, hk]
    rw [e]
    have hk2 := Lib.hid (show ¬ (1 ≤ k ∧ k ≤ 10) by simpa [Agg.isKind] using hk)
    clear e
    go_enter Tryz.func23, Tryz.ntmps23
    go_wp2_with (go_at_call 38; refine (kindOf_not _ _ hk2.out).mono ?_; rintro e w1 ⟨rfl, rfl⟩)
    go_returns
    exact ⟨rfl, (by first | (go_grown; done) | (refine below_drewN ?_ _; go_grown; done) | (refine (below_drewN _ ?_); go_grown; done))⟩
  · rcases Agg.kinds hk with rfl | rfl | rfl | rfl | rfl | rfl | rfl | rfl | rfl | rfl
    · exact lowerValue_1 x y z w
    · exact lowerValue_2 x y z w
    · exact lowerValue_3 x y z w
    · exact lowerValue_4 x y z w
    · exact lowerValue_5 x y z w
    · exact lowerValue_6 x y z w
    · exact lowerValue_7 x y z w
    · exact lowerValue_8 x y z w
    · exact lowerValue_9 x y z w
    · exact lowerValue_10 x y z w
end Go.Proofs.YtohllpdmopofoaaGreat
