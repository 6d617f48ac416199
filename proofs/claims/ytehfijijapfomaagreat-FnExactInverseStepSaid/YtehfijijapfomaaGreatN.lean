/-
  The exported functions of chapter 1, in the program and in the model, at every kind and at every number that is none.
-/
import Derived.Test.YtehfijijapfomaaGreatB1
import Derived.Test.YtehfijijapfomaaGreatB2
import Derived.Test.YtehfijijapfomaaGreatB3
import Derived.Test.YtehfijijapfomaaGreatB4
import Derived.Test.YtehfijijapfomaaGreatS1
import Derived.Test.YtehfijijapfomaaGreatS2
import Derived.Test.YtehfijijapfomaaGreatS3
import Derived.Test.YtehfijijapfomaaGreatS4
import Derived.Test.YtehfijijapfomaaGreatMa
namespace Go.Proofs.YtehfijijapfomaaGreat
set_option linter.unusedSimpArgs false
set_option linter.unusedVariables false
open Go.RowKit
set_option maxHeartbeats 1000000 in
theorem valueValid_any (k : Int) (x y z : Int) (w : World) :
    Calls Tryz.prog 83 #[.int .i64 k, .agg #[.int .i64 x, .int .i64 y, .int .i64 z]] w fun e w' => e = .returned (.bool (Agg.valid k ⟨x, y, z⟩)) ∧ Below w.heap.size w w' := by
  cases hk : Agg.isKind k
  · have e : Agg.valid k ⟨x, y, z⟩ = false := by simp [Agg.valid, Agg.aLift, Agg.aUnit, Agg.aComb, Agg.aLow, Agg.aRest, Agg.aFold, Agg.give, hk]
    rw [e]
    have hk2 := Lib.hid (show ¬ (1 ≤ k ∧ k ≤ 10) by simpa [Agg.isKind] using hk)
    clear e
    go_enter Tryz.func83, Tryz.ntmps83
    go_wp2_with (go_at_call 57; refine (kindOf_not _ _ hk2.out).mono ?_; rintro e w1 ⟨rfl, rfl⟩)
    go_returns
    exact ⟨rfl, (by first | (go_grown; done) | (refine below_drewN ?_ _; go_grown; done) | (refine (below_drewN _ ?_); go_grown; done))⟩
  · rcases Agg.kinds hk with rfl | rfl | rfl | rfl | rfl | rfl | rfl | rfl | rfl | rfl
    · exact valueValid_1 x y z w
    · exact valueValid_2 x y z w
    · exact valueValid_3 x y z w
    · exact valueValid_4 x y z w
    · exact valueValid_5 x y z w
    · exact valueValid_6 x y z w
    · exact valueValid_7 x y z w
    · exact valueValid_8 x y z w
    · exact valueValid_9 x y z w
    · exact valueValid_10 x y z w
set_option maxHeartbeats 1000000 in
theorem unitOf_any (k : Int)  (w : World) :
    Calls Tryz.prog 90 #[.int .i64 k] w fun e w' => e = .returned (.tuple #[.agg #[.int .i64 (Agg.aUnit k).1.x, .int .i64 (Agg.aUnit k).1.y, .int .i64 (Agg.aUnit k).1.z], .bool (Agg.aUnit k).2]) ∧ Below w.heap.size w w' := by
  cases hk : Agg.isKind k
  · have e : Agg.aUnit k = (Agg.zero, false) := by simp [Agg.valid, Agg.aLift, Agg.aUnit, Agg.aComb, Agg.aLow, Agg.aRest, Agg.aFold, Agg.give, hk]
    rw [e]
    have hk2 := Lib.hid (show ¬ (1 ≤ k ∧ k ≤ 10) by simpa [Agg.isKind] using hk)
    clear e
    go_enter Tryz.func90, Tryz.ntmps90
    go_wp2_with (go_at_call 57; refine (kindOf_not _ _ hk2.out).mono ?_; rintro e w1 ⟨rfl, rfl⟩)
    refine bodyPost_ret (by simp [results, Tryz.results90, go_sem, *]; try rfl) rfl ?_
    exact ⟨ret_agg_bool rfl rfl rfl rfl, (by first | (go_grown; done) | (refine below_drewN ?_ _; go_grown; done) | (refine (below_drewN _ ?_); go_grown; done))⟩
  · rcases Agg.kinds hk with rfl | rfl | rfl | rfl | rfl | rfl | rfl | rfl | rfl | rfl
    · exact unitOf_1 w
    · exact unitOf_2 w
    · exact unitOf_3 w
    · exact unitOf_4 w
    · exact unitOf_5 w
    · exact unitOf_6 w
    · exact unitOf_7 w
    · exact unitOf_8 w
    · exact unitOf_9 w
    · exact unitOf_10 w
set_option maxHeartbeats 1000000 in
theorem combineValues_any (k : Int) (ax ay az bx by' bz : Int) (w : World) :
    Calls Tryz.prog 91 #[.int .i64 k, .agg #[.int .i64 ax, .int .i64 ay, .int .i64 az], .agg #[.int .i64 bx, .int .i64 by', .int .i64 bz]] w fun e w' => e = .returned (.tuple #[.agg #[.int .i64 (Agg.aComb k ⟨ax, ay, az⟩ ⟨bx, by', bz⟩).1.x, .int .i64 (Agg.aComb k ⟨ax, ay, az⟩ ⟨bx, by', bz⟩).1.y, .int .i64 (Agg.aComb k ⟨ax, ay, az⟩ ⟨bx, by', bz⟩).1.z], .bool (Agg.aComb k ⟨ax, ay, az⟩ ⟨bx, by', bz⟩).2]) ∧ Below w.heap.size w w' := by
  cases hk : Agg.isKind k
  · have e : Agg.aComb k ⟨ax, ay, az⟩ ⟨bx, by', bz⟩ = (Agg.zero, false) := by simp [Agg.valid, Agg.aLift, Agg.aUnit, Agg.aComb, Agg.aLow, Agg.aRest, Agg.aFold, Agg.give, hk]
    rw [e]
    have hk2 := Lib.hid (show ¬ (1 ≤ k ∧ k ≤ 10) by simpa [Agg.isKind] using hk)
    clear e
    go_enter Tryz.func91, Tryz.ntmps91
    go_wp2_with (go_at_call 57; refine (kindOf_not _ _ hk2.out).mono ?_; rintro e w1 ⟨rfl, rfl⟩)
    refine bodyPost_ret (by simp [results, Tryz.results91, go_sem, *]; try rfl) rfl ?_
    exact ⟨ret_agg_bool rfl rfl rfl rfl, (by first | (go_grown; done) | (refine below_drewN ?_ _; go_grown; done) | (refine (below_drewN _ ?_); go_grown; done))⟩
  · rcases Agg.kinds hk with rfl | rfl | rfl | rfl | rfl | rfl | rfl | rfl | rfl | rfl
    · exact combineValues_1 ax ay az bx by' bz w
    · exact combineValues_2 ax ay az bx by' bz w
    · exact combineValues_3 ax ay az bx by' bz w
    · exact combineValues_4 ax ay az bx by' bz w
    · exact combineValues_5 ax ay az bx by' bz w
    · exact combineValues_6 ax ay az bx by' bz w
    · exact combineValues_7 ax ay az bx by' bz w
    · exact combineValues_8 ax ay az bx by' bz w
    · exact combineValues_9 ax ay az bx by' bz w
    · exact combineValues_10 ax ay az bx by' bz w
set_option maxHeartbeats 1000000 in
theorem lowerValue_any (k : Int) (x y z : Int) (w : World) :
    Calls Tryz.prog 100 #[.int .i64 k, .agg #[.int .i64 x, .int .i64 y, .int .i64 z]] w fun e w' => e = .returned (.tuple #[.int .i64 (Agg.aLow k ⟨x, y, z⟩).1, .bool (Agg.aLow k ⟨x, y, z⟩).2]) ∧ Below w.heap.size w w' := by
  cases hk : Agg.isKind k
  · have e : Agg.aLow k ⟨x, y, z⟩ = (0, false) := by simp [Agg.valid, Agg.aLift, Agg.aUnit, Agg.aComb, Agg.aLow, Agg.aRest, Agg.aFold, Agg.give, hk]
    rw [e]
    have hk2 := Lib.hid (show ¬ (1 ≤ k ∧ k ≤ 10) by simpa [Agg.isKind] using hk)
    clear e
    go_enter Tryz.func100, Tryz.ntmps100
    go_wp2_with (go_at_call 57; refine (kindOf_not _ _ hk2.out).mono ?_; rintro e w1 ⟨rfl, rfl⟩)
    go_returns
    exact ⟨rfl, (by first | (go_grown; done) | (refine below_drewN ?_ _; go_grown; done) | (refine (below_drewN _ ?_); go_grown; done))⟩
  · rcases Agg.kinds hk with rfl | rfl | rfl | rfl | rfl | rfl | rfl | rfl | rfl | rfl
    · exact lowerValue_1 x y z w
    · exact lowerValue_2 x y z w
    · exact lowerValue_3 x y z w
    · exact lowerValue_4 x y z w
    · exact lowerValue_5 x y z w
    · exact lowerValue_6 x y z w
    · exact lowerValue_7 x y z w
    · exact lowerValue_8 x y z w
    · exact lowerValue_9 x y z w
    · exact lowerValue_10 x y z w
set_option maxHeartbeats 1000000 in
theorem s_valueValid_any (k : Int) (x y z : Int) (w : World) :
    Calls Tryz.prog 94 #[.int .i64 k, .agg #[.int .i64 x, .int .i64 y, .int .i64 z]] w fun e w' => e = .returned (.bool (Agg.valid k ⟨x, y, z⟩)) ∧ Below w.heap.size w w' := by
  cases hk : Agg.isKind k
  · have e : Agg.valid k ⟨x, y, z⟩ = false := by simp [Agg.valid, Agg.aLift, Agg.aUnit, Agg.aComb, Agg.aLow, Agg.aRest, Agg.aFold, Agg.give, hk]
    rw [e]
    have hk2 := Lib.hid (show ¬ (1 ≤ k ∧ k ≤ 10) by simpa [Agg.isKind] using hk)
    clear e
    go_enter Tryz.func94, Tryz.ntmps94
    go_wp2_with (go_at_call 84; refine (s_kind_any _ _).mono ?_; rintro e w1 ⟨rfl, rfl⟩)
    go_returns
    exact ⟨rfl, (by first | (go_grown; done) | (refine below_drewN ?_ _; go_grown; done) | (refine (below_drewN _ ?_); go_grown; done))⟩
  · rcases Agg.kinds hk with rfl | rfl | rfl | rfl | rfl | rfl | rfl | rfl | rfl | rfl
    · exact s_valueValid_1 x y z w
    · exact s_valueValid_2 x y z w
    · exact s_valueValid_3 x y z w
    · exact s_valueValid_4 x y z w
    · exact s_valueValid_5 x y z w
    · exact s_valueValid_6 x y z w
    · exact s_valueValid_7 x y z w
    · exact s_valueValid_8 x y z w
    · exact s_valueValid_9 x y z w
    · exact s_valueValid_10 x y z w
end Go.Proofs.YtehfijijapfomaaGreat
