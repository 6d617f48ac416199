/-
  The exported functions of chapter 1, in the program and in the model, at every kind and at every number that is none.
-/
import Derived.Test.YtolgclajlklmaaaGreatB1
import Derived.Test.YtolgclajlklmaaaGreatB2
import Derived.Test.YtolgclajlklmaaaGreatB3
import Derived.Test.YtolgclajlklmaaaGreatB4
import Derived.Test.YtolgclajlklmaaaGreatS1
import Derived.Test.YtolgclajlklmaaaGreatS2
import Derived.Test.YtolgclajlklmaaaGreatS3
import Derived.Test.YtolgclajlklmaaaGreatS4
import Derived.Test.YtolgclajlklmaaaGreatMa
namespace Go.Proofs.YtolgclajlklmaaaGreat
set_option linter.unusedSimpArgs false
set_option linter.unusedVariables false
open Go.RowKit
theorem kindValid_any (k : Int) (w : World) : Calls Tryz.prog 43 #[.int .i64 k] w fun e w' => e = .returned (.bool (Agg.isKind k)) ∧ w = w' := by
  cases hk : Agg.isKind k
  · have hk2 := Lib.hid (show ¬ (1 ≤ k ∧ k ≤ 10) by simpa [Agg.isKind] using hk)
    go_enter Tryz.func43, Tryz.ntmps43
    go_wp2_with (go_at_call 74; refine (kindOf_not _ _ hk2.out).mono ?_; rintro e w1 ⟨rfl, rfl⟩)
    go_returns
    exact ⟨rfl, rfl⟩
  · rcases Agg.kinds hk with rfl | rfl | rfl | rfl | rfl | rfl | rfl | rfl | rfl | rfl
    · exact kindValid_1 w
    · exact kindValid_2 w
    · exact kindValid_3 w
    · exact kindValid_4 w
    · exact kindValid_5 w
    · exact kindValid_6 w
    · exact kindValid_7 w
    · exact kindValid_8 w
    · exact kindValid_9 w
    · exact kindValid_10 w
set_option maxHeartbeats 1000000 in
theorem valueValid_any (k : Int) (x y z : Int) (w : World) :
    Calls Tryz.prog 92 #[.int .i64 k, .agg #[.int .i64 x, .int .i64 y, .int .i64 z]] w fun e w' => e = .returned (.bool (Agg.valid k ⟨x, y, z⟩)) ∧ Below w.heap.size w w' := by
  cases hk : Agg.isKind k
  · have e : Agg.valid k ⟨x, y, z⟩ = false := by simp [Agg.valid, Agg.aLift, Agg.aUnit, Agg.aComb, Agg.aLow, Agg.aRest, Agg.aFold, Agg.give, hk]
    rw [e]
    have hk2 := Lib.hid (show ¬ (1 ≤ k ∧ k ≤ 10) by simpa [Agg.isKind] using hk)
    clear e
    go_enter Tryz.func92, Tryz.ntmps92
    go_wp2_with (go_at_call 74; refine (kindOf_not _ _ hk2.out).mono ?_; rintro e w1 ⟨rfl, rfl⟩)
    go_returns
    exact ⟨rfl, (by first | (go_grown; done) | (refine below_drewN ?_ _; go_grown; done) | (refine (below_drewN _ ?_); go_grown; done))⟩
  · rcases Agg.kinds hk with rfl | rfl | rfl | rfl | rfl | rfl | rfl | rfl | rfl | rfl
    · exact valueValid_1 x y z w
    · exact valueValid_2 x y z w
    · exact valueValid_3 x y z w
    · exact valueValid_4 x y z w
    · exact valueValid_5 x y z w
    · exact valueValid_6 x y z w
    · exact valueValid_7 x y z w
    · exact valueValid_8 x y z w
    · exact valueValid_9 x y z w
    · exact valueValid_10 x y z w
set_option maxHeartbeats 1000000 in
theorem unitOf_any (k : Int)  (w : World) :
    Calls Tryz.prog 79 #[.int .i64 k] w fun e w' => e = .returned (.tuple #[.agg #[.int .i64 (Agg.aUnit k).1.x, .int .i64 (Agg.aUnit k).1.y, .int .i64 (Agg.aUnit k).1.z], .bool (Agg.aUnit k).2]) ∧ Below w.heap.size w w' := by
  cases hk : Agg.isKind k
  · have e : Agg.aUnit k = (Agg.zero, false) := by simp [Agg.valid, Agg.aLift, Agg.aUnit, Agg.aComb, Agg.aLow, Agg.aRest, Agg.aFold, Agg.give, hk]
    rw [e]
    have hk2 := Lib.hid (show ¬ (1 ≤ k ∧ k ≤ 10) by simpa [Agg.isKind] using hk)
    clear e
    go_enter Tryz.func79, Tryz.ntmps79
    go_wp2_with (go_at_call 74; refine (kindOf_not _ _ hk2.out).mono ?_; rintro e w1 ⟨rfl, rfl⟩)
    refine bodyPost_ret (by simp [results, Tryz.results79, go_sem, *]; try rfl) rfl ?_
    exact ⟨ret_agg_bool rfl rfl rfl rfl, (by first | (go_grown; done) | (refine below_drewN ?_ _; go_grown; done) | (refine (below_drewN _ ?_); go_grown; done))⟩
  · rcases Agg.kinds hk with rfl | rfl | rfl | rfl | rfl | rfl | rfl | rfl | rfl | rfl
    · exact unitOf_1 w
    · exact unitOf_2 w
    · exact unitOf_3 w
    · exact unitOf_4 w
    · exact unitOf_5 w
    · exact unitOf_6 w
    · exact unitOf_7 w
    · exact unitOf_8 w
    · exact unitOf_9 w
    · exact unitOf_10 w
set_option maxHeartbeats 1000000 in
theorem combineValues_any (k : Int) (ax ay az bx by' bz : Int) (w : World) :
    Calls Tryz.prog 85 #[.int .i64 k, .agg #[.int .i64 ax, .int .i64 ay, .int .i64 az], .agg #[.int .i64 bx, .int .i64 by', .int .i64 bz]] w fun e w' => e = .returned (.tuple #[.agg #[.int .i64 (Agg.aComb k ⟨ax, ay, az⟩ ⟨bx, by', bz⟩).1.x, .int .i64 (Agg.aComb k ⟨ax, ay, az⟩ ⟨bx, by', bz⟩).1.y, .int .i64 (Agg.aComb k ⟨ax, ay, az⟩ ⟨bx, by', bz⟩).1.z], .bool (Agg.aComb k ⟨ax, ay, az⟩ ⟨bx, by', bz⟩).2]) ∧ Below w.heap.size w w' := by
  cases hk : Agg.isKind k
  · have e : Agg.aComb k ⟨ax, ay, az⟩ ⟨bx, by', bz⟩ = (Agg.zero, false) := by simp [Agg.valid, Agg.aLift, Agg.aUnit, Agg.aComb, Agg.aLow, Agg.aRest, Agg.aFold, Agg.give, hk]
    rw [e]
    have hk2 := Lib.hid (show ¬ (1 ≤ k ∧ k ≤ 10) by simpa [Agg.isKind] using hk)
    clear e
    go_enter Tryz.func85, Tryz.ntmps85
    go_wp2_with (go_at_call 74; refine (kindOf_not _ _ hk2.out).mono ?_; rintro e w1 ⟨rfl, rfl⟩)
    refine bodyPost_ret (by simp [results, Tryz.results85, go_sem, *]; try rfl) rfl ?_
    exact ⟨ret_agg_bool rfl rfl rfl rfl, (by first | (go_grown; done) | (refine below_drewN ?_ _; go_grown; done) | (refine (below_drewN _ ?_); go_grown; done))⟩
  · rcases Agg.kinds hk with rfl | rfl | rfl | rfl | rfl | rfl | rfl | rfl | rfl | rfl
    · exact combineValues_1 ax ay az bx by' bz w
    · exact combineValues_2 ax ay az bx by' bz w
    · exact combineValues_3 ax ay az bx by' bz w
    · exact combineValues_4 ax ay az bx by' bz w
    · exact combineValues_5 ax ay az bx by' bz w
    · exact combineValues_6 ax ay az bx by' bz w
    · exact combineValues_7 ax ay az bx by' bz w
    · exact combineValues_8 ax ay az bx by' bz w
    · exact combineValues_9 ax ay az bx by' bz w
    · exact combineValues_10 ax ay az bx by' bz w
set_option maxHeartbeats 1000000 in
theorem lowerValue_any (k : Int) (x y z : Int) (w : World) :
    Calls Tryz.prog 91 #[.int .i64 k, .agg #[.int .i64 x, .int .i64 y, .int .i64 z]] w fun e w' => e = .returned (.tuple #[.int .i64 (Agg.aLow k ⟨x, y, z⟩).1, .bool (Agg.aLow k ⟨x, y, z⟩).2]) ∧ Below w.heap.size w w' := by
  cases hk : Agg.isKind k
  · have e : Agg.aLow k ⟨x, y, z⟩ = (0, false) := by simp [Agg.valid, Agg.aLift, Agg.aUnit, Agg.aComb, Agg.aLow, Agg.aRest, Agg.aFold, Agg.give, hk]
    rw [e]
    have hk2 := Lib.hid (show ¬ (1 ≤ k ∧ k ≤ 10) by simpa [Agg.isKind] using hk)
    clear e
    go_enter Tryz.func91, Tryz.ntmps91
    go_wp2_with (go_at_call 74; refine (kindOf_not _ _ hk2.out).mono ?_; rintro e w1 ⟨rfl, rfl⟩)
    go_returns
    exact ⟨rfl, (by first | (go_grown; done) | (refine below_drewN ?_ _; go_grown; done) | (refine (below_drewN _ ?_); go_grown; done))⟩
  · rcases Agg.kinds hk with rfl | rfl | rfl | rfl | rfl | rfl | rfl | rfl | rfl | rfl
    · exact lowerValue_1 x y z w
    · exact lowerValue_2 x y z w
    · exact lowerValue_3 x y z w
    · exact lowerValue_4 x y z w
    · exact lowerValue_5 x y z w
    · exact lowerValue_6 x y z w
    · exact lowerValue_7 x y z w
    · exact lowerValue_8 x y z w
    · exact lowerValue_9 x y z w
    · exact lowerValue_10 x y z w
end Go.Proofs.YtolgclajlklmaaaGreat
