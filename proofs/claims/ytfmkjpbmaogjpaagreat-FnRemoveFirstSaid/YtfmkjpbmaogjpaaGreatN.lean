/-
  The exported functions of chapter 1, in the program and in the model, at every kind and at every number that is none.
-/
import Derived.Test.YtfmkjpbmaogjpaaGreatB1
import Derived.Test.YtfmkjpbmaogjpaaGreatB2
import Derived.Test.YtfmkjpbmaogjpaaGreatB3
import Derived.Test.YtfmkjpbmaogjpaaGreatB4
import Derived.Test.YtfmkjpbmaogjpaaGreatS1
import Derived.Test.YtfmkjpbmaogjpaaGreatS2
import Derived.Test.YtfmkjpbmaogjpaaGreatS3
import Derived.Test.YtfmkjpbmaogjpaaGreatS4
import Derived.Test.YtfmkjpbmaogjpaaGreatMa
namespace Go.Proofs.YtfmkjpbmaogjpaaGreat
set_option linter.unusedSimpArgs false
set_option linter.unusedVariables false
open Go.RowKit
theorem kindValid_any (k : Int) (w : World) : Calls Tryz.prog 62 #[.int .i64 k] w fun e w' => e = .returned (.bool (Agg.isKind k)) ∧ w = w' := by
  cases hk : Agg.isKind k
  · have hk2 := Lib.hid (show ¬ (1 ≤ k ∧ k ≤ 10) by simpa [Agg.isKind] using hk)
    go_enter Tryz.func62, Tryz.ntmps62
    go_wp2_with (go_at_call 59; refine (kindOf_not _ _ hk2.out).mono ?_; rintro e w1 ⟨rfl, rfl⟩)
    go_returns
    exact ⟨rfl, rfl⟩
  · rcases Agg.kinds hk with rfl | rfl | rfl | rfl | rfl | rfl | rfl | rfl | rfl | rfl
    · exact kindValid_1 w
    · exact kindValid_2 w
    · exact kindValid_3 w
    · exact kindValid_4 w
    · exact kindValid_5 w
    · exact kindValid_6 w
    · exact kindValid_7 w
    · exact kindValid_8 w
    · exact kindValid_9 w
    · exact kindValid_10 w
set_option maxHeartbeats 1000000 in
theorem valueValid_any (k : Int) (x y z : Int) (w : World) :
    Calls Tryz.prog 19 #[.int .i64 k, .agg #[.int .i64 x, .int .i64 y, .int .i64 z]] w fun e w' => e = .returned (.bool (Agg.valid k ⟨x, y, z⟩)) ∧ Below w.heap.size w w' := by
  cases hk : Agg.isKind k
  · have e : Agg.valid k ⟨x, y, z⟩ = false := by simp [Agg.valid, Agg.aLift, Agg.aUnit, Agg.aComb, Agg.aLow, Agg.aRest, Agg.aFold, Agg.give, hk]
    rw [e]
    have hk2 := Lib.hid (show ¬ (1 ≤ k ∧ k ≤ 10) by simpa [Agg.isKind] using hk)
    clear e
    go_enter Tryz.func19, Tryz.ntmps19
    go_wp2_with (go_at_call 59; refine (kindOf_not _ _ hk2.out).mono ?_; rintro e w1 ⟨rfl, rfl⟩)
    go_returns
    exact ⟨rfl, (by first | (go_grown; done) | (refine below_drewN ?_ _; go_grown; done) | (refine (below_drewN _ ?_); go_grown; done))⟩
  · rcases Agg.kinds hk with rfl | rfl | rfl | rfl | rfl | rfl | rfl | rfl | rfl | rfl
    · exact valueValid_1 x y z w
    · exact valueValid_2 x y z w
    · exact valueValid_3 x y z w
    · exact valueValid_4 x y z w
    · exact valueValid_5 x y z w
    · exact valueValid_6 x y z w
    · exact valueValid_7 x y z w
    · exact valueValid_8 x y z w
    · exact valueValid_9 x y z w
    · exact valueValid_10 x y z w
set_option maxHeartbeats 1000000 in
theorem liftItem_any (k : Int) (n : Int) (w : World) :
    Calls Tryz.prog 31 #[.int .i64 k, .int .i64 n] w fun e w' => e = .returned (.tuple #[.agg #[.int .i64 (Agg.aLift k n).1.x, .int .i64 (Agg.aLift k n).1.y, .int .i64 (Agg.aLift k n).1.z], .bool (Agg.aLift k n).2]) ∧ Below w.heap.size w w' := by
  cases hk : Agg.isKind k
  · have e : Agg.aLift k n = (Agg.zero, false) := by simp [Agg.valid, Agg.aLift, Agg.aUnit, Agg.aComb, Agg.aLow, Agg.aRest, Agg.aFold, Agg.give, hk]
    rw [e]
    have hk2 := Lib.hid (show ¬ (1 ≤ k ∧ k ≤ 10) by simpa [Agg.isKind] using hk)
    clear e
    go_enter Tryz.func31, Tryz.ntmps31
    go_wp2_with (go_at_call 59; refine (kindOf_not _ _ hk2.out).mono ?_; rintro e w1 ⟨rfl, rfl⟩)
    refine bodyPost_ret (by simp [results, Tryz.results31, go_sem, *]; try rfl) rfl ?_
    exact ⟨ret_agg_bool rfl rfl rfl rfl, (by first | (go_grown; done) | (refine below_drewN ?_ _; go_grown; done) | (refine (below_drewN _ ?_); go_grown; done))⟩
  · rcases Agg.kinds hk with rfl | rfl | rfl | rfl | rfl | rfl | rfl | rfl | rfl | rfl
    · exact liftItem_1 n w
    · exact liftItem_2 n w
    · exact liftItem_3 n w
    · exact liftItem_4 n w
    · exact liftItem_5 n w
    · exact liftItem_6 n w
    · exact liftItem_7 n w
    · exact liftItem_8 n w
    · exact liftItem_9 n w
    · exact liftItem_10 n w
set_option maxHeartbeats 1000000 in
theorem combineValues_any (k : Int) (ax ay az bx by' bz : Int) (w : World) :
    Calls Tryz.prog 18 #[.int .i64 k, .agg #[.int .i64 ax, .int .i64 ay, .int .i64 az], .agg #[.int .i64 bx, .int .i64 by', .int .i64 bz]] w fun e w' => e = .returned (.tuple #[.agg #[.int .i64 (Agg.aComb k ⟨ax, ay, az⟩ ⟨bx, by', bz⟩).1.x, .int .i64 (Agg.aComb k ⟨ax, ay, az⟩ ⟨bx, by', bz⟩).1.y, .int .i64 (Agg.aComb k ⟨ax, ay, az⟩ ⟨bx, by', bz⟩).1.z], .bool (Agg.aComb k ⟨ax, ay, az⟩ ⟨bx, by', bz⟩).2]) ∧ Below w.heap.size w w' := by
  cases hk : Agg.isKind k
  · have e : Agg.aComb k ⟨ax, ay, az⟩ ⟨bx, by', bz⟩ = (Agg.zero, false) := by simp [Agg.valid, Agg.aLift, Agg.aUnit, Agg.aComb, Agg.aLow, Agg.aRest, Agg.aFold, Agg.give, hk]
    rw [e]
    have hk2 := Lib.hid (show ¬ (1 ≤ k ∧ k ≤ 10) by simpa [Agg.isKind] using hk)
    clear e
    go_enter Tryz.func18, Tryz.ntmps18
    go_wp2_with (go_at_call 59; refine (kindOf_not _ _ hk2.out).mono ?_; rintro e w1 ⟨rfl, rfl⟩)
    refine bodyPost_ret (by simp [results, Tryz.results18, go_sem, *]; try rfl) rfl ?_
    exact ⟨ret_agg_bool rfl rfl rfl rfl, (by first | (go_grown; done) | (refine below_drewN ?_ _; go_grown; done) | (refine (below_drewN _ ?_); go_grown; done))⟩
  · rcases Agg.kinds hk with rfl | rfl | rfl | rfl | rfl | rfl | rfl | rfl | rfl | rfl
    · exact combineValues_1 ax ay az bx by' bz w
    · exact combineValues_2 ax ay az bx by' bz w
    · exact combineValues_3 ax ay az bx by' bz w
    · exact combineValues_4 ax ay az bx by' bz w
    · exact combineValues_5 ax ay az bx by' bz w
    · exact combineValues_6 ax ay az bx by' bz w
    · exact combineValues_7 ax ay az bx by' bz w
    · exact combineValues_8 ax ay az bx by' bz w
    · exact combineValues_9 ax ay az bx by' bz w
    · exact combineValues_10 ax ay az bx by' bz w
set_option maxHeartbeats 1000000 in
theorem lowerValue_any (k : Int) (x y z : Int) (w : World) :
    Calls Tryz.prog 26 #[.int .i64 k, .agg #[.int .i64 x, .int .i64 y, .int .i64 z]] w fun e w' => e = .returned (.tuple #[.int .i64 (Agg.aLow k ⟨x, y, z⟩).1, .bool (Agg.aLow k ⟨x, y, z⟩).2]) ∧ Below w.heap.size w w' := by
  cases hk : Agg.isKind k
  · have e : Agg.aLow k ⟨x, y, z⟩ = (0, false) := by simp [Agg.valid, Agg.aLift, Agg.aUnit, Agg.aComb, Agg.aLow, Agg.aRest, Agg.aFold, Agg.give, hk]
    rw [e]
    have hk2 := Lib.hid (show ¬ (1 ≤ k ∧ k ≤ 10) by simpa [Agg.isKind] using hk)
    clear e
    go_enter Tryz.func26, Tryz.ntmps26
    go_wp2_with (go_at_call 59; refine (kindOf_not _ _ hk2.out).mono ?_; rintro e w1 ⟨rfl, rfl⟩)
    go_returns
    exact ⟨rfl, (by first | (go_grown; done) | (refine below_drewN ?_ _; go_grown; done) | (refine (below_drewN _ ?_); go_grown; done))⟩
  · rcases Agg.kinds hk with rfl | rfl | rfl | rfl | rfl | rfl | rfl | rfl | rfl | rfl
    · exact lowerValue_1 x y z w
    · exact lowerValue_2 x y z w
    · exact lowerValue_3 x y z w
    · exact lowerValue_4 x y z w
    · exact lowerValue_5 x y z w
    · exact lowerValue_6 x y z w
    · exact lowerValue_7 x y z w
    · exact lowerValue_8 x y z w
    · exact lowerValue_9 x y z w
    · exact lowerValue_10 x y z w
set_option maxHeartbeats 1000000 in
theorem s_valueValid_any (k : Int) (x y z : Int) (w : World) :
    Calls Tryz.prog 56 #[.int .i64 k, .agg #[.int .i64 x, .int .i64 y, .int .i64 z]] w fun e w' => e = .returned (.bool (Agg.valid k ⟨x, y, z⟩)) ∧ Below w.heap.size w w' := by
  cases hk : Agg.isKind k
  · have e : Agg.valid k ⟨x, y, z⟩ = false := by simp [Agg.valid, Agg.aLift, Agg.aUnit, Agg.aComb, Agg.aLow, Agg.aRest, Agg.aFold, Agg.give, hk]
    rw [e]
    have hk2 := Lib.hid (show ¬ (1 ≤ k ∧ k ≤ 10) by simpa [Agg.isKind] using hk)
    clear e
    go_enter Tryz.func56, Tryz.ntmps56
    go_wp2_with (go_at_call 64; refine (s_kind_any _ _).mono ?_; rintro e w1 ⟨rfl, rfl⟩)
    go_returns
    exact ⟨rfl, (by first | (go_grown; done) | (refine below_drewN ?_ _; go_grown; done) | (refine (below_drewN _ ?_); go_grown; done))⟩
  · rcases Agg.kinds hk with rfl | rfl | rfl | rfl | rfl | rfl | rfl | rfl | rfl | rfl
    · exact s_valueValid_1 x y z w
    · exact s_valueValid_2 x y z w
    · exact s_valueValid_3 x y z w
    · exact s_valueValid_4 x y z w
    · exact s_valueValid_5 x y z w
    · exact s_valueValid_6 x y z w
    · exact s_valueValid_7 x y z w
    · exact s_valueValid_8 x y z w
    · exact s_valueValid_9 x y z w
    · exact s_valueValid_10 x y z w
set_option maxHeartbeats 1000000 in
theorem s_combineValues_any (k : Int) (ax ay az bx by' bz : Int) (w : World) :
    Calls Tryz.prog 51 #[.int .i64 k, .agg #[.int .i64 ax, .int .i64 ay, .int .i64 az], .agg #[.int .i64 bx, .int .i64 by', .int .i64 bz]] w fun e w' => e = .returned (.tuple #[.agg #[.int .i64 (Agg.aComb k ⟨ax, ay, az⟩ ⟨bx, by', bz⟩).1.x, .int .i64 (Agg.aComb k ⟨ax, ay, az⟩ ⟨bx, by', bz⟩).1.y, .int .i64 (Agg.aComb k ⟨ax, ay, az⟩ ⟨bx, by', bz⟩).1.z], .bool (Agg.aComb k ⟨ax, ay, az⟩ ⟨bx, by', bz⟩).2]) ∧ Below w.heap.size w w' := by
  cases hk : Agg.isKind k
  · have e : Agg.aComb k ⟨ax, ay, az⟩ ⟨bx, by', bz⟩ = (Agg.zero, false) := by simp [Agg.valid, Agg.aLift, Agg.aUnit, Agg.aComb, Agg.aLow, Agg.aRest, Agg.aFold, Agg.give, hk]
    rw [e]
    have hk2 := Lib.hid (show ¬ (1 ≤ k ∧ k ≤ 10) by simpa [Agg.isKind] using hk)
    clear e
    have hv : ∀ v, Agg.valid k v = false := fun v => by simp [Agg.valid, hk]
    go_enter Tryz.func51, Tryz.ntmps51
    go_wp2_with (first | (go_at_call 56; refine (s_valueValid_any _ _ _ _ _).mono ?_; rintro e w1 ⟨rfl, hb1⟩; obtain ⟨hc1, hf1⟩ := bcell hb1; obtain ⟨hz0, hz1, hz2⟩ : w.heap.size < w1.heap.size ∧ w.heap.size + 1 < w1.heap.size ∧ w.heap.size + 1 + 1 < w1.heap.size := (by have hzz := hb1.size; (try simp at hzz); omega); have hB1 : Below w.heap.size w w1 := Below.trans (by go_grown) (hb1.mono (by first | (simp; done) | (simp; omega) | omega)); clear hb1))
    refine bodyPost_ret (by simp [results, Tryz.results51, go_sem, *]; try rfl) rfl ?_
    exact ⟨ret_agg_bool rfl rfl rfl rfl, (by first | (go_grown; done) | (refine below_drewN ?_ _; go_grown; done) | (refine (below_drewN _ ?_); go_grown; done))⟩
  · rcases Agg.kinds hk with rfl | rfl | rfl | rfl | rfl | rfl | rfl | rfl | rfl | rfl
    · exact s_combineValues_1 ax ay az bx by' bz w
    · exact s_combineValues_2 ax ay az bx by' bz w
    · exact s_combineValues_3 ax ay az bx by' bz w
    · exact s_combineValues_4 ax ay az bx by' bz w
    · exact s_combineValues_5 ax ay az bx by' bz w
    · exact s_combineValues_6 ax ay az bx by' bz w
    · exact s_combineValues_7 ax ay az bx by' bz w
    · exact s_combineValues_8 ax ay az bx by' bz w
    · exact s_combineValues_9 ax ay az bx by' bz w
    · exact s_combineValues_10 ax ay az bx by' bz w
end Go.Proofs.YtfmkjpbmaogjpaaGreat
