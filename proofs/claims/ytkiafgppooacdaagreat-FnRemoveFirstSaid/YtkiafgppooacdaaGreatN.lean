/-
  The exported functions of chapter 1, in the program and in the model, at every kind and at every number that is none.
-/
import Derived.Test.YtkiafgppooacdaaGreatB1
import Derived.Test.YtkiafgppooacdaaGreatB2
import Derived.Test.YtkiafgppooacdaaGreatB3
import Derived.Test.YtkiafgppooacdaaGreatB4
import Derived.Test.YtkiafgppooacdaaGreatS1
import Derived.Test.YtkiafgppooacdaaGreatS2
import Derived.Test.YtkiafgppooacdaaGreatS3
import Derived.Test.YtkiafgppooacdaaGreatS4
import Derived.Test.YtkiafgppooacdaaGreatMath4
namespace Go.Proofs.YtkiafgppooacdaaGreat
set_option linter.unusedSimpArgs false
set_option linter.unusedVariables false
open Go.RowKit
set_option maxHeartbeats 1000000 in
theorem valueValid_any (k : Int) (x y z : Int) (w : World) :
    Calls Tryz.prog 8 #[.int .i64 k, .agg #[.int .i64 x, .int .i64 y, .int .i64 z]] w fun e w' => e = .returned (.bool (Agg.valid k ⟨x, y, z⟩)) ∧ Below w.heap.size w w' := by
  cases hk : Agg.isKind k
  · have e : Agg.valid k ⟨x, y, z⟩ = false := by simp [Agg.valid, Agg.aLift, Agg.aUnit, Agg.aComb, Agg.aLow, Agg.aRest, Agg.aFold, Agg.give, hk]
    rw [e]
    have hk2 := Lib.hid (show ¬ (1 ≤ k ∧ k ≤ 10) by simpa [Agg.isKind] using hk)
    clear e
    go_enter Tryz.func8, Tryz.ntmps8
    go_wp2_with (go_at_call 15; refine (kindOf_not _ _ hk2.out).mono ?_; rintro e w1 ⟨rfl, rfl⟩)
    go_returns
    exact ⟨rfl, (by first | (go_grown; done) | (refine below_drewN ?_ _; go_grown; done) | (refine (below_drewN _ ?_); go_grown; done))⟩
  · rcases Agg.kinds hk with rfl | rfl | rfl | rfl | rfl | rfl | rfl | rfl | rfl | rfl
    · exact valueValid_1 x y z w
    · exact valueValid_2 x y z w
    · exact valueValid_3 x y z w
    · exact valueValid_4 x y z w
    · exact valueValid_5 x y z w
    · exact valueValid_6 x y z w
    · exact valueValid_7 x y z w
    · exact valueValid_8 x y z w
    · exact valueValid_9 x y z w
    · exact valueValid_10 x y z w
set_option maxHeartbeats 1000000 in
theorem combineValues_any (k : Int) (ax ay az bx by' bz : Int) (w : World) :
    Calls Tryz.prog 7 #[.int .i64 k, .agg #[.int .i64 ax, .int .i64 ay, .int .i64 az], .agg #[.int .i64 bx, .int .i64 by', .int .i64 bz]] w fun e w' => e = .returned (.tuple #[.agg #[.int .i64 (Agg.aComb k ⟨ax, ay, az⟩ ⟨bx, by', bz⟩).1.x, .int .i64 (Agg.aComb k ⟨ax, ay, az⟩ ⟨bx, by', bz⟩).1.y, .int .i64 (Agg.aComb k ⟨ax, ay, az⟩ ⟨bx, by', bz⟩).1.z], .bool (Agg.aComb k ⟨ax, ay, az⟩ ⟨bx, by', bz⟩).2]) ∧ Below w.heap.size w w' := by
  cases hk : Agg.isKind k
  · have e : Agg.aComb k ⟨ax, ay, az⟩ ⟨bx, by', bz⟩ = (Agg.zero, false) := by simp [Agg.valid, Agg.aLift, Agg.aUnit, Agg.aComb, Agg.aLow, Agg.aRest, Agg.aFold, Agg.give, hk]
    rw [e]
    have hk2 := Lib.hid (show ¬ (1 ≤ k ∧ k ≤ 10) by simpa [Agg.isKind] using hk)
    clear e
    go_enter Tryz.func7, Tryz.ntmps7
    go_wp2_with (go_at_call 15; refine (kindOf_not _ _ hk2.out).mono ?_; rintro e w1 ⟨rfl, rfl⟩)
    refine bodyPost_ret (by simp [results, Tryz.results7, go_sem, *]; try rfl) rfl ?_
    exact ⟨ret_agg_bool rfl rfl rfl rfl, (by first | (go_grown; done) | (refine below_drewN ?_ _; go_grown; done) | (refine (below_drewN _ ?_); go_grown; done))⟩
  · rcases Agg.kinds hk with rfl | rfl | rfl | rfl | rfl | rfl | rfl | rfl | rfl | rfl
    · exact combineValues_1 ax ay az bx by' bz w
    · exact combineValues_2 ax ay az bx by' bz w
    · exact combineValues_3 ax ay az bx by' bz w
    · exact combineValues_4 ax ay az bx by' bz w
    · exact combineValues_5 ax ay az bx by' bz w
    · exact combineValues_6 ax ay az bx by' bz w
    · exact combineValues_7 ax ay az bx by' bz w
    · exact combineValues_8 ax ay az bx by' bz w
    · exact combineValues_9 ax ay az bx by' bz w
    · exact combineValues_10 ax ay az bx by' bz w
set_option maxHeartbeats 1000000 in
theorem s_valueValid_any (k : Int) (x y z : Int) (w : World) :
    Calls Tryz.prog 17 #[.int .i64 k, .agg #[.int .i64 x, .int .i64 y, .int .i64 z]] w fun e w' => e = .returned (.bool (Agg.valid k ⟨x, y, z⟩)) ∧ Below w.heap.size w w' := by
  cases hk : Agg.isKind k
  · have e : Agg.valid k ⟨x, y, z⟩ = false := by simp [Agg.valid, Agg.aLift, Agg.aUnit, Agg.aComb, Agg.aLow, Agg.aRest, Agg.aFold, Agg.give, hk]
    rw [e]
    have hk2 := Lib.hid (show ¬ (1 ≤ k ∧ k ≤ 10) by simpa [Agg.isKind] using hk)
    clear e
    go_enter Tryz.func17, Tryz.ntmps17
    go_wp2_with (go_at_call 23; refine (s_kind_any _ _).mono ?_; rintro e w1 ⟨rfl, rfl⟩)
    go_returns
    exact ⟨rfl, (by first | (go_grown; done) | (refine below_drewN ?_ _; go_grown; done) | (refine (below_drewN _ ?_); go_grown; done))⟩
  · rcases Agg.kinds hk with rfl | rfl | rfl | rfl | rfl | rfl | rfl | rfl | rfl | rfl
    · exact s_valueValid_1 x y z w
    · exact s_valueValid_2 x y z w
    · exact s_valueValid_3 x y z w
    · exact s_valueValid_4 x y z w
    · exact s_valueValid_5 x y z w
    · exact s_valueValid_6 x y z w
    · exact s_valueValid_7 x y z w
    · exact s_valueValid_8 x y z w
    · exact s_valueValid_9 x y z w
    · exact s_valueValid_10 x y z w
set_option maxHeartbeats 1000000 in
theorem s_combineValues_any (k : Int) (ax ay az bx by' bz : Int) (w : World) :
    Calls Tryz.prog 12 #[.int .i64 k, .agg #[.int .i64 ax, .int .i64 ay, .int .i64 az], .agg #[.int .i64 bx, .int .i64 by', .int .i64 bz]] w fun e w' => e = .returned (.tuple #[.agg #[.int .i64 (Agg.aComb k ⟨ax, ay, az⟩ ⟨bx, by', bz⟩).1.x, .int .i64 (Agg.aComb k ⟨ax, ay, az⟩ ⟨bx, by', bz⟩).1.y, .int .i64 (Agg.aComb k ⟨ax, ay, az⟩ ⟨bx, by', bz⟩).1.z], .bool (Agg.aComb k ⟨ax, ay, az⟩ ⟨bx, by', bz⟩).2]) ∧ Below w.heap.size w w' := by
  cases hk : Agg.isKind k
  · have e : Agg.aComb k ⟨ax, ay, az⟩ ⟨bx, by', bz⟩ = (Agg.zero, false) := by simp [Agg.valid, Agg.aLift, Agg.aUnit, Agg.aComb, Agg.aLow, Agg.aRest, Agg.aFold, Agg.give, hk]
    rw [e]
    have hk2 := Lib.hid (show ¬ (1 ≤ k ∧ k ≤ 10) by simpa [Agg.isKind] using hk)
    clear e
    have hv : ∀ v, Agg.valid k v = false := fun v => by simp [Agg.valid, hk]
    go_enter Tryz.func12, Tryz.ntmps12
    go_wp2_with (first | (go_at_call 17; refine (s_valueValid_any _ _ _ _ _).mono ?_; rintro e w1 ⟨rfl, hb1⟩; obtain ⟨hc1, hf1⟩ := bcell hb1; obtain ⟨hz0, hz1, hz2⟩ : w.heap.size < w1.heap.size ∧ w.heap.size + 1 < w1.heap.size ∧ w.heap.size + 1 + 1 < w1.heap.size := (by have hzz := hb1.size; (try simp at hzz); omega); have hB1 : Below w.heap.size w w1 := Below.trans (by go_grown) (hb1.mono (by first | (simp; done) | (simp; omega) | omega)); clear hb1))
    refine bodyPost_ret (by simp [results, Tryz.results12, go_sem, *]; try rfl) rfl ?_
    exact ⟨ret_agg_bool rfl rfl rfl rfl, (by first | (go_grown; done) | (refine below_drewN ?_ _; go_grown; done) | (refine (below_drewN _ ?_); go_grown; done))⟩
  · rcases Agg.kinds hk with rfl | rfl | rfl | rfl | rfl | rfl | rfl | rfl | rfl | rfl
    · exact s_combineValues_1 ax ay az bx by' bz w
    · exact s_combineValues_2 ax ay az bx by' bz w
    · exact s_combineValues_3 ax ay az bx by' bz w
    · exact s_combineValues_4 ax ay az bx by' bz w
    · exact s_combineValues_5 ax ay az bx by' bz w
    · exact s_combineValues_6 ax ay az bx by' bz w
    · exact s_combineValues_7 ax ay az bx by' bz w
    · exact s_combineValues_8 ax ay az bx by' bz w
    · exact s_combineValues_9 ax ay az bx by' bz w
    · exact s_combineValues_10 ax ay az bx by' bz w
end Go.Proofs.YtkiafgppooacdaaGreat
