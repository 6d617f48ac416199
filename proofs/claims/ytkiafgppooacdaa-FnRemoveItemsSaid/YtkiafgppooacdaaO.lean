/-
  RemoveFirst, in the program and in the model, at every kind and at every number that is none.
-/
import Derived.Test.YtkiafgppooacdaaN
import Derived.Test.YtkiafgppooacdaaD1
import Derived.Test.YtkiafgppooacdaaD2
import Derived.Test.YtkiafgppooacdaaD3
import Derived.Test.YtkiafgppooacdaaD4
import Derived.Test.YtkiafgppooacdaaE1
import Derived.Test.YtkiafgppooacdaaE2
import Derived.Test.YtkiafgppooacdaaE3
import Derived.Test.YtkiafgppooacdaaE4
namespace Go.Proofs.Ytkiafgppooacdaa
set_option linter.unusedSimpArgs false
set_option linter.unusedVariables false
open Go.RowKit
set_option maxHeartbeats 1000000 in
theorem removeFirst_any (k : Int) (ax ay az bx by' bz : Int) (w : World) :
    Calls Try.prog 24 #[.int .i64 k, .agg #[.int .i64 ax, .int .i64 ay, .int .i64 az], .agg #[.int .i64 bx, .int .i64 by', .int .i64 bz]] w fun e w' => e = .returned (.tuple #[.agg #[.int .i64 (Agg.aRest k ⟨ax, ay, az⟩ ⟨bx, by', bz⟩).1.x, .int .i64 (Agg.aRest k ⟨ax, ay, az⟩ ⟨bx, by', bz⟩).1.y, .int .i64 (Agg.aRest k ⟨ax, ay, az⟩ ⟨bx, by', bz⟩).1.z], .bool (Agg.aRest k ⟨ax, ay, az⟩ ⟨bx, by', bz⟩).2]) ∧ Below w.heap.size w w' := by
  cases hk : Agg.isKind k
  · have e : Agg.aRest k ⟨ax, ay, az⟩ ⟨bx, by', bz⟩ = (Agg.zero, false) := by simp [Agg.valid, Agg.aRest, Agg.give, hk]
    rw [e]
    have hk2 := Lib.hid (show ¬ (1 ≤ k ∧ k ≤ 10) by simpa [Agg.isKind] using hk)
    clear e
    skip
    go_enter Try.func24, Try.ntmps24
    go_wp2_with (go_at_call 40; refine (kindOf_not _ _ hk2.out).mono ?_; rintro e w1 ⟨rfl, rfl⟩)
    refine bodyPost_ret (by simp [results, Try.results24, go_sem, *]; try rfl) rfl ?_
    exact ⟨ret_agg_bool rfl rfl rfl rfl, (by first | (go_grown; done) | (refine below_drewN ?_ _; go_grown; done) | (refine (below_drewN _ ?_); go_grown; done))⟩
  · rcases Agg.kinds hk with rfl | rfl | rfl | rfl | rfl | rfl | rfl | rfl | rfl | rfl
    · exact removeFirst_1 ax ay az bx by' bz w
    · exact removeFirst_2 ax ay az bx by' bz w
    · exact removeFirst_3 ax ay az bx by' bz w
    · exact removeFirst_4 ax ay az bx by' bz w
    · exact removeFirst_5 ax ay az bx by' bz w
    · exact removeFirst_6 ax ay az bx by' bz w
    · exact removeFirst_7 ax ay az bx by' bz w
    · exact removeFirst_8 ax ay az bx by' bz w
    · exact removeFirst_9 ax ay az bx by' bz w
    · exact removeFirst_10 ax ay az bx by' bz w
end Go.Proofs.Ytkiafgppooacdaa
