/-
  RemoveFirst in the program, at some kinds.
-/
import Derived.Test.YtmlkdbmhekiniaaGreatQi
import Derived.Stop.Asserts
import Derived.Test.YtmlkdbmhekiniaaGreatB4
namespace Go.Proofs.YtmlkdbmhekiniaaGreat
set_option linter.unusedSimpArgs false
set_option linter.unusedVariables false
open Go.RowKit
theorem removeFirst_9 (ax ay az bx by' bz : Int) (w : World) :
    Calls Tryz.prog 33 #[.int .i64 9, .agg #[.int .i64 ax, .int .i64 ay, .int .i64 az], .agg #[.int .i64 bx, .int .i64 by', .int .i64 bz]] w fun e w' => e = .returned (.tuple #[.agg #[.int .i64 (Agg.aRest 9 ⟨ax, ay, az⟩ ⟨bx, by', bz⟩).1.x, .int .i64 (Agg.aRest 9 ⟨ax, ay, az⟩ ⟨bx, by', bz⟩).1.y, .int .i64 (Agg.aRest 9 ⟨ax, ay, az⟩ ⟨bx, by', bz⟩).1.z], .bool (Agg.aRest 9 ⟨ax, ay, az⟩ ⟨bx, by', bz⟩).2]) ∧ Below w.heap.size w w' := by
  have e : Agg.aRest 9 ⟨ax, ay, az⟩ ⟨bx, by', bz⟩ = (Agg.zero, false) := by simp [Agg.aRest, Agg.give, Agg.removes]
  rw [e]
  go_enter Tryz.func33, Tryz.ntmps33
  go_wp2_with (go_at_call 57; refine (removerOf_9 _).mono ?_; rintro e w1 ⟨rfl, rfl⟩)
  refine bodyPost_ret (by simp [results, Tryz.results33, go_sem, *]; try rfl) rfl ?_
  exact ⟨ret_agg_bool rfl rfl rfl rfl, (by first | (go_grown; done) | (refine below_drewN ?_ _; go_grown; done) | (refine (below_drewN _ ?_); go_grown; done))⟩
theorem removeFirst_10 (ax ay az bx by' bz : Int) (w : World) :
    Calls Tryz.prog 33 #[.int .i64 10, .agg #[.int .i64 ax, .int .i64 ay, .int .i64 az], .agg #[.int .i64 bx, .int .i64 by', .int .i64 bz]] w fun e w' => e = .returned (.tuple #[.agg #[.int .i64 (Agg.aRest 10 ⟨ax, ay, az⟩ ⟨bx, by', bz⟩).1.x, .int .i64 (Agg.aRest 10 ⟨ax, ay, az⟩ ⟨bx, by', bz⟩).1.y, .int .i64 (Agg.aRest 10 ⟨ax, ay, az⟩ ⟨bx, by', bz⟩).1.z], .bool (Agg.aRest 10 ⟨ax, ay, az⟩ ⟨bx, by', bz⟩).2]) ∧ Below w.heap.size w w' := by
  have e : Agg.aRest 10 ⟨ax, ay, az⟩ ⟨bx, by', bz⟩ = (Agg.zero, false) := by simp [Agg.aRest, Agg.give, Agg.removes]
  rw [e]
  go_enter Tryz.func33, Tryz.ntmps33
  go_wp2_with (go_at_call 57; refine (removerOf_10 _).mono ?_; rintro e w1 ⟨rfl, rfl⟩)
  refine bodyPost_ret (by simp [results, Tryz.results33, go_sem, *]; try rfl) rfl ?_
  exact ⟨ret_agg_bool rfl rfl rfl rfl, (by first | (go_grown; done) | (refine below_drewN ?_ _; go_grown; done) | (refine (below_drewN _ ?_); go_grown; done))⟩
end Go.Proofs.YtmlkdbmhekiniaaGreat
