/-
  RemoveFirst, in the program and in the model, at every kind and at every number that is none.
-/
import Derived.Test.YtmlkdbmhekiniaaGreatN
import Derived.Test.YtmlkdbmhekiniaaGreatD1
import Derived.Test.YtmlkdbmhekiniaaGreatD2
import Derived.Test.YtmlkdbmhekiniaaGreatD3
import Derived.Test.YtmlkdbmhekiniaaGreatD4
import Derived.Test.YtmlkdbmhekiniaaGreatE1
import Derived.Test.YtmlkdbmhekiniaaGreatE2
import Derived.Test.YtmlkdbmhekiniaaGreatE3
import Derived.Test.YtmlkdbmhekiniaaGreatE4
namespace Go.Proofs.YtmlkdbmhekiniaaGreat
set_option linter.unusedSimpArgs false
set_option linter.unusedVariables false
open Go.RowKit
set_option maxHeartbeats 1000000 in
theorem removeFirst_any (k : Int) (ax ay az bx by' bz : Int) (w : World) :
    Calls Tryz.prog 33 #[.int .i64 k, .agg #[.int .i64 ax, .int .i64 ay, .int .i64 az], .agg #[.int .i64 bx, .int .i64 by', .int .i64 bz]] w fun e w' => e = .returned (.tuple #[.agg #[.int .i64 (Agg.aRest k ⟨ax, ay, az⟩ ⟨bx, by', bz⟩).1.x, .int .i64 (Agg.aRest k ⟨ax, ay, az⟩ ⟨bx, by', bz⟩).1.y, .int .i64 (Agg.aRest k ⟨ax, ay, az⟩ ⟨bx, by', bz⟩).1.z], .bool (Agg.aRest k ⟨ax, ay, az⟩ ⟨bx, by', bz⟩).2]) ∧ Below w.heap.size w w' := by
  cases hk : Agg.isKind k
  · have e : Agg.aRest k ⟨ax, ay, az⟩ ⟨bx, by', bz⟩ = (Agg.zero, false) := by simp [Agg.valid, Agg.aRest, Agg.give, hk]
    rw [e]
    have hk2 := Lib.hid (show ¬ (1 ≤ k ∧ k ≤ 10) by simpa [Agg.isKind] using hk)
    clear e
    skip
    go_enter Tryz.func33, Tryz.ntmps33
    go_wp2_with (go_at_call 57; refine (removerOf_not _ _ (by have := hk2.out; simp [Agg.removes]; omega)).mono ?_; rintro e w1 ⟨rfl, rfl⟩)
    refine bodyPost_ret (by simp [results, Tryz.results33, go_sem, *]; try rfl) rfl ?_
    exact ⟨ret_agg_bool rfl rfl rfl rfl, (by first | (go_grown; done) | (refine below_drewN ?_ _; go_grown; done) | (refine (below_drewN _ ?_); go_grown; done))⟩
  · rcases Agg.kinds hk with rfl | rfl | rfl | rfl | rfl | rfl | rfl | rfl | rfl | rfl
    · exact removeFirst_1 ax ay az bx by' bz w
    · exact removeFirst_2 ax ay az bx by' bz w
    · exact removeFirst_3 ax ay az bx by' bz w
    · exact removeFirst_4 ax ay az bx by' bz w
    · exact removeFirst_5 ax ay az bx by' bz w
    · exact removeFirst_6 ax ay az bx by' bz w
    · exact removeFirst_7 ax ay az bx by' bz w
    · exact removeFirst_8 ax ay az bx by' bz w
    · exact removeFirst_9 ax ay az bx by' bz w
    · exact removeFirst_10 ax ay az bx by' bz w
set_option maxHeartbeats 1000000 in
theorem s_removeFirst_any (k : Int) (ax ay az bx by' bz : Int) (w : World) :
    Calls Tryz.prog 111 #[.int .i64 k, .agg #[.int .i64 ax, .int .i64 ay, .int .i64 az], .agg #[.int .i64 bx, .int .i64 by', .int .i64 bz]] w fun e w' => e = .returned (.tuple #[.agg #[.int .i64 (Agg.aRest k ⟨ax, ay, az⟩ ⟨bx, by', bz⟩).1.x, .int .i64 (Agg.aRest k ⟨ax, ay, az⟩ ⟨bx, by', bz⟩).1.y, .int .i64 (Agg.aRest k ⟨ax, ay, az⟩ ⟨bx, by', bz⟩).1.z], .bool (Agg.aRest k ⟨ax, ay, az⟩ ⟨bx, by', bz⟩).2]) ∧ Below w.heap.size w w' := by
  cases hk : Agg.isKind k
  · have e : Agg.aRest k ⟨ax, ay, az⟩ ⟨bx, by', bz⟩ = (Agg.zero, false) := by simp [Agg.valid, Agg.aRest, Agg.give, hk]
    rw [e]
    have hk2 := Lib.hid (show ¬ (1 ≤ k ∧ k ≤ 10) by simpa [Agg.isKind] using hk)
    clear e
    have hv : ∀ v, Agg.valid k v = false := fun v => by simp [Agg.valid, hk]
    go_enter Tryz.func111, Tryz.ntmps111
    go_wp2_with (go_at_call 123; refine (s_valueValid_any _ _ _ _ _).mono ?_; rintro e w1 ⟨rfl, hb1⟩; obtain ⟨hc1, hf1⟩ := bcell hb1; obtain ⟨hz0, hz1, hz2⟩ : w.heap.size < w1.heap.size ∧ w.heap.size + 1 < w1.heap.size ∧ w.heap.size + 1 + 1 < w1.heap.size := (by have hzz := hb1.size; (try simp at hzz); omega); have hB1 : Below w.heap.size w w1 := Below.trans (by go_grown) (hb1.mono (by first | (simp; done) | (simp; omega) | omega)); clear hb1)
    refine bodyPost_ret (by simp [results, Tryz.results111, go_sem, *]; try rfl) rfl ?_
    exact ⟨ret_agg_bool rfl rfl rfl rfl, (by first | (go_grown; done) | (refine below_drewN ?_ _; go_grown; done) | (refine (below_drewN _ ?_); go_grown; done))⟩
  · rcases Agg.kinds hk with rfl | rfl | rfl | rfl | rfl | rfl | rfl | rfl | rfl | rfl
    · exact s_removeFirst_1 ax ay az bx by' bz w
    · exact s_removeFirst_2 ax ay az bx by' bz w
    · exact s_removeFirst_3 ax ay az bx by' bz w
    · exact s_removeFirst_4 ax ay az bx by' bz w
    · exact s_removeFirst_5 ax ay az bx by' bz w
    · exact s_removeFirst_6 ax ay az bx by' bz w
    · exact s_removeFirst_7 ax ay az bx by' bz w
    · exact s_removeFirst_8 ax ay az bx by' bz w
    · exact s_removeFirst_9 ax ay az bx by' bz w
    · exact s_removeFirst_10 ax ay az bx by' bz w
end Go.Proofs.YtmlkdbmhekiniaaGreat
