/-
  The exported functions of chapter 1 at some kinds, each against plain mathematics.
-/
import Derived.Test.YtehfijijapfomaaMa
import Derived.Test.YtehfijijapfomaaA3
namespace Go.Proofs.Ytehfijijapfomaa
open Go.RowKit
set_option linter.unusedSimpArgs false
theorem checked_9 (x y z : Int) (w : World) :
    Calls Try.prog 69 #[.iface 131 (.agg #[]), .agg #[.int .i64 x, .int .i64 y, .int .i64 z]] w fun e w' => e = .returned (.tuple #[.agg #[.int .i64 (Agg.give (Agg.ok 9 ⟨x, y, z⟩) ⟨x, y, z⟩).1.x, .int .i64 (Agg.give (Agg.ok 9 ⟨x, y, z⟩) ⟨x, y, z⟩).1.y, .int .i64 (Agg.give (Agg.ok 9 ⟨x, y, z⟩) ⟨x, y, z⟩).1.z], .bool (Agg.give (Agg.ok 9 ⟨x, y, z⟩) ⟨x, y, z⟩).2]) ∧ Below w.heap.size w w' := by
  cases ha : Agg.ok 9 ⟨x, y, z⟩
  all_goals
    go_enter Try.func69, Try.ntmps69
    go_wp2_with (go_at_call 167; refine (valid_9 _ _ _ _).mono ?_; rintro e w1 ⟨rfl, hb1⟩; obtain ⟨hc1, hf1⟩ := bcell hb1; obtain ⟨hz0, hz1⟩ : w.heap.size < w1.heap.size ∧ w.heap.size + 1 < w1.heap.size := (by have hzz := hb1.size; (try simp at hzz); omega); have hB1 : Below w.heap.size w w1 := Below.trans (by go_grown) (hb1.mono (by first | (simp; done) | (simp; omega) | omega)); clear hb1)
    refine bodyPost_ret (by simp [results, Try.results69, go_sem, *]; try rfl) rfl ?_
    exact ⟨ret_agg_bool (by simp [Agg.give, Agg.zero]) (by simp [Agg.give, Agg.zero]) (by simp [Agg.give, Agg.zero]) (by simp [Agg.give]), (by first | (go_grown; done) | (refine below_drewN ?_ _; go_grown; done) | (refine (below_drewN _ ?_); go_grown; done))⟩







theorem checked_10 (x y z : Int) (w : World) :
    Calls Try.prog 69 #[.iface 132 (.agg #[]), .agg #[.int .i64 x, .int .i64 y, .int .i64 z]] w fun e w' => e = .returned (.tuple #[.agg #[.int .i64 (Agg.give (Agg.ok 10 ⟨x, y, z⟩) ⟨x, y, z⟩).1.x, .int .i64 (Agg.give (Agg.ok 10 ⟨x, y, z⟩) ⟨x, y, z⟩).1.y, .int .i64 (Agg.give (Agg.ok 10 ⟨x, y, z⟩) ⟨x, y, z⟩).1.z], .bool (Agg.give (Agg.ok 10 ⟨x, y, z⟩) ⟨x, y, z⟩).2]) ∧ Below w.heap.size w w' := by
  cases ha : Agg.ok 10 ⟨x, y, z⟩
  all_goals
    go_enter Try.func69, Try.ntmps69
    go_wp2_with (go_at_call 173; refine (valid_10 _ _ _ _).mono ?_; rintro e w1 ⟨rfl, hb1⟩; obtain ⟨hc1, hf1⟩ := bcell hb1; obtain ⟨hz0, hz1⟩ : w.heap.size < w1.heap.size ∧ w.heap.size + 1 < w1.heap.size := (by have hzz := hb1.size; (try simp at hzz); omega); have hB1 : Below w.heap.size w w1 := Below.trans (by go_grown) (hb1.mono (by first | (simp; done) | (simp; omega) | omega)); clear hb1)
    refine bodyPost_ret (by simp [results, Try.results69, go_sem, *]; try rfl) rfl ?_
    exact ⟨ret_agg_bool (by simp [Agg.give, Agg.zero]) (by simp [Agg.give, Agg.zero]) (by simp [Agg.give, Agg.zero]) (by simp [Agg.give]), (by first | (go_grown; done) | (refine below_drewN ?_ _; go_grown; done) | (refine (below_drewN _ ?_); go_grown; done))⟩







end Go.Proofs.Ytehfijijapfomaa
