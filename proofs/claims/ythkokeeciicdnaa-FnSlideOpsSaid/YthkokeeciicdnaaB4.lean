/-
  The exported functions of chapter 1 at some kinds, each against plain mathematics.
-/
import Derived.Test.YthkokeeciicdnaaMa
import Derived.Test.YthkokeeciicdnaaA3
namespace Go.Proofs.Ythkokeeciicdnaa
open Go.RowKit
set_option linter.unusedSimpArgs false


theorem kindValid_9 (w : World) : Calls Try.prog 24 #[.int .i64 9] w fun e w' => e = .returned (.bool true) ∧ w = w' := by
  go_enter Try.func24, Try.ntmps24
  go_wp2_with (go_at_call 27; refine (kindOf_9 _).mono ?_; rintro e w1 ⟨rfl, rfl⟩)
  go_returns
  exact ⟨rfl, rfl⟩



theorem unitOf_9 (w : World) :
    Calls Try.prog 11 #[.int .i64 9] w fun e w' => e = .returned (.tuple #[.agg #[.int .i64 (Agg.aUnit 9).1.x, .int .i64 (Agg.aUnit 9).1.y, .int .i64 (Agg.aUnit 9).1.z], .bool (Agg.aUnit 9).2]) ∧ Below w.heap.size w w' := by
  have e : Agg.aUnit 9 = (Agg.unit 9, true) := by simp [Agg.aUnit, Agg.give, Agg.isKind]
  rw [e]
  go_enter Try.func11, Try.ntmps11
  go_wp2_with (first | (go_at_call 27; refine (kindOf_9 _).mono ?_; rintro e w1 ⟨rfl, rfl⟩) | (go_at_call 137; refine (unit_9 _).mono ?_; rintro e w1 ⟨rfl, hb1⟩; obtain ⟨hc1, hf1⟩ := bcell hb1; obtain hz0 : w.heap.size < w1.heap.size := (by have hzz := hb1.size; (try simp at hzz); omega); have hB1 : Below w.heap.size w w1 := Below.trans (by go_grown) (hb1.mono (by first | (simp; done) | (simp; omega) | omega)); clear hb1))
  refine bodyPost_ret (by simp [results, Try.results11, go_sem, *]; try rfl) rfl ?_
  exact ⟨rfl, (by first | (go_grown; done) | (refine below_drewN ?_ _; go_grown; done) | (refine (below_drewN _ ?_); go_grown; done))⟩




theorem kindValid_10 (w : World) : Calls Try.prog 24 #[.int .i64 10] w fun e w' => e = .returned (.bool true) ∧ w = w' := by
  go_enter Try.func24, Try.ntmps24
  go_wp2_with (go_at_call 27; refine (kindOf_10 _).mono ?_; rintro e w1 ⟨rfl, rfl⟩)
  go_returns
  exact ⟨rfl, rfl⟩



theorem unitOf_10 (w : World) :
    Calls Try.prog 11 #[.int .i64 10] w fun e w' => e = .returned (.tuple #[.agg #[.int .i64 (Agg.aUnit 10).1.x, .int .i64 (Agg.aUnit 10).1.y, .int .i64 (Agg.aUnit 10).1.z], .bool (Agg.aUnit 10).2]) ∧ Below w.heap.size w w' := by
  have e : Agg.aUnit 10 = (Agg.unit 10, true) := by simp [Agg.aUnit, Agg.give, Agg.isKind]
  rw [e]
  go_enter Try.func11, Try.ntmps11
  go_wp2_with (first | (go_at_call 27; refine (kindOf_10 _).mono ?_; rintro e w1 ⟨rfl, rfl⟩) | (go_at_call 143; refine (unit_10 _).mono ?_; rintro e w1 ⟨rfl, hb1⟩; obtain ⟨hc1, hf1⟩ := bcell hb1; obtain hz0 : w.heap.size < w1.heap.size := (by have hzz := hb1.size; (try simp at hzz); omega); have hB1 : Below w.heap.size w w1 := Below.trans (by go_grown) (hb1.mono (by first | (simp; done) | (simp; omega) | omega)); clear hb1))
  refine bodyPost_ret (by simp [results, Try.results11, go_sem, *]; try rfl) rfl ?_
  exact ⟨rfl, (by first | (go_grown; done) | (refine below_drewN ?_ _; go_grown; done) | (refine (below_drewN _ ?_); go_grown; done))⟩


end Go.Proofs.Ythkokeeciicdnaa
