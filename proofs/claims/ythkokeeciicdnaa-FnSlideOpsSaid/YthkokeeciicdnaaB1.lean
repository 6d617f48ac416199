/-
  The exported functions of chapter 1 at some kinds, each against plain mathematics.
-/
import Derived.Test.YthkokeeciicdnaaMa
import Derived.Test.YthkokeeciicdnaaA1
namespace Go.Proofs.Ythkokeeciicdnaa
open Go.RowKit
set_option linter.unusedSimpArgs false


theorem kindValid_1 (w : World) : Calls Try.prog 24 #[.int .i64 1] w fun e w' => e = .returned (.bool true) ∧ w = w' := by
  go_enter Try.func24, Try.ntmps24
  go_wp2_with (go_at_call 27; refine (kindOf_1 _).mono ?_; rintro e w1 ⟨rfl, rfl⟩)
  go_returns
  exact ⟨rfl, rfl⟩



theorem unitOf_1 (w : World) :
    Calls Try.prog 11 #[.int .i64 1] w fun e w' => e = .returned (.tuple #[.agg #[.int .i64 (Agg.aUnit 1).1.x, .int .i64 (Agg.aUnit 1).1.y, .int .i64 (Agg.aUnit 1).1.z], .bool (Agg.aUnit 1).2]) ∧ Below w.heap.size w w' := by
  have e : Agg.aUnit 1 = (Agg.unit 1, true) := by simp [Agg.aUnit, Agg.give, Agg.isKind]
  rw [e]
  go_enter Try.func11, Try.ntmps11
  go_wp2_with (first | (go_at_call 27; refine (kindOf_1 _).mono ?_; rintro e w1 ⟨rfl, rfl⟩) | (go_at_call 82; refine (unit_1 _).mono ?_; rintro e w1 ⟨rfl, hb1⟩; obtain ⟨hc1, hf1⟩ := bcell hb1; obtain hz0 : w.heap.size < w1.heap.size := (by have hzz := hb1.size; (try simp at hzz); omega); have hB1 : Below w.heap.size w w1 := Below.trans (by go_grown) (hb1.mono (by first | (simp; done) | (simp; omega) | omega)); clear hb1))
  refine bodyPost_ret (by simp [results, Try.results11, go_sem, *]; try rfl) rfl ?_
  exact ⟨rfl, (by first | (go_grown; done) | (refine below_drewN ?_ _; go_grown; done) | (refine (below_drewN _ ?_); go_grown; done))⟩




theorem kindValid_2 (w : World) : Calls Try.prog 24 #[.int .i64 2] w fun e w' => e = .returned (.bool true) ∧ w = w' := by
  go_enter Try.func24, Try.ntmps24
  go_wp2_with (go_at_call 27; refine (kindOf_2 _).mono ?_; rintro e w1 ⟨rfl, rfl⟩)
  go_returns
  exact ⟨rfl, rfl⟩



theorem unitOf_2 (w : World) :
    Calls Try.prog 11 #[.int .i64 2] w fun e w' => e = .returned (.tuple #[.agg #[.int .i64 (Agg.aUnit 2).1.x, .int .i64 (Agg.aUnit 2).1.y, .int .i64 (Agg.aUnit 2).1.z], .bool (Agg.aUnit 2).2]) ∧ Below w.heap.size w w' := by
  have e : Agg.aUnit 2 = (Agg.unit 2, true) := by simp [Agg.aUnit, Agg.give, Agg.isKind]
  rw [e]
  go_enter Try.func11, Try.ntmps11
  go_wp2_with (first | (go_at_call 27; refine (kindOf_2 _).mono ?_; rintro e w1 ⟨rfl, rfl⟩) | (go_at_call 88; refine (unit_2 _).mono ?_; rintro e w1 ⟨rfl, hb1⟩; obtain ⟨hc1, hf1⟩ := bcell hb1; obtain hz0 : w.heap.size < w1.heap.size := (by have hzz := hb1.size; (try simp at hzz); omega); have hB1 : Below w.heap.size w w1 := Below.trans (by go_grown) (hb1.mono (by first | (simp; done) | (simp; omega) | omega)); clear hb1))
  refine bodyPost_ret (by simp [results, Try.results11, go_sem, *]; try rfl) rfl ?_
  exact ⟨rfl, (by first | (go_grown; done) | (refine below_drewN ?_ _; go_grown; done) | (refine (below_drewN _ ?_); go_grown; done))⟩




theorem kindValid_3 (w : World) : Calls Try.prog 24 #[.int .i64 3] w fun e w' => e = .returned (.bool true) ∧ w = w' := by
  go_enter Try.func24, Try.ntmps24
  go_wp2_with (go_at_call 27; refine (kindOf_3 _).mono ?_; rintro e w1 ⟨rfl, rfl⟩)
  go_returns
  exact ⟨rfl, rfl⟩



theorem unitOf_3 (w : World) :
    Calls Try.prog 11 #[.int .i64 3] w fun e w' => e = .returned (.tuple #[.agg #[.int .i64 (Agg.aUnit 3).1.x, .int .i64 (Agg.aUnit 3).1.y, .int .i64 (Agg.aUnit 3).1.z], .bool (Agg.aUnit 3).2]) ∧ Below w.heap.size w w' := by
  have e : Agg.aUnit 3 = (Agg.unit 3, true) := by simp [Agg.aUnit, Agg.give, Agg.isKind]
  rw [e]
  go_enter Try.func11, Try.ntmps11
  go_wp2_with (first | (go_at_call 27; refine (kindOf_3 _).mono ?_; rintro e w1 ⟨rfl, rfl⟩) | (go_at_call 95; refine (unit_3 _).mono ?_; rintro e w1 ⟨rfl, hb1⟩; obtain ⟨hc1, hf1⟩ := bcell hb1; obtain hz0 : w.heap.size < w1.heap.size := (by have hzz := hb1.size; (try simp at hzz); omega); have hB1 : Below w.heap.size w w1 := Below.trans (by go_grown) (hb1.mono (by first | (simp; done) | (simp; omega) | omega)); clear hb1))
  refine bodyPost_ret (by simp [results, Try.results11, go_sem, *]; try rfl) rfl ?_
  exact ⟨rfl, (by first | (go_grown; done) | (refine below_drewN ?_ _; go_grown; done) | (refine (below_drewN _ ?_); go_grown; done))⟩


end Go.Proofs.Ythkokeeciicdnaa
