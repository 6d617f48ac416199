/-
  The exported functions of chapter 1 at some kinds, each against plain mathematics.
-/
import Derived.Test.YthkokeeciicdnaaMa
import Derived.Test.YthkokeeciicdnaaA1
import Derived.Test.YthkokeeciicdnaaA2
namespace Go.Proofs.Ythkokeeciicdnaa
open Go.RowKit
set_option linter.unusedSimpArgs false


theorem kindValid_4 (w : World) : Calls Try.prog 24 #[.int .i64 4] w fun e w' => e = .returned (.bool true) ∧ w = w' := by
  go_enter Try.func24, Try.ntmps24
  go_wp2_with (go_at_call 27; refine (kindOf_4 _).mono ?_; rintro e w1 ⟨rfl, rfl⟩)
  go_returns
  exact ⟨rfl, rfl⟩



theorem unitOf_4 (w : World) :
    Calls Try.prog 11 #[.int .i64 4] w fun e w' => e = .returned (.tuple #[.agg #[.int .i64 (Agg.aUnit 4).1.x, .int .i64 (Agg.aUnit 4).1.y, .int .i64 (Agg.aUnit 4).1.z], .bool (Agg.aUnit 4).2]) ∧ Below w.heap.size w w' := by
  have e : Agg.aUnit 4 = (Agg.unit 4, true) := by simp [Agg.aUnit, Agg.give, Agg.isKind]
  rw [e]
  go_enter Try.func11, Try.ntmps11
  go_wp2_with (first | (go_at_call 27; refine (kindOf_4 _).mono ?_; rintro e w1 ⟨rfl, rfl⟩) | (go_at_call 103; refine (unit_4 _).mono ?_; rintro e w1 ⟨rfl, hb1⟩; obtain ⟨hc1, hf1⟩ := bcell hb1; obtain hz0 : w.heap.size < w1.heap.size := (by have hzz := hb1.size; (try simp at hzz); omega); have hB1 : Below w.heap.size w w1 := Below.trans (by go_grown) (hb1.mono (by first | (simp; done) | (simp; omega) | omega)); clear hb1))
  refine bodyPost_ret (by simp [results, Try.results11, go_sem, *]; try rfl) rfl ?_
  exact ⟨rfl, (by first | (go_grown; done) | (refine below_drewN ?_ _; go_grown; done) | (refine (below_drewN _ ?_); go_grown; done))⟩




theorem kindValid_5 (w : World) : Calls Try.prog 24 #[.int .i64 5] w fun e w' => e = .returned (.bool true) ∧ w = w' := by
  go_enter Try.func24, Try.ntmps24
  go_wp2_with (go_at_call 27; refine (kindOf_5 _).mono ?_; rintro e w1 ⟨rfl, rfl⟩)
  go_returns
  exact ⟨rfl, rfl⟩



theorem unitOf_5 (w : World) :
    Calls Try.prog 11 #[.int .i64 5] w fun e w' => e = .returned (.tuple #[.agg #[.int .i64 (Agg.aUnit 5).1.x, .int .i64 (Agg.aUnit 5).1.y, .int .i64 (Agg.aUnit 5).1.z], .bool (Agg.aUnit 5).2]) ∧ Below w.heap.size w w' := by
  have e : Agg.aUnit 5 = (Agg.unit 5, true) := by simp [Agg.aUnit, Agg.give, Agg.isKind]
  rw [e]
  go_enter Try.func11, Try.ntmps11
  go_wp2_with (first | (go_at_call 27; refine (kindOf_5 _).mono ?_; rintro e w1 ⟨rfl, rfl⟩) | (go_at_call 111; refine (unit_5 _).mono ?_; rintro e w1 ⟨rfl, hb1⟩; obtain ⟨hc1, hf1⟩ := bcell hb1; obtain hz0 : w.heap.size < w1.heap.size := (by have hzz := hb1.size; (try simp at hzz); omega); have hB1 : Below w.heap.size w w1 := Below.trans (by go_grown) (hb1.mono (by first | (simp; done) | (simp; omega) | omega)); clear hb1))
  refine bodyPost_ret (by simp [results, Try.results11, go_sem, *]; try rfl) rfl ?_
  exact ⟨rfl, (by first | (go_grown; done) | (refine below_drewN ?_ _; go_grown; done) | (refine (below_drewN _ ?_); go_grown; done))⟩




theorem kindValid_6 (w : World) : Calls Try.prog 24 #[.int .i64 6] w fun e w' => e = .returned (.bool true) ∧ w = w' := by
  go_enter Try.func24, Try.ntmps24
  go_wp2_with (go_at_call 27; refine (kindOf_6 _).mono ?_; rintro e w1 ⟨rfl, rfl⟩)
  go_returns
  exact ⟨rfl, rfl⟩



theorem unitOf_6 (w : World) :
    Calls Try.prog 11 #[.int .i64 6] w fun e w' => e = .returned (.tuple #[.agg #[.int .i64 (Agg.aUnit 6).1.x, .int .i64 (Agg.aUnit 6).1.y, .int .i64 (Agg.aUnit 6).1.z], .bool (Agg.aUnit 6).2]) ∧ Below w.heap.size w w' := by
  have e : Agg.aUnit 6 = (Agg.unit 6, true) := by simp [Agg.aUnit, Agg.give, Agg.isKind]
  rw [e]
  go_enter Try.func11, Try.ntmps11
  go_wp2_with (first | (go_at_call 27; refine (kindOf_6 _).mono ?_; rintro e w1 ⟨rfl, rfl⟩) | (go_at_call 119; refine (unit_6 _).mono ?_; rintro e w1 ⟨rfl, hb1⟩; obtain ⟨hc1, hf1⟩ := bcell hb1; obtain hz0 : w.heap.size < w1.heap.size := (by have hzz := hb1.size; (try simp at hzz); omega); have hB1 : Below w.heap.size w w1 := Below.trans (by go_grown) (hb1.mono (by first | (simp; done) | (simp; omega) | omega)); clear hb1))
  refine bodyPost_ret (by simp [results, Try.results11, go_sem, *]; try rfl) rfl ?_
  exact ⟨rfl, (by first | (go_grown; done) | (refine below_drewN ?_ _; go_grown; done) | (refine (below_drewN _ ?_); go_grown; done))⟩


end Go.Proofs.Ythkokeeciicdnaa
