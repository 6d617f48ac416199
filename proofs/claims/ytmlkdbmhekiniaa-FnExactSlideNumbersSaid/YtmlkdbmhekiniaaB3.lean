/-
  The exported functions of chapter 1 at some kinds, each against plain mathematics.
-/
import Derived.Test.YtmlkdbmhekiniaaMa
import Derived.Test.YtmlkdbmhekiniaaA2
namespace Go.Proofs.Ytmlkdbmhekiniaa
open Go.RowKit
set_option linter.unusedSimpArgs false


theorem kindValid_7 (w : World) : Calls Try.prog 17 #[.int .i64 7] w fun e w' => e = .returned (.bool true) ∧ w = w' := by
  go_enter Try.func17, Try.ntmps17
  go_wp2_with (go_at_call 29; refine (kindOf_7 _).mono ?_; rintro e w1 ⟨rfl, rfl⟩)
  go_returns
  exact ⟨rfl, rfl⟩





theorem lowerValue_7 (x y z : Int) (w : World) :
    Calls Try.prog 37 #[.int .i64 7, .agg #[.int .i64 x, .int .i64 y, .int .i64 z]] w fun e w' => e = .returned (.tuple #[.int .i64 (Agg.aLow 7 ⟨x, y, z⟩).1, .bool (Agg.aLow 7 ⟨x, y, z⟩).2]) ∧ Below w.heap.size w w' := by
  cases ha : Agg.ok 7 ⟨x, y, z⟩
  · have e : Agg.aLow 7 ⟨x, y, z⟩ = (0, false) := by simp [Agg.aLow, Agg.valid, ha]
    rw [e]
    go_enter Try.func37, Try.ntmps37
    go_wp2_with (first | (go_at_call 29; refine (kindOf_7 _).mono ?_; rintro e w1 ⟨rfl, rfl⟩) | (go_at_call 101; refine (valid_7 _ _ _ _).mono ?_; rintro e w1 ⟨rfl, hb1⟩; obtain ⟨hc1, hf1⟩ := bcell hb1; obtain hz0 : w.heap.size < w1.heap.size := (by have hzz := hb1.size; (try simp at hzz); omega); have hB1 : Below w.heap.size w w1 := Below.trans (by go_grown) (hb1.mono (by first | (simp; done) | (simp; omega) | omega)); clear hb1))
    go_returns
    exact ⟨rfl, (by first | (go_grown; done) | (refine below_drewN ?_ _; go_grown; done) | (refine (below_drewN _ ?_); go_grown; done))⟩
  · have e : Agg.aLow 7 ⟨x, y, z⟩ = Agg.low 7 ⟨x, y, z⟩ := Agg.aLow_of (by decide) ha
    rw [e]
    go_enter Try.func37, Try.ntmps37
    go_wp2_with (first | (go_at_call 29; refine (kindOf_7 _).mono ?_; rintro e w1 ⟨rfl, rfl⟩) | (go_at_call 101; refine (valid_7 _ _ _ _).mono ?_; rintro e w1 ⟨rfl, hb1⟩; obtain ⟨hc1, hf1⟩ := bcell hb1; obtain hz0 : w.heap.size < w1.heap.size := (by have hzz := hb1.size; (try simp at hzz); omega); have hB1 : Below w.heap.size w w1 := Below.trans (by go_grown) (hb1.mono (by first | (simp; done) | (simp; omega) | omega)); clear hb1) | (go_at_call 99; refine (lower_7 _ _ _ _ ha).mono ?_; rintro e w1 ⟨rfl, hb1⟩; obtain ⟨hc1, hf1⟩ := bcell hb1; obtain hz0 : w.heap.size < w1.heap.size := (by have hzz := hb1.size; (try simp at hzz); omega); have hB1 : Below w.heap.size w w1 := Below.trans (by go_grown) (hb1.mono (by first | (simp; done) | (simp; omega) | omega)); clear hb1))
    go_returns
    exact ⟨rfl, (by first | (go_grown; done) | (refine below_drewN ?_ _; go_grown; done) | (refine (below_drewN _ ?_); go_grown; done))⟩


theorem kindValid_8 (w : World) : Calls Try.prog 17 #[.int .i64 8] w fun e w' => e = .returned (.bool true) ∧ w = w' := by
  go_enter Try.func17, Try.ntmps17
  go_wp2_with (go_at_call 29; refine (kindOf_8 _).mono ?_; rintro e w1 ⟨rfl, rfl⟩)
  go_returns
  exact ⟨rfl, rfl⟩





theorem lowerValue_8 (x y z : Int) (w : World) :
    Calls Try.prog 37 #[.int .i64 8, .agg #[.int .i64 x, .int .i64 y, .int .i64 z]] w fun e w' => e = .returned (.tuple #[.int .i64 (Agg.aLow 8 ⟨x, y, z⟩).1, .bool (Agg.aLow 8 ⟨x, y, z⟩).2]) ∧ Below w.heap.size w w' := by
  cases ha : Agg.ok 8 ⟨x, y, z⟩
  · have e : Agg.aLow 8 ⟨x, y, z⟩ = (0, false) := by simp [Agg.aLow, Agg.valid, ha]
    rw [e]
    go_enter Try.func37, Try.ntmps37
    go_wp2_with (first | (go_at_call 29; refine (kindOf_8 _).mono ?_; rintro e w1 ⟨rfl, rfl⟩) | (go_at_call 107; refine (valid_8 _ _ _ _).mono ?_; rintro e w1 ⟨rfl, hb1⟩; obtain ⟨hc1, hf1⟩ := bcell hb1; obtain hz0 : w.heap.size < w1.heap.size := (by have hzz := hb1.size; (try simp at hzz); omega); have hB1 : Below w.heap.size w w1 := Below.trans (by go_grown) (hb1.mono (by first | (simp; done) | (simp; omega) | omega)); clear hb1))
    go_returns
    exact ⟨rfl, (by first | (go_grown; done) | (refine below_drewN ?_ _; go_grown; done) | (refine (below_drewN _ ?_); go_grown; done))⟩
  · have e : Agg.aLow 8 ⟨x, y, z⟩ = Agg.low 8 ⟨x, y, z⟩ := Agg.aLow_of (by decide) ha
    rw [e]
    go_enter Try.func37, Try.ntmps37
    go_wp2_with (first | (go_at_call 29; refine (kindOf_8 _).mono ?_; rintro e w1 ⟨rfl, rfl⟩) | (go_at_call 107; refine (valid_8 _ _ _ _).mono ?_; rintro e w1 ⟨rfl, hb1⟩; obtain ⟨hc1, hf1⟩ := bcell hb1; obtain hz0 : w.heap.size < w1.heap.size := (by have hzz := hb1.size; (try simp at hzz); omega); have hB1 : Below w.heap.size w w1 := Below.trans (by go_grown) (hb1.mono (by first | (simp; done) | (simp; omega) | omega)); clear hb1) | (go_at_call 105; refine (lower_8 _ _ _ _ ha).mono ?_; rintro e w1 ⟨rfl, hb1⟩; obtain ⟨hc1, hf1⟩ := bcell hb1; obtain hz0 : w.heap.size < w1.heap.size := (by have hzz := hb1.size; (try simp at hzz); omega); have hB1 : Below w.heap.size w w1 := Below.trans (by go_grown) (hb1.mono (by first | (simp; done) | (simp; omega) | omega)); clear hb1))
    go_returns
    exact ⟨rfl, (by first | (go_grown; done) | (refine below_drewN ?_ _; go_grown; done) | (refine (below_drewN _ ?_); go_grown; done))⟩
end Go.Proofs.Ytmlkdbmhekiniaa
