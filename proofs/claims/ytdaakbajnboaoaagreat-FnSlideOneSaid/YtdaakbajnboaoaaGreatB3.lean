/-
  The exported functions of chapter 1 at some kinds, each against plain mathematics.
-/
import Derived.Test.YtdaakbajnboaoaaGreatMath3
import Derived.Test.YtdaakbajnboaoaaGreatA2
namespace Go.Proofs.YtdaakbajnboaoaaGreat
open Go.RowKit
set_option linter.unusedSimpArgs false


theorem kindValid_7 (w : World) : Calls Tryz.prog 22 #[.int .i64 7] w fun e w' => e = .returned (.bool true) ∧ w = w' := by
  go_enter Tryz.func22, Tryz.ntmps22
  go_wp2_with (go_at_call 30; refine (kindOf_7 _).mono ?_; rintro e w1 ⟨rfl, rfl⟩)
  go_returns
  exact ⟨rfl, rfl⟩


set_option maxHeartbeats 1000000 in
theorem liftItem_7 (n : Int) (w : World) :
    Calls Tryz.prog 19 #[.int .i64 7, .int .i64 n] w fun e w' => e = .returned (.tuple #[.agg #[.int .i64 (Agg.aLift 7 n).1.x, .int .i64 (Agg.aLift 7 n).1.y, .int .i64 (Agg.aLift 7 n).1.z], .bool (Agg.aLift 7 n).2]) ∧ Below w.heap.size w w' := by
  by_cases hn : 0 ≤ n ∧ n ≤ 96
  · have e : Agg.aLift 7 n = (Agg.lift 7 n, true) := by simp [Agg.aLift, Agg.give, Agg.isKind, Agg.isItem, hn]
    have hi : Agg.isItem n = true := by simp [Agg.isItem, hn]
    rw [e]
    obtain ⟨hn0, hn1⟩ := hn
    go_enter Tryz.func19, Tryz.ntmps19
    go_wp2_with (first | (go_at_call 30; refine (kindOf_7 _).mono ?_; rintro e w1 ⟨rfl, rfl⟩) | (go_at_call 37; refine (isItem_any _ _).mono ?_; rintro e w1 ⟨rfl, rfl⟩) | (go_at_call 115; refine (lift_7 _ _ (by omega) (by omega)).mono ?_; rintro e w1 ⟨rfl, hb1⟩; obtain ⟨hc1, hf1⟩ := bcell hb1; obtain hz0 : w.heap.size < w1.heap.size := (by have hzz := hb1.size; (try simp at hzz); omega); have hB1 : Below w.heap.size w w1 := Below.trans (by go_grown) (hb1.mono (by first | (simp; done) | (simp; omega) | omega)); clear hb1))
    refine bodyPost_ret (by simp [results, Tryz.results19, go_sem, *]; try rfl) rfl ?_
    exact ⟨rfl, (by first | (go_grown; done) | (refine below_drewN ?_ _; go_grown; done) | (refine (below_drewN _ ?_); go_grown; done))⟩
  · have e : Agg.aLift 7 n = (Agg.zero, false) := by simp [Agg.aLift, Agg.give, Agg.isKind, Agg.isItem, hn]
    have hi : Agg.isItem n = false := by simp only [Agg.isItem, hn, decide_false]
    rw [e]
    clear hn
    go_enter Tryz.func19, Tryz.ntmps19
    go_wp2_with (first | (go_at_call 30; refine (kindOf_7 _).mono ?_; rintro e w1 ⟨rfl, rfl⟩) | (go_at_call 37; refine (isItem_any _ _).mono ?_; rintro e w1 ⟨rfl, rfl⟩))
    refine bodyPost_ret (by simp [results, Tryz.results19, go_sem, *]; try rfl) rfl ?_
    exact ⟨ret_agg_bool rfl rfl rfl rfl, (by first | (go_grown; done) | (refine below_drewN ?_ _; go_grown; done) | (refine (below_drewN _ ?_); go_grown; done))⟩



theorem lowerValue_7 (x y z : Int) (w : World) :
    Calls Tryz.prog 14 #[.int .i64 7, .agg #[.int .i64 x, .int .i64 y, .int .i64 z]] w fun e w' => e = .returned (.tuple #[.int .i64 (Agg.aLow 7 ⟨x, y, z⟩).1, .bool (Agg.aLow 7 ⟨x, y, z⟩).2]) ∧ Below w.heap.size w w' := by
  cases ha : Agg.ok 7 ⟨x, y, z⟩
  · have e : Agg.aLow 7 ⟨x, y, z⟩ = (0, false) := by simp [Agg.aLow, Agg.valid, ha]
    rw [e]
    go_enter Tryz.func14, Tryz.ntmps14
    go_wp2_with (first | (go_at_call 30; refine (kindOf_7 _).mono ?_; rintro e w1 ⟨rfl, rfl⟩) | (go_at_call 118; refine (valid_7 _ _ _ _).mono ?_; rintro e w1 ⟨rfl, hb1⟩; obtain ⟨hc1, hf1⟩ := bcell hb1; obtain hz0 : w.heap.size < w1.heap.size := (by have hzz := hb1.size; (try simp at hzz); omega); have hB1 : Below w.heap.size w w1 := Below.trans (by go_grown) (hb1.mono (by first | (simp; done) | (simp; omega) | omega)); clear hb1))
    go_returns
    exact ⟨rfl, (by first | (go_grown; done) | (refine below_drewN ?_ _; go_grown; done) | (refine (below_drewN _ ?_); go_grown; done))⟩
  · have e : Agg.aLow 7 ⟨x, y, z⟩ = Agg.low 7 ⟨x, y, z⟩ := Agg.aLow_of (by decide) ha
    rw [e]
    go_enter Tryz.func14, Tryz.ntmps14
    go_wp2_with (first | (go_at_call 30; refine (kindOf_7 _).mono ?_; rintro e w1 ⟨rfl, rfl⟩) | (go_at_call 118; refine (valid_7 _ _ _ _).mono ?_; rintro e w1 ⟨rfl, hb1⟩; obtain ⟨hc1, hf1⟩ := bcell hb1; obtain hz0 : w.heap.size < w1.heap.size := (by have hzz := hb1.size; (try simp at hzz); omega); have hB1 : Below w.heap.size w w1 := Below.trans (by go_grown) (hb1.mono (by first | (simp; done) | (simp; omega) | omega)); clear hb1) | (go_at_call 116; refine (lower_7 _ _ _ _ ha).mono ?_; rintro e w1 ⟨rfl, hb1⟩; obtain ⟨hc1, hf1⟩ := bcell hb1; obtain hz0 : w.heap.size < w1.heap.size := (by have hzz := hb1.size; (try simp at hzz); omega); have hB1 : Below w.heap.size w w1 := Below.trans (by go_grown) (hb1.mono (by first | (simp; done) | (simp; omega) | omega)); clear hb1))
    go_returns
    exact ⟨rfl, (by first | (go_grown; done) | (refine below_drewN ?_ _; go_grown; done) | (refine (below_drewN _ ?_); go_grown; done))⟩


theorem kindValid_8 (w : World) : Calls Tryz.prog 22 #[.int .i64 8] w fun e w' => e = .returned (.bool true) ∧ w = w' := by
  go_enter Tryz.func22, Tryz.ntmps22
  go_wp2_with (go_at_call 30; refine (kindOf_8 _).mono ?_; rintro e w1 ⟨rfl, rfl⟩)
  go_returns
  exact ⟨rfl, rfl⟩


set_option maxHeartbeats 1000000 in
theorem liftItem_8 (n : Int) (w : World) :
    Calls Tryz.prog 19 #[.int .i64 8, .int .i64 n] w fun e w' => e = .returned (.tuple #[.agg #[.int .i64 (Agg.aLift 8 n).1.x, .int .i64 (Agg.aLift 8 n).1.y, .int .i64 (Agg.aLift 8 n).1.z], .bool (Agg.aLift 8 n).2]) ∧ Below w.heap.size w w' := by
  by_cases hn : 0 ≤ n ∧ n ≤ 96
  · have e : Agg.aLift 8 n = (Agg.lift 8 n, true) := by simp [Agg.aLift, Agg.give, Agg.isKind, Agg.isItem, hn]
    have hi : Agg.isItem n = true := by simp [Agg.isItem, hn]
    rw [e]
    obtain ⟨hn0, hn1⟩ := hn
    go_enter Tryz.func19, Tryz.ntmps19
    go_wp2_with (first | (go_at_call 30; refine (kindOf_8 _).mono ?_; rintro e w1 ⟨rfl, rfl⟩) | (go_at_call 37; refine (isItem_any _ _).mono ?_; rintro e w1 ⟨rfl, rfl⟩) | (go_at_call 121; refine (lift_8 _ _ (by omega) (by omega)).mono ?_; rintro e w1 ⟨rfl, hb1⟩; obtain ⟨hc1, hf1⟩ := bcell hb1; obtain hz0 : w.heap.size < w1.heap.size := (by have hzz := hb1.size; (try simp at hzz); omega); have hB1 : Below w.heap.size w w1 := Below.trans (by go_grown) (hb1.mono (by first | (simp; done) | (simp; omega) | omega)); clear hb1))
    refine bodyPost_ret (by simp [results, Tryz.results19, go_sem, *]; try rfl) rfl ?_
    exact ⟨rfl, (by first | (go_grown; done) | (refine below_drewN ?_ _; go_grown; done) | (refine (below_drewN _ ?_); go_grown; done))⟩
  · have e : Agg.aLift 8 n = (Agg.zero, false) := by simp [Agg.aLift, Agg.give, Agg.isKind, Agg.isItem, hn]
    have hi : Agg.isItem n = false := by simp only [Agg.isItem, hn, decide_false]
    rw [e]
    clear hn
    go_enter Tryz.func19, Tryz.ntmps19
    go_wp2_with (first | (go_at_call 30; refine (kindOf_8 _).mono ?_; rintro e w1 ⟨rfl, rfl⟩) | (go_at_call 37; refine (isItem_any _ _).mono ?_; rintro e w1 ⟨rfl, rfl⟩))
    refine bodyPost_ret (by simp [results, Tryz.results19, go_sem, *]; try rfl) rfl ?_
    exact ⟨ret_agg_bool rfl rfl rfl rfl, (by first | (go_grown; done) | (refine below_drewN ?_ _; go_grown; done) | (refine (below_drewN _ ?_); go_grown; done))⟩



theorem lowerValue_8 (x y z : Int) (w : World) :
    Calls Tryz.prog 14 #[.int .i64 8, .agg #[.int .i64 x, .int .i64 y, .int .i64 z]] w fun e w' => e = .returned (.tuple #[.int .i64 (Agg.aLow 8 ⟨x, y, z⟩).1, .bool (Agg.aLow 8 ⟨x, y, z⟩).2]) ∧ Below w.heap.size w w' := by
  cases ha : Agg.ok 8 ⟨x, y, z⟩
  · have e : Agg.aLow 8 ⟨x, y, z⟩ = (0, false) := by simp [Agg.aLow, Agg.valid, ha]
    rw [e]
    go_enter Tryz.func14, Tryz.ntmps14
    go_wp2_with (first | (go_at_call 30; refine (kindOf_8 _).mono ?_; rintro e w1 ⟨rfl, rfl⟩) | (go_at_call 124; refine (valid_8 _ _ _ _).mono ?_; rintro e w1 ⟨rfl, hb1⟩; obtain ⟨hc1, hf1⟩ := bcell hb1; obtain hz0 : w.heap.size < w1.heap.size := (by have hzz := hb1.size; (try simp at hzz); omega); have hB1 : Below w.heap.size w w1 := Below.trans (by go_grown) (hb1.mono (by first | (simp; done) | (simp; omega) | omega)); clear hb1))
    go_returns
    exact ⟨rfl, (by first | (go_grown; done) | (refine below_drewN ?_ _; go_grown; done) | (refine (below_drewN _ ?_); go_grown; done))⟩
  · have e : Agg.aLow 8 ⟨x, y, z⟩ = Agg.low 8 ⟨x, y, z⟩ := Agg.aLow_of (by decide) ha
    rw [e]
    go_enter Tryz.func14, Tryz.ntmps14
    go_wp2_with (first | (go_at_call 30; refine (kindOf_8 _).mono ?_; rintro e w1 ⟨rfl, rfl⟩) | (go_at_call 124; refine (valid_8 _ _ _ _).mono ?_; rintro e w1 ⟨rfl, hb1⟩; obtain ⟨hc1, hf1⟩ := bcell hb1; obtain hz0 : w.heap.size < w1.heap.size := (by have hzz := hb1.size; (try simp at hzz); omega); have hB1 : Below w.heap.size w w1 := Below.trans (by go_grown) (hb1.mono (by first | (simp; done) | (simp; omega) | omega)); clear hb1) | (go_at_call 122; refine (lower_8 _ _ _ _ ha).mono ?_; rintro e w1 ⟨rfl, hb1⟩; obtain ⟨hc1, hf1⟩ := bcell hb1; obtain hz0 : w.heap.size < w1.heap.size := (by have hzz := hb1.size; (try simp at hzz); omega); have hB1 : Below w.heap.size w w1 := Below.trans (by go_grown) (hb1.mono (by first | (simp; done) | (simp; omega) | omega)); clear hb1))
    go_returns
    exact ⟨rfl, (by first | (go_grown; done) | (refine below_drewN ?_ _; go_grown; done) | (refine (below_drewN _ ?_); go_grown; done))⟩
end Go.Proofs.YtdaakbajnboaoaaGreat
