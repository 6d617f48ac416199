/-
  The model's functions of chapter 1 at some kinds, each against plain mathematics.
-/
import Derived.Test.YtfmkjpbmaogjpaaGreatS0
import Derived.Test.YtfmkjpbmaogjpaaGreatMa
namespace Go.Proofs.YtfmkjpbmaogjpaaGreat
open Go.RowKit
set_option linter.unusedSimpArgs false
set_option linter.unusedVariables false
theorem s_kind_1 (w : World) : Calls Tryz.prog 64 #[.int .i64 1] w fun e w' => e = .returned (.bool true) ∧ w = w' := by
  go_enter Tryz.func64, Tryz.ntmps64
  go_wp2
  go_returns
  exact ⟨rfl, rfl⟩
set_option maxHeartbeats 1000000 in
theorem s_is_1 (x y z : Int) (w : World) :
    Calls Tryz.prog 58 #[.int .i64 1, .agg #[.int .i64 x, .int .i64 y, .int .i64 z]] w fun e w' => e = .returned (.bool (Agg.ok 1 ⟨x, y, z⟩)) ∧ Below w.heap.size w w' := by
  go_each [] => (go_enter Tryz.func58, Tryz.ntmps58; go_wp2; (all_goals (go_returns; exact ⟨ret_bool (by rw [Bool.eq_iff_iff]; simp [Agg.ok, *] <;> omega), (by first | (go_grown; done) | (refine below_drewN ?_ _; go_grown; done) | (refine (below_drewN _ ?_); go_grown; done))⟩)))


set_option maxHeartbeats 1000000 in
theorem s_valueValid_1 (x y z : Int) (w : World) :
    Calls Tryz.prog 56 #[.int .i64 1, .agg #[.int .i64 x, .int .i64 y, .int .i64 z]] w fun e w' => e = .returned (.bool (Agg.valid 1 ⟨x, y, z⟩)) ∧ Below w.heap.size w w' := by
  go_enter Tryz.func56, Tryz.ntmps56
  go_wp2_with (first | (go_at_call 64; refine (s_kind_1 _).mono ?_; rintro e w1 ⟨rfl, rfl⟩) | (go_at_call 58; refine (s_is_1 _ _ _ _).mono ?_; rintro e w1 ⟨rfl, hb1⟩; obtain ⟨hc1, hf1⟩ := bcell hb1; obtain hz0 : w.heap.size < w1.heap.size := (by have hzz := hb1.size; (try simp at hzz); omega); have hB1 : Below w.heap.size w w1 := Below.trans (by go_grown) (hb1.mono (by first | (simp; done) | (simp; omega) | omega)); clear hb1))
  go_returns
  exact ⟨ret_bool (by simp [Agg.valid, Agg.isKind]), (by first | (go_grown; done) | (refine below_drewN ?_ _; go_grown; done) | (refine (below_drewN _ ?_); go_grown; done))⟩

theorem s_unit_1 (w : World) :
    Calls Tryz.prog 87 #[.int .i64 1] w fun e w' => e = .returned (.agg #[.int .i64 (Agg.unit 1).x, .int .i64 (Agg.unit 1).y, .int .i64 (Agg.unit 1).z]) ∧ Below w.heap.size w w' := by
  go_enter Tryz.func87, Tryz.ntmps87
  go_wp2
  all_goals (go_returns; exact ⟨ret_agg (by simp [Agg.unit]) (by simp [Agg.unit]) (by simp [Agg.unit]), (by first | (go_grown; done) | (refine below_drewN ?_ _; go_grown; done) | (refine (below_drewN _ ?_); go_grown; done))⟩)


theorem s_lift_1 (n : Int) (w : World) (_h0 : 0 ≤ n) (_h1 : n ≤ 96) :
    Calls Tryz.prog 98 #[.int .i64 1, .int .i64 n] w fun e w' => e = .returned (.agg #[.int .i64 (Agg.lift 1 n).x, .int .i64 (Agg.lift 1 n).y, .int .i64 (Agg.lift 1 n).z]) ∧ Below w.heap.size w w' := by
  go_enter Tryz.func98, Tryz.ntmps98
  go_wp2
  all_goals (go_returns; exact ⟨ret_agg (by simp [Agg.lift] <;> omega) (by simp [Agg.lift] <;> omega) (by simp [Agg.lift] <;> omega), (by first | (go_grown; done) | (refine below_drewN ?_ _; go_grown; done) | (refine (below_drewN _ ?_); go_grown; done))⟩)


set_option maxHeartbeats 4000000 in
theorem s_combine_1 (ax ay az bx by' bz : Int) (w : World) (h : Agg.ok 1 ⟨ax, ay, az⟩ = true) (h' : Agg.ok 1 ⟨bx, by', bz⟩ = true) :
    Calls Tryz.prog 88 #[.int .i64 1, .agg #[.int .i64 ax, .int .i64 ay, .int .i64 az], .agg #[.int .i64 bx, .int .i64 by', .int .i64 bz]] w fun e w' => e = .returned (.agg #[.int .i64 (Agg.comb 1 ⟨ax, ay, az⟩ ⟨bx, by', bz⟩).x, .int .i64 (Agg.comb 1 ⟨ax, ay, az⟩ ⟨bx, by', bz⟩).y, .int .i64 (Agg.comb 1 ⟨ax, ay, az⟩ ⟨bx, by', bz⟩).z]) ∧ Below w.heap.size w w' := by
  obtain ⟨hx0, hx1, hy0, hy1, hz0, hz1⟩ := Agg.ok_bounds h
  obtain ⟨kx0, kx1, ky0, ky1, kz0, kz1⟩ := Agg.ok_bounds h'
  simp only at hx0 hx1 hy0 hy1 hz0 hz1 kx0 kx1 ky0 ky1 kz0 kz1
  
  have H := Lib.hid h; clear h
  have H' := Lib.hid h'; clear h'
  go_each [] => (go_enter Tryz.func88, Tryz.ntmps88; go_wp2;  (all_goals (go_returns; exact ⟨ret_agg (by simp [Agg.comb, *] <;> (repeat' split) <;> first | omega | rfl | (simp <;> omega)) (by simp [Agg.comb, *] <;> (repeat' split) <;> first | omega | rfl | (simp <;> omega)) (by simp [Agg.comb, *] <;> (repeat' split) <;> first | omega | rfl | (simp <;> omega)), (by first | (go_grown; done) | (refine below_drewN ?_ _; go_grown; done) | (refine (below_drewN _ ?_); go_grown; done))⟩)))


set_option maxHeartbeats 4000000 in
theorem s_combineValues_1 (ax ay az bx by' bz : Int) (w : World) :
    Calls Tryz.prog 51 #[.int .i64 1, .agg #[.int .i64 ax, .int .i64 ay, .int .i64 az], .agg #[.int .i64 bx, .int .i64 by', .int .i64 bz]] w fun e w' => e = .returned (.tuple #[.agg #[.int .i64 (Agg.aComb 1 ⟨ax, ay, az⟩ ⟨bx, by', bz⟩).1.x, .int .i64 (Agg.aComb 1 ⟨ax, ay, az⟩ ⟨bx, by', bz⟩).1.y, .int .i64 (Agg.aComb 1 ⟨ax, ay, az⟩ ⟨bx, by', bz⟩).1.z], .bool (Agg.aComb 1 ⟨ax, ay, az⟩ ⟨bx, by', bz⟩).2]) ∧ Below w.heap.size w w' := by
  have hkk : ∀ v, Agg.valid 1 v = Agg.ok 1 v := fun v => by simp [Agg.valid, Agg.isKind]
  have HK := Lib.hid hkk; clear hkk
  cases ha : Agg.valid 1 ⟨ax, ay, az⟩
  · have e : Agg.aComb 1 ⟨ax, ay, az⟩ ⟨bx, by', bz⟩ = (Agg.zero, false) := by simp [Agg.aComb, Agg.give, ha]
    rw [e]
    go_enter Tryz.func51, Tryz.ntmps51
    go_wp2_with (go_at_call 56; refine (s_valueValid_1 _ _ _ _).mono ?_; rintro e w1 ⟨rfl, hb1⟩; obtain ⟨hc1, hf1⟩ := bcell hb1; obtain ⟨hz0, hz1, hz2⟩ : w.heap.size < w1.heap.size ∧ w.heap.size + 1 < w1.heap.size ∧ w.heap.size + 1 + 1 < w1.heap.size := (by have hzz := hb1.size; (try simp at hzz); omega); have hB1 : Below w.heap.size w w1 := Below.trans (by go_grown) (hb1.mono (by first | (simp; done) | (simp; omega) | omega)); clear hb1)
    refine bodyPost_ret (by simp [results, Tryz.results51, go_sem, *]; try rfl) rfl ?_
    exact ⟨ret_agg_bool rfl rfl rfl rfl, (by first | (go_grown; done) | (refine below_drewN ?_ _; go_grown; done) | (refine (below_drewN _ ?_); go_grown; done))⟩
  · cases hb : Agg.valid 1 ⟨bx, by', bz⟩
    · have e : Agg.aComb 1 ⟨ax, ay, az⟩ ⟨bx, by', bz⟩ = (Agg.zero, false) := by simp [Agg.aComb, Agg.give, hb]
      rw [e]
      go_enter Tryz.func51, Tryz.ntmps51
      go_wp2_with (go_at_call 56; refine (s_valueValid_1 _ _ _ _).mono ?_; rintro e w1 ⟨rfl, hb1⟩; obtain ⟨hc1, hf1⟩ := bcell hb1; obtain ⟨hz0, hz1, hz2⟩ : w.heap.size < w1.heap.size ∧ w.heap.size + 1 < w1.heap.size ∧ w.heap.size + 1 + 1 < w1.heap.size := (by have hzz := hb1.size; (try simp at hzz); omega); have hB1 : Below w.heap.size w w1 := Below.trans (by go_grown) (hb1.mono (by first | (simp; done) | (simp; omega) | omega)); clear hb1)
      refine bodyPost_ret (by simp [results, Tryz.results51, go_sem, *]; try rfl) rfl ?_
      exact ⟨ret_agg_bool rfl rfl rfl rfl, (by first | (go_grown; done) | (refine below_drewN ?_ _; go_grown; done) | (refine (below_drewN _ ?_); go_grown; done))⟩
    · have oa : Agg.ok 1 ⟨ax, ay, az⟩ = true := (HK.out _).symm.trans ha
      have ob : Agg.ok 1 ⟨bx, by', bz⟩ = true := (HK.out _).symm.trans hb
      have OA := Lib.hid oa; clear oa
      have OB := Lib.hid ob; clear ob
      cases hc : Agg.ok 1 (Agg.comb 1 ⟨ax, ay, az⟩ ⟨bx, by', bz⟩)
      · have e : Agg.aComb 1 ⟨ax, ay, az⟩ ⟨bx, by', bz⟩ = (Agg.zero, false) := by simp [Agg.aComb, Agg.give, hc]
        rw [e]
        go_enter Tryz.func51, Tryz.ntmps51
        go_wp2_with (first | (go_at_call 56; refine (s_valueValid_1 _ _ _ _).mono ?_; rintro e w1 ⟨rfl, hb1⟩; obtain ⟨hc1, hf1⟩ := bcell hb1; obtain ⟨hz0, hz1, hz2⟩ : w.heap.size < w1.heap.size ∧ w.heap.size + 1 < w1.heap.size ∧ w.heap.size + 1 + 1 < w1.heap.size := (by have hzz := hb1.size; (try simp at hzz); omega); have hB1 : Below w.heap.size w w1 := Below.trans (by go_grown) (hb1.mono (by first | (simp; done) | (simp; omega) | omega)); clear hb1) | (go_at_call 88; refine (s_combine_1 _ _ _ _ _ _ _ OA.out OB.out).mono ?_; rintro e w1 ⟨rfl, hb1⟩; obtain ⟨hc1, hf1⟩ := bcell hb1; obtain ⟨hz0, hz1, hz2⟩ : w.heap.size < w1.heap.size ∧ w.heap.size + 1 < w1.heap.size ∧ w.heap.size + 1 + 1 < w1.heap.size := (by have hzz := hb1.size; (try simp at hzz); omega); have hB1 : Below w.heap.size w w1 := Below.trans (by go_grown) (hb1.mono (by first | (simp; done) | (simp; omega) | omega)); clear hb1) | (go_at_call 58; refine (s_is_1 _ _ _ _).mono ?_; rintro e w1 ⟨rfl, hb1⟩; obtain ⟨hc1, hf1⟩ := bcell hb1; obtain ⟨hz0, hz1, hz2⟩ : w.heap.size < w1.heap.size ∧ w.heap.size + 1 < w1.heap.size ∧ w.heap.size + 1 + 1 < w1.heap.size := (by have hzz := hb1.size; (try simp at hzz); omega); have hB1 : Below w.heap.size w w1 := Below.trans (by go_grown) (hb1.mono (by first | (simp; done) | (simp; omega) | omega)); clear hb1))
        refine bodyPost_ret (by simp [results, Tryz.results51, go_sem, *]; try rfl) rfl ?_
        exact ⟨ret_agg_bool rfl rfl rfl rfl, (by first | (go_grown; done) | (refine below_drewN ?_ _; go_grown; done) | (refine (below_drewN _ ?_); go_grown; done))⟩
      · have e : Agg.aComb 1 ⟨ax, ay, az⟩ ⟨bx, by', bz⟩ = (Agg.comb 1 ⟨ax, ay, az⟩ ⟨bx, by', bz⟩, true) := by simp [Agg.aComb, Agg.give, ha, hb, hc]
        rw [e]
        go_enter Tryz.func51, Tryz.ntmps51
        go_wp2_with (first | (go_at_call 56; refine (s_valueValid_1 _ _ _ _).mono ?_; rintro e w1 ⟨rfl, hb1⟩; obtain ⟨hc1, hf1⟩ := bcell hb1; obtain ⟨hz0, hz1, hz2⟩ : w.heap.size < w1.heap.size ∧ w.heap.size + 1 < w1.heap.size ∧ w.heap.size + 1 + 1 < w1.heap.size := (by have hzz := hb1.size; (try simp at hzz); omega); have hB1 : Below w.heap.size w w1 := Below.trans (by go_grown) (hb1.mono (by first | (simp; done) | (simp; omega) | omega)); clear hb1) | (go_at_call 88; refine (s_combine_1 _ _ _ _ _ _ _ OA.out OB.out).mono ?_; rintro e w1 ⟨rfl, hb1⟩; obtain ⟨hc1, hf1⟩ := bcell hb1; obtain ⟨hz0, hz1, hz2⟩ : w.heap.size < w1.heap.size ∧ w.heap.size + 1 < w1.heap.size ∧ w.heap.size + 1 + 1 < w1.heap.size := (by have hzz := hb1.size; (try simp at hzz); omega); have hB1 : Below w.heap.size w w1 := Below.trans (by go_grown) (hb1.mono (by first | (simp; done) | (simp; omega) | omega)); clear hb1) | (go_at_call 58; refine (s_is_1 _ _ _ _).mono ?_; rintro e w1 ⟨rfl, hb1⟩; obtain ⟨hc1, hf1⟩ := bcell hb1; obtain ⟨hz0, hz1, hz2⟩ : w.heap.size < w1.heap.size ∧ w.heap.size + 1 < w1.heap.size ∧ w.heap.size + 1 + 1 < w1.heap.size := (by have hzz := hb1.size; (try simp at hzz); omega); have hB1 : Below w.heap.size w w1 := Below.trans (by go_grown) (hb1.mono (by first | (simp; done) | (simp; omega) | omega)); clear hb1))
        refine bodyPost_ret (by simp [results, Tryz.results51, go_sem, *]; try rfl) rfl ?_
        exact ⟨rfl, (by first | (go_grown; done) | (refine below_drewN ?_ _; go_grown; done) | (refine (below_drewN _ ?_); go_grown; done))⟩

set_option maxHeartbeats 1000000 in
theorem s_lower_1 (x y z : Int) (w : World) (h : Agg.ok 1 ⟨x, y, z⟩ = true) :
    Calls Tryz.prog 97 #[.int .i64 1, .agg #[.int .i64 x, .int .i64 y, .int .i64 z]] w fun e w' => e = .returned (.tuple #[.int .i64 (Agg.low 1 ⟨x, y, z⟩).1, .bool (Agg.low 1 ⟨x, y, z⟩).2]) ∧ Below w.heap.size w w' := by
  obtain ⟨hx0, hx1, hy0, hy1, hz0, hz1⟩ := Agg.ok_bounds h
  simp only at hx0 hx1 hy0 hy1 hz0 hz1
  
  clear h
  go_each [] => (go_enter Tryz.func97, Tryz.ntmps97; go_wp2; (all_goals (try (go_quiet (fail); go_wp2))); (all_goals (go_returns; exact ⟨ret_int_bool (by simp [Agg.low, *] <;> omega) (by simp [Agg.low, *] <;> omega), (by first | (go_grown; done) | (refine below_drewN ?_ _; go_grown; done) | (refine (below_drewN _ ?_); go_grown; done))⟩)))



theorem s_kind_2 (w : World) : Calls Tryz.prog 64 #[.int .i64 2] w fun e w' => e = .returned (.bool true) ∧ w = w' := by
  go_enter Tryz.func64, Tryz.ntmps64
  go_wp2
  go_returns
  exact ⟨rfl, rfl⟩
set_option maxHeartbeats 1000000 in
theorem s_is_2 (x y z : Int) (w : World) :
    Calls Tryz.prog 58 #[.int .i64 2, .agg #[.int .i64 x, .int .i64 y, .int .i64 z]] w fun e w' => e = .returned (.bool (Agg.ok 2 ⟨x, y, z⟩)) ∧ Below w.heap.size w w' := by
  go_each [] => (go_enter Tryz.func58, Tryz.ntmps58; go_wp2; (all_goals (go_returns; exact ⟨ret_bool (by rw [Bool.eq_iff_iff]; simp [Agg.ok, *] <;> omega), (by first | (go_grown; done) | (refine below_drewN ?_ _; go_grown; done) | (refine (below_drewN _ ?_); go_grown; done))⟩)))


set_option maxHeartbeats 1000000 in
theorem s_valueValid_2 (x y z : Int) (w : World) :
    Calls Tryz.prog 56 #[.int .i64 2, .agg #[.int .i64 x, .int .i64 y, .int .i64 z]] w fun e w' => e = .returned (.bool (Agg.valid 2 ⟨x, y, z⟩)) ∧ Below w.heap.size w w' := by
  go_enter Tryz.func56, Tryz.ntmps56
  go_wp2_with (first | (go_at_call 64; refine (s_kind_2 _).mono ?_; rintro e w1 ⟨rfl, rfl⟩) | (go_at_call 58; refine (s_is_2 _ _ _ _).mono ?_; rintro e w1 ⟨rfl, hb1⟩; obtain ⟨hc1, hf1⟩ := bcell hb1; obtain hz0 : w.heap.size < w1.heap.size := (by have hzz := hb1.size; (try simp at hzz); omega); have hB1 : Below w.heap.size w w1 := Below.trans (by go_grown) (hb1.mono (by first | (simp; done) | (simp; omega) | omega)); clear hb1))
  go_returns
  exact ⟨ret_bool (by simp [Agg.valid, Agg.isKind]), (by first | (go_grown; done) | (refine below_drewN ?_ _; go_grown; done) | (refine (below_drewN _ ?_); go_grown; done))⟩

theorem s_unit_2 (w : World) :
    Calls Tryz.prog 87 #[.int .i64 2] w fun e w' => e = .returned (.agg #[.int .i64 (Agg.unit 2).x, .int .i64 (Agg.unit 2).y, .int .i64 (Agg.unit 2).z]) ∧ Below w.heap.size w w' := by
  go_enter Tryz.func87, Tryz.ntmps87
  go_wp2
  all_goals (go_returns; exact ⟨ret_agg (by simp [Agg.unit]) (by simp [Agg.unit]) (by simp [Agg.unit]), (by first | (go_grown; done) | (refine below_drewN ?_ _; go_grown; done) | (refine (below_drewN _ ?_); go_grown; done))⟩)


theorem s_lift_2 (n : Int) (w : World) (_h0 : 0 ≤ n) (_h1 : n ≤ 96) :
    Calls Tryz.prog 98 #[.int .i64 2, .int .i64 n] w fun e w' => e = .returned (.agg #[.int .i64 (Agg.lift 2 n).x, .int .i64 (Agg.lift 2 n).y, .int .i64 (Agg.lift 2 n).z]) ∧ Below w.heap.size w w' := by
  go_enter Tryz.func98, Tryz.ntmps98
  go_wp2
  all_goals (go_returns; exact ⟨ret_agg (by simp [Agg.lift] <;> omega) (by simp [Agg.lift] <;> omega) (by simp [Agg.lift] <;> omega), (by first | (go_grown; done) | (refine below_drewN ?_ _; go_grown; done) | (refine (below_drewN _ ?_); go_grown; done))⟩)


set_option maxHeartbeats 4000000 in
theorem s_combine_2 (ax ay az bx by' bz : Int) (w : World) (h : Agg.ok 2 ⟨ax, ay, az⟩ = true) (h' : Agg.ok 2 ⟨bx, by', bz⟩ = true) :
    Calls Tryz.prog 88 #[.int .i64 2, .agg #[.int .i64 ax, .int .i64 ay, .int .i64 az], .agg #[.int .i64 bx, .int .i64 by', .int .i64 bz]] w fun e w' => e = .returned (.agg #[.int .i64 (Agg.comb 2 ⟨ax, ay, az⟩ ⟨bx, by', bz⟩).x, .int .i64 (Agg.comb 2 ⟨ax, ay, az⟩ ⟨bx, by', bz⟩).y, .int .i64 (Agg.comb 2 ⟨ax, ay, az⟩ ⟨bx, by', bz⟩).z]) ∧ Below w.heap.size w w' := by
  obtain ⟨hx0, hx1, hy0, hy1, hz0, hz1⟩ := Agg.ok_bounds h
  obtain ⟨kx0, kx1, ky0, ky1, kz0, kz1⟩ := Agg.ok_bounds h'
  simp only at hx0 hx1 hy0 hy1 hz0 hz1 kx0 kx1 ky0 ky1 kz0 kz1
  
  have H := Lib.hid h; clear h
  have H' := Lib.hid h'; clear h'
  go_each [] => (go_enter Tryz.func88, Tryz.ntmps88; go_wp2;  (all_goals (go_returns; exact ⟨ret_agg (by simp [Agg.comb, *] <;> (repeat' split) <;> first | omega | rfl | (simp <;> omega)) (by simp [Agg.comb, *] <;> (repeat' split) <;> first | omega | rfl | (simp <;> omega)) (by simp [Agg.comb, *] <;> (repeat' split) <;> first | omega | rfl | (simp <;> omega)), (by first | (go_grown; done) | (refine below_drewN ?_ _; go_grown; done) | (refine (below_drewN _ ?_); go_grown; done))⟩)))


set_option maxHeartbeats 4000000 in
theorem s_combineValues_2 (ax ay az bx by' bz : Int) (w : World) :
    Calls Tryz.prog 51 #[.int .i64 2, .agg #[.int .i64 ax, .int .i64 ay, .int .i64 az], .agg #[.int .i64 bx, .int .i64 by', .int .i64 bz]] w fun e w' => e = .returned (.tuple #[.agg #[.int .i64 (Agg.aComb 2 ⟨ax, ay, az⟩ ⟨bx, by', bz⟩).1.x, .int .i64 (Agg.aComb 2 ⟨ax, ay, az⟩ ⟨bx, by', bz⟩).1.y, .int .i64 (Agg.aComb 2 ⟨ax, ay, az⟩ ⟨bx, by', bz⟩).1.z], .bool (Agg.aComb 2 ⟨ax, ay, az⟩ ⟨bx, by', bz⟩).2]) ∧ Below w.heap.size w w' := by
  have hkk : ∀ v, Agg.valid 2 v = Agg.ok 2 v := fun v => by simp [Agg.valid, Agg.isKind]
  have HK := Lib.hid hkk; clear hkk
  cases ha : Agg.valid 2 ⟨ax, ay, az⟩
  · have e : Agg.aComb 2 ⟨ax, ay, az⟩ ⟨bx, by', bz⟩ = (Agg.zero, false) := by simp [Agg.aComb, Agg.give, ha]
    rw [e]
    go_enter Tryz.func51, Tryz.ntmps51
    go_wp2_with (go_at_call 56; refine (s_valueValid_2 _ _ _ _).mono ?_; rintro e w1 ⟨rfl, hb1⟩; obtain ⟨hc1, hf1⟩ := bcell hb1; obtain ⟨hz0, hz1, hz2⟩ : w.heap.size < w1.heap.size ∧ w.heap.size + 1 < w1.heap.size ∧ w.heap.size + 1 + 1 < w1.heap.size := (by have hzz := hb1.size; (try simp at hzz); omega); have hB1 : Below w.heap.size w w1 := Below.trans (by go_grown) (hb1.mono (by first | (simp; done) | (simp; omega) | omega)); clear hb1)
    refine bodyPost_ret (by simp [results, Tryz.results51, go_sem, *]; try rfl) rfl ?_
    exact ⟨ret_agg_bool rfl rfl rfl rfl, (by first | (go_grown; done) | (refine below_drewN ?_ _; go_grown; done) | (refine (below_drewN _ ?_); go_grown; done))⟩
  · cases hb : Agg.valid 2 ⟨bx, by', bz⟩
    · have e : Agg.aComb 2 ⟨ax, ay, az⟩ ⟨bx, by', bz⟩ = (Agg.zero, false) := by simp [Agg.aComb, Agg.give, hb]
      rw [e]
      go_enter Tryz.func51, Tryz.ntmps51
      go_wp2_with (go_at_call 56; refine (s_valueValid_2 _ _ _ _).mono ?_; rintro e w1 ⟨rfl, hb1⟩; obtain ⟨hc1, hf1⟩ := bcell hb1; obtain ⟨hz0, hz1, hz2⟩ : w.heap.size < w1.heap.size ∧ w.heap.size + 1 < w1.heap.size ∧ w.heap.size + 1 + 1 < w1.heap.size := (by have hzz := hb1.size; (try simp at hzz); omega); have hB1 : Below w.heap.size w w1 := Below.trans (by go_grown) (hb1.mono (by first | (simp; done) | (simp; omega) | omega)); clear hb1)
      refine bodyPost_ret (by simp [results, Tryz.results51, go_sem, *]; try rfl) rfl ?_
      exact ⟨ret_agg_bool rfl rfl rfl rfl, (by first | (go_grown; done) | (refine below_drewN ?_ _; go_grown; done) | (refine (below_drewN _ ?_); go_grown; done))⟩
    · have oa : Agg.ok 2 ⟨ax, ay, az⟩ = true := (HK.out _).symm.trans ha
      have ob : Agg.ok 2 ⟨bx, by', bz⟩ = true := (HK.out _).symm.trans hb
      have OA := Lib.hid oa; clear oa
      have OB := Lib.hid ob; clear ob
      cases hc : Agg.ok 2 (Agg.comb 2 ⟨ax, ay, az⟩ ⟨bx, by', bz⟩)
      · have e : Agg.aComb 2 ⟨ax, ay, az⟩ ⟨bx, by', bz⟩ = (Agg.zero, false) := by simp [Agg.aComb, Agg.give, hc]
        rw [e]
        go_enter Tryz.func51, Tryz.ntmps51
        go_wp2_with (first | (go_at_call 56; refine (s_valueValid_2 _ _ _ _).mono ?_; rintro e w1 ⟨rfl, hb1⟩; obtain ⟨hc1, hf1⟩ := bcell hb1; obtain ⟨hz0, hz1, hz2⟩ : w.heap.size < w1.heap.size ∧ w.heap.size + 1 < w1.heap.size ∧ w.heap.size + 1 + 1 < w1.heap.size := (by have hzz := hb1.size; (try simp at hzz); omega); have hB1 : Below w.heap.size w w1 := Below.trans (by go_grown) (hb1.mono (by first | (simp; done) | (simp; omega) | omega)); clear hb1) | (go_at_call 88; refine (s_combine_2 _ _ _ _ _ _ _ OA.out OB.out).mono ?_; rintro e w1 ⟨rfl, hb1⟩; obtain ⟨hc1, hf1⟩ := bcell hb1; obtain ⟨hz0, hz1, hz2⟩ : w.heap.size < w1.heap.size ∧ w.heap.size + 1 < w1.heap.size ∧ w.heap.size + 1 + 1 < w1.heap.size := (by have hzz := hb1.size; (try simp at hzz); omega); have hB1 : Below w.heap.size w w1 := Below.trans (by go_grown) (hb1.mono (by first | (simp; done) | (simp; omega) | omega)); clear hb1) | (go_at_call 58; refine (s_is_2 _ _ _ _).mono ?_; rintro e w1 ⟨rfl, hb1⟩; obtain ⟨hc1, hf1⟩ := bcell hb1; obtain ⟨hz0, hz1, hz2⟩ : w.heap.size < w1.heap.size ∧ w.heap.size + 1 < w1.heap.size ∧ w.heap.size + 1 + 1 < w1.heap.size := (by have hzz := hb1.size; (try simp at hzz); omega); have hB1 : Below w.heap.size w w1 := Below.trans (by go_grown) (hb1.mono (by first | (simp; done) | (simp; omega) | omega)); clear hb1))
        refine bodyPost_ret (by simp [results, Tryz.results51, go_sem, *]; try rfl) rfl ?_
        exact ⟨ret_agg_bool rfl rfl rfl rfl, (by first | (go_grown; done) | (refine below_drewN ?_ _; go_grown; done) | (refine (below_drewN _ ?_); go_grown; done))⟩
      · have e : Agg.aComb 2 ⟨ax, ay, az⟩ ⟨bx, by', bz⟩ = (Agg.comb 2 ⟨ax, ay, az⟩ ⟨bx, by', bz⟩, true) := by simp [Agg.aComb, Agg.give, ha, hb, hc]
        rw [e]
        go_enter Tryz.func51, Tryz.ntmps51
        go_wp2_with (first | (go_at_call 56; refine (s_valueValid_2 _ _ _ _).mono ?_; rintro e w1 ⟨rfl, hb1⟩; obtain ⟨hc1, hf1⟩ := bcell hb1; obtain ⟨hz0, hz1, hz2⟩ : w.heap.size < w1.heap.size ∧ w.heap.size + 1 < w1.heap.size ∧ w.heap.size + 1 + 1 < w1.heap.size := (by have hzz := hb1.size; (try simp at hzz); omega); have hB1 : Below w.heap.size w w1 := Below.trans (by go_grown) (hb1.mono (by first | (simp; done) | (simp; omega) | omega)); clear hb1) | (go_at_call 88; refine (s_combine_2 _ _ _ _ _ _ _ OA.out OB.out).mono ?_; rintro e w1 ⟨rfl, hb1⟩; obtain ⟨hc1, hf1⟩ := bcell hb1; obtain ⟨hz0, hz1, hz2⟩ : w.heap.size < w1.heap.size ∧ w.heap.size + 1 < w1.heap.size ∧ w.heap.size + 1 + 1 < w1.heap.size := (by have hzz := hb1.size; (try simp at hzz); omega); have hB1 : Below w.heap.size w w1 := Below.trans (by go_grown) (hb1.mono (by first | (simp; done) | (simp; omega) | omega)); clear hb1) | (go_at_call 58; refine (s_is_2 _ _ _ _).mono ?_; rintro e w1 ⟨rfl, hb1⟩; obtain ⟨hc1, hf1⟩ := bcell hb1; obtain ⟨hz0, hz1, hz2⟩ : w.heap.size < w1.heap.size ∧ w.heap.size + 1 < w1.heap.size ∧ w.heap.size + 1 + 1 < w1.heap.size := (by have hzz := hb1.size; (try simp at hzz); omega); have hB1 : Below w.heap.size w w1 := Below.trans (by go_grown) (hb1.mono (by first | (simp; done) | (simp; omega) | omega)); clear hb1))
        refine bodyPost_ret (by simp [results, Tryz.results51, go_sem, *]; try rfl) rfl ?_
        exact ⟨rfl, (by first | (go_grown; done) | (refine below_drewN ?_ _; go_grown; done) | (refine (below_drewN _ ?_); go_grown; done))⟩

set_option maxHeartbeats 1000000 in
theorem s_lower_2 (x y z : Int) (w : World) (h : Agg.ok 2 ⟨x, y, z⟩ = true) :
    Calls Tryz.prog 97 #[.int .i64 2, .agg #[.int .i64 x, .int .i64 y, .int .i64 z]] w fun e w' => e = .returned (.tuple #[.int .i64 (Agg.low 2 ⟨x, y, z⟩).1, .bool (Agg.low 2 ⟨x, y, z⟩).2]) ∧ Below w.heap.size w w' := by
  obtain ⟨hx0, hx1, hy0, hy1, hz0, hz1⟩ := Agg.ok_bounds h
  simp only at hx0 hx1 hy0 hy1 hz0 hz1
  
  clear h
  go_each [] => (go_enter Tryz.func97, Tryz.ntmps97; go_wp2; (all_goals (try (go_quiet (fail); go_wp2))); (all_goals (go_returns; exact ⟨ret_int_bool (by simp [Agg.low, *] <;> omega) (by simp [Agg.low, *] <;> omega), (by first | (go_grown; done) | (refine below_drewN ?_ _; go_grown; done) | (refine (below_drewN _ ?_); go_grown; done))⟩)))



theorem s_kind_3 (w : World) : Calls Tryz.prog 64 #[.int .i64 3] w fun e w' => e = .returned (.bool true) ∧ w = w' := by
  go_enter Tryz.func64, Tryz.ntmps64
  go_wp2
  go_returns
  exact ⟨rfl, rfl⟩
set_option maxHeartbeats 1000000 in
theorem s_is_3 (x y z : Int) (w : World) :
    Calls Tryz.prog 58 #[.int .i64 3, .agg #[.int .i64 x, .int .i64 y, .int .i64 z]] w fun e w' => e = .returned (.bool (Agg.ok 3 ⟨x, y, z⟩)) ∧ Below w.heap.size w w' := by
  go_each [] => (go_enter Tryz.func58, Tryz.ntmps58; go_wp2; (all_goals (go_returns; exact ⟨ret_bool (by rw [Bool.eq_iff_iff]; simp [Agg.ok, *] <;> omega), (by first | (go_grown; done) | (refine below_drewN ?_ _; go_grown; done) | (refine (below_drewN _ ?_); go_grown; done))⟩)))


set_option maxHeartbeats 1000000 in
theorem s_valueValid_3 (x y z : Int) (w : World) :
    Calls Tryz.prog 56 #[.int .i64 3, .agg #[.int .i64 x, .int .i64 y, .int .i64 z]] w fun e w' => e = .returned (.bool (Agg.valid 3 ⟨x, y, z⟩)) ∧ Below w.heap.size w w' := by
  go_enter Tryz.func56, Tryz.ntmps56
  go_wp2_with (first | (go_at_call 64; refine (s_kind_3 _).mono ?_; rintro e w1 ⟨rfl, rfl⟩) | (go_at_call 58; refine (s_is_3 _ _ _ _).mono ?_; rintro e w1 ⟨rfl, hb1⟩; obtain ⟨hc1, hf1⟩ := bcell hb1; obtain hz0 : w.heap.size < w1.heap.size := (by have hzz := hb1.size; (try simp at hzz); omega); have hB1 : Below w.heap.size w w1 := Below.trans (by go_grown) (hb1.mono (by first | (simp; done) | (simp; omega) | omega)); clear hb1))
  go_returns
  exact ⟨ret_bool (by simp [Agg.valid, Agg.isKind]), (by first | (go_grown; done) | (refine below_drewN ?_ _; go_grown; done) | (refine (below_drewN _ ?_); go_grown; done))⟩

theorem s_unit_3 (w : World) :
    Calls Tryz.prog 87 #[.int .i64 3] w fun e w' => e = .returned (.agg #[.int .i64 (Agg.unit 3).x, .int .i64 (Agg.unit 3).y, .int .i64 (Agg.unit 3).z]) ∧ Below w.heap.size w w' := by
  go_enter Tryz.func87, Tryz.ntmps87
  go_wp2
  all_goals (go_returns; exact ⟨ret_agg (by simp [Agg.unit]) (by simp [Agg.unit]) (by simp [Agg.unit]), (by first | (go_grown; done) | (refine below_drewN ?_ _; go_grown; done) | (refine (below_drewN _ ?_); go_grown; done))⟩)


theorem s_lift_3 (n : Int) (w : World) (_h0 : 0 ≤ n) (_h1 : n ≤ 96) :
    Calls Tryz.prog 98 #[.int .i64 3, .int .i64 n] w fun e w' => e = .returned (.agg #[.int .i64 (Agg.lift 3 n).x, .int .i64 (Agg.lift 3 n).y, .int .i64 (Agg.lift 3 n).z]) ∧ Below w.heap.size w w' := by
  go_enter Tryz.func98, Tryz.ntmps98
  go_wp2
  all_goals (go_returns; exact ⟨ret_agg (by simp [Agg.lift] <;> omega) (by simp [Agg.lift] <;> omega) (by simp [Agg.lift] <;> omega), (by first | (go_grown; done) | (refine below_drewN ?_ _; go_grown; done) | (refine (below_drewN _ ?_); go_grown; done))⟩)


set_option maxHeartbeats 4000000 in
theorem s_combine_3 (ax ay az bx by' bz : Int) (w : World) (h : Agg.ok 3 ⟨ax, ay, az⟩ = true) (h' : Agg.ok 3 ⟨bx, by', bz⟩ = true) :
    Calls Tryz.prog 88 #[.int .i64 3, .agg #[.int .i64 ax, .int .i64 ay, .int .i64 az], .agg #[.int .i64 bx, .int .i64 by', .int .i64 bz]] w fun e w' => e = .returned (.agg #[.int .i64 (Agg.comb 3 ⟨ax, ay, az⟩ ⟨bx, by', bz⟩).x, .int .i64 (Agg.comb 3 ⟨ax, ay, az⟩ ⟨bx, by', bz⟩).y, .int .i64 (Agg.comb 3 ⟨ax, ay, az⟩ ⟨bx, by', bz⟩).z]) ∧ Below w.heap.size w w' := by
  obtain ⟨hx0, hx1, hy0, hy1, hz0, hz1⟩ := Agg.ok_bounds h
  obtain ⟨kx0, kx1, ky0, ky1, kz0, kz1⟩ := Agg.ok_bounds h'
  simp only at hx0 hx1 hy0 hy1 hz0 hz1 kx0 kx1 ky0 ky1 kz0 kz1
  
  have H := Lib.hid h; clear h
  have H' := Lib.hid h'; clear h'
  go_each [ay = 0,by' = 0,bx < ax,ax < bx] => (go_enter Tryz.func88, Tryz.ntmps88; go_wp2;  (all_goals (go_returns; exact ⟨ret_agg (by simp [Agg.comb, *] <;> (repeat' split) <;> first | omega | rfl | (simp <;> omega)) (by simp [Agg.comb, *] <;> (repeat' split) <;> first | omega | rfl | (simp <;> omega)) (by simp [Agg.comb, *] <;> (repeat' split) <;> first | omega | rfl | (simp <;> omega)), (by first | (go_grown; done) | (refine below_drewN ?_ _; go_grown; done) | (refine (below_drewN _ ?_); go_grown; done))⟩)))


set_option maxHeartbeats 4000000 in
theorem s_combineValues_3 (ax ay az bx by' bz : Int) (w : World) :
    Calls Tryz.prog 51 #[.int .i64 3, .agg #[.int .i64 ax, .int .i64 ay, .int .i64 az], .agg #[.int .i64 bx, .int .i64 by', .int .i64 bz]] w fun e w' => e = .returned (.tuple #[.agg #[.int .i64 (Agg.aComb 3 ⟨ax, ay, az⟩ ⟨bx, by', bz⟩).1.x, .int .i64 (Agg.aComb 3 ⟨ax, ay, az⟩ ⟨bx, by', bz⟩).1.y, .int .i64 (Agg.aComb 3 ⟨ax, ay, az⟩ ⟨bx, by', bz⟩).1.z], .bool (Agg.aComb 3 ⟨ax, ay, az⟩ ⟨bx, by', bz⟩).2]) ∧ Below w.heap.size w w' := by
  have hkk : ∀ v, Agg.valid 3 v = Agg.ok 3 v := fun v => by simp [Agg.valid, Agg.isKind]
  have HK := Lib.hid hkk; clear hkk
  cases ha : Agg.valid 3 ⟨ax, ay, az⟩
  · have e : Agg.aComb 3 ⟨ax, ay, az⟩ ⟨bx, by', bz⟩ = (Agg.zero, false) := by simp [Agg.aComb, Agg.give, ha]
    rw [e]
    go_enter Tryz.func51, Tryz.ntmps51
    go_wp2_with (go_at_call 56; refine (s_valueValid_3 _ _ _ _).mono ?_; rintro e w1 ⟨rfl, hb1⟩; obtain ⟨hc1, hf1⟩ := bcell hb1; obtain ⟨hz0, hz1, hz2⟩ : w.heap.size < w1.heap.size ∧ w.heap.size + 1 < w1.heap.size ∧ w.heap.size + 1 + 1 < w1.heap.size := (by have hzz := hb1.size; (try simp at hzz); omega); have hB1 : Below w.heap.size w w1 := Below.trans (by go_grown) (hb1.mono (by first | (simp; done) | (simp; omega) | omega)); clear hb1)
    refine bodyPost_ret (by simp [results, Tryz.results51, go_sem, *]; try rfl) rfl ?_
    exact ⟨ret_agg_bool rfl rfl rfl rfl, (by first | (go_grown; done) | (refine below_drewN ?_ _; go_grown; done) | (refine (below_drewN _ ?_); go_grown; done))⟩
  · cases hb : Agg.valid 3 ⟨bx, by', bz⟩
    · have e : Agg.aComb 3 ⟨ax, ay, az⟩ ⟨bx, by', bz⟩ = (Agg.zero, false) := by simp [Agg.aComb, Agg.give, hb]
      rw [e]
      go_enter Tryz.func51, Tryz.ntmps51
      go_wp2_with (go_at_call 56; refine (s_valueValid_3 _ _ _ _).mono ?_; rintro e w1 ⟨rfl, hb1⟩; obtain ⟨hc1, hf1⟩ := bcell hb1; obtain ⟨hz0, hz1, hz2⟩ : w.heap.size < w1.heap.size ∧ w.heap.size + 1 < w1.heap.size ∧ w.heap.size + 1 + 1 < w1.heap.size := (by have hzz := hb1.size; (try simp at hzz); omega); have hB1 : Below w.heap.size w w1 := Below.trans (by go_grown) (hb1.mono (by first | (simp; done) | (simp; omega) | omega)); clear hb1)
      refine bodyPost_ret (by simp [results, Tryz.results51, go_sem, *]; try rfl) rfl ?_
      exact ⟨ret_agg_bool rfl rfl rfl rfl, (by first | (go_grown; done) | (refine below_drewN ?_ _; go_grown; done) | (refine (below_drewN _ ?_); go_grown; done))⟩
    · have oa : Agg.ok 3 ⟨ax, ay, az⟩ = true := (HK.out _).symm.trans ha
      have ob : Agg.ok 3 ⟨bx, by', bz⟩ = true := (HK.out _).symm.trans hb
      have OA := Lib.hid oa; clear oa
      have OB := Lib.hid ob; clear ob
      cases hc : Agg.ok 3 (Agg.comb 3 ⟨ax, ay, az⟩ ⟨bx, by', bz⟩)
      · have e : Agg.aComb 3 ⟨ax, ay, az⟩ ⟨bx, by', bz⟩ = (Agg.zero, false) := by simp [Agg.aComb, Agg.give, hc]
        rw [e]
        go_enter Tryz.func51, Tryz.ntmps51
        go_wp2_with (first | (go_at_call 56; refine (s_valueValid_3 _ _ _ _).mono ?_; rintro e w1 ⟨rfl, hb1⟩; obtain ⟨hc1, hf1⟩ := bcell hb1; obtain ⟨hz0, hz1, hz2⟩ : w.heap.size < w1.heap.size ∧ w.heap.size + 1 < w1.heap.size ∧ w.heap.size + 1 + 1 < w1.heap.size := (by have hzz := hb1.size; (try simp at hzz); omega); have hB1 : Below w.heap.size w w1 := Below.trans (by go_grown) (hb1.mono (by first | (simp; done) | (simp; omega) | omega)); clear hb1) | (go_at_call 88; refine (s_combine_3 _ _ _ _ _ _ _ OA.out OB.out).mono ?_; rintro e w1 ⟨rfl, hb1⟩; obtain ⟨hc1, hf1⟩ := bcell hb1; obtain ⟨hz0, hz1, hz2⟩ : w.heap.size < w1.heap.size ∧ w.heap.size + 1 < w1.heap.size ∧ w.heap.size + 1 + 1 < w1.heap.size := (by have hzz := hb1.size; (try simp at hzz); omega); have hB1 : Below w.heap.size w w1 := Below.trans (by go_grown) (hb1.mono (by first | (simp; done) | (simp; omega) | omega)); clear hb1) | (go_at_call 58; refine (s_is_3 _ _ _ _).mono ?_; rintro e w1 ⟨rfl, hb1⟩; obtain ⟨hc1, hf1⟩ := bcell hb1; obtain ⟨hz0, hz1, hz2⟩ : w.heap.size < w1.heap.size ∧ w.heap.size + 1 < w1.heap.size ∧ w.heap.size + 1 + 1 < w1.heap.size := (by have hzz := hb1.size; (try simp at hzz); omega); have hB1 : Below w.heap.size w w1 := Below.trans (by go_grown) (hb1.mono (by first | (simp; done) | (simp; omega) | omega)); clear hb1))
        refine bodyPost_ret (by simp [results, Tryz.results51, go_sem, *]; try rfl) rfl ?_
        exact ⟨ret_agg_bool rfl rfl rfl rfl, (by first | (go_grown; done) | (refine below_drewN ?_ _; go_grown; done) | (refine (below_drewN _ ?_); go_grown; done))⟩
      · have e : Agg.aComb 3 ⟨ax, ay, az⟩ ⟨bx, by', bz⟩ = (Agg.comb 3 ⟨ax, ay, az⟩ ⟨bx, by', bz⟩, true) := by simp [Agg.aComb, Agg.give, ha, hb, hc]
        rw [e]
        go_enter Tryz.func51, Tryz.ntmps51
        go_wp2_with (first | (go_at_call 56; refine (s_valueValid_3 _ _ _ _).mono ?_; rintro e w1 ⟨rfl, hb1⟩; obtain ⟨hc1, hf1⟩ := bcell hb1; obtain ⟨hz0, hz1, hz2⟩ : w.heap.size < w1.heap.size ∧ w.heap.size + 1 < w1.heap.size ∧ w.heap.size + 1 + 1 < w1.heap.size := (by have hzz := hb1.size; (try simp at hzz); omega); have hB1 : Below w.heap.size w w1 := Below.trans (by go_grown) (hb1.mono (by first | (simp; done) | (simp; omega) | omega)); clear hb1) | (go_at_call 88; refine (s_combine_3 _ _ _ _ _ _ _ OA.out OB.out).mono ?_; rintro e w1 ⟨rfl, hb1⟩; obtain ⟨hc1, hf1⟩ := bcell hb1; obtain ⟨hz0, hz1, hz2⟩ : w.heap.size < w1.heap.size ∧ w.heap.size + 1 < w1.heap.size ∧ w.heap.size + 1 + 1 < w1.heap.size := (by have hzz := hb1.size; (try simp at hzz); omega); have hB1 : Below w.heap.size w w1 := Below.trans (by go_grown) (hb1.mono (by first | (simp; done) | (simp; omega) | omega)); clear hb1) | (go_at_call 58; refine (s_is_3 _ _ _ _).mono ?_; rintro e w1 ⟨rfl, hb1⟩; obtain ⟨hc1, hf1⟩ := bcell hb1; obtain ⟨hz0, hz1, hz2⟩ : w.heap.size < w1.heap.size ∧ w.heap.size + 1 < w1.heap.size ∧ w.heap.size + 1 + 1 < w1.heap.size := (by have hzz := hb1.size; (try simp at hzz); omega); have hB1 : Below w.heap.size w w1 := Below.trans (by go_grown) (hb1.mono (by first | (simp; done) | (simp; omega) | omega)); clear hb1))
        refine bodyPost_ret (by simp [results, Tryz.results51, go_sem, *]; try rfl) rfl ?_
        exact ⟨rfl, (by first | (go_grown; done) | (refine below_drewN ?_ _; go_grown; done) | (refine (below_drewN _ ?_); go_grown; done))⟩

set_option maxHeartbeats 1000000 in
theorem s_lower_3 (x y z : Int) (w : World) (h : Agg.ok 3 ⟨x, y, z⟩ = true) :
    Calls Tryz.prog 97 #[.int .i64 3, .agg #[.int .i64 x, .int .i64 y, .int .i64 z]] w fun e w' => e = .returned (.tuple #[.int .i64 (Agg.low 3 ⟨x, y, z⟩).1, .bool (Agg.low 3 ⟨x, y, z⟩).2]) ∧ Below w.heap.size w w' := by
  obtain ⟨hx0, hx1, hy0, hy1, hz0, hz1⟩ := Agg.ok_bounds h
  simp only at hx0 hx1 hy0 hy1 hz0 hz1
  have oy : y = 0 ∨ y = 1 := Agg.ok_pick h (by decide)
  clear h
  go_each [y = 0,y = 1] => (go_enter Tryz.func97, Tryz.ntmps97; go_wp2; (all_goals (try (go_quiet (fail); go_wp2))); (all_goals (go_returns; exact ⟨ret_int_bool (by simp [Agg.low, *] <;> omega) (by simp [Agg.low, *] <;> omega), (by first | (go_grown; done) | (refine below_drewN ?_ _; go_grown; done) | (refine (below_drewN _ ?_); go_grown; done))⟩)))



end Go.Proofs.YtfmkjpbmaogjpaaGreat
