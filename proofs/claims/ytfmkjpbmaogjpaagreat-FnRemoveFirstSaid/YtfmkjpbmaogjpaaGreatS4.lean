/-
  The model's functions of chapter 1 at some kinds, each against plain mathematics.
-/
import Derived.Test.YtfmkjpbmaogjpaaGreatS0
import Derived.Test.YtfmkjpbmaogjpaaGreatMa
namespace Go.Proofs.YtfmkjpbmaogjpaaGreat
open Go.RowKit
set_option linter.unusedSimpArgs false
set_option linter.unusedVariables false
theorem s_kind_9 (w : World) : Calls Tryz.prog 64 #[.int .i64 9] w fun e w' => e = .returned (.bool true) ∧ w = w' := by
  go_enter Tryz.func64, Tryz.ntmps64
  go_wp2
  go_returns
  exact ⟨rfl, rfl⟩
set_option maxHeartbeats 1000000 in
theorem s_is_9 (x y z : Int) (w : World) :
    Calls Tryz.prog 58 #[.int .i64 9, .agg #[.int .i64 x, .int .i64 y, .int .i64 z]] w fun e w' => e = .returned (.bool (Agg.ok 9 ⟨x, y, z⟩)) ∧ Below w.heap.size w w' := by
  go_each [z = 0] => (go_enter Tryz.func58, Tryz.ntmps58; go_wp2; (all_goals (go_returns; exact ⟨ret_bool (by rw [Bool.eq_iff_iff]; simp [Agg.ok, *] <;> omega), (by first | (go_grown; done) | (refine below_drewN ?_ _; go_grown; done) | (refine (below_drewN _ ?_); go_grown; done))⟩)))


set_option maxHeartbeats 1000000 in
theorem s_valueValid_9 (x y z : Int) (w : World) :
    Calls Tryz.prog 56 #[.int .i64 9, .agg #[.int .i64 x, .int .i64 y, .int .i64 z]] w fun e w' => e = .returned (.bool (Agg.valid 9 ⟨x, y, z⟩)) ∧ Below w.heap.size w w' := by
  go_enter Tryz.func56, Tryz.ntmps56
  go_wp2_with (first | (go_at_call 64; refine (s_kind_9 _).mono ?_; rintro e w1 ⟨rfl, rfl⟩) | (go_at_call 58; refine (s_is_9 _ _ _ _).mono ?_; rintro e w1 ⟨rfl, hb1⟩; obtain ⟨hc1, hf1⟩ := bcell hb1; obtain hz0 : w.heap.size < w1.heap.size := (by have hzz := hb1.size; (try simp at hzz); omega); have hB1 : Below w.heap.size w w1 := Below.trans (by go_grown) (hb1.mono (by first | (simp; done) | (simp; omega) | omega)); clear hb1))
  go_returns
  exact ⟨ret_bool (by simp [Agg.valid, Agg.isKind]), (by first | (go_grown; done) | (refine below_drewN ?_ _; go_grown; done) | (refine (below_drewN _ ?_); go_grown; done))⟩

theorem s_unit_9 (w : World) :
    Calls Tryz.prog 87 #[.int .i64 9] w fun e w' => e = .returned (.agg #[.int .i64 (Agg.unit 9).x, .int .i64 (Agg.unit 9).y, .int .i64 (Agg.unit 9).z]) ∧ Below w.heap.size w w' := by
  go_enter Tryz.func87, Tryz.ntmps87
  go_wp2
  all_goals (go_returns; exact ⟨ret_agg (by simp [Agg.unit]) (by simp [Agg.unit]) (by simp [Agg.unit]), (by first | (go_grown; done) | (refine below_drewN ?_ _; go_grown; done) | (refine (below_drewN _ ?_); go_grown; done))⟩)


theorem s_lift_9 (n : Int) (w : World) (_h0 : 0 ≤ n) (_h1 : n ≤ 96) :
    Calls Tryz.prog 98 #[.int .i64 9, .int .i64 n] w fun e w' => e = .returned (.agg #[.int .i64 (Agg.lift 9 n).x, .int .i64 (Agg.lift 9 n).y, .int .i64 (Agg.lift 9 n).z]) ∧ Below w.heap.size w w' := by
  go_enter Tryz.func98, Tryz.ntmps98
  go_wp2
  all_goals (go_returns; exact ⟨ret_agg (by simp [Agg.lift] <;> omega) (by simp [Agg.lift] <;> omega) (by simp [Agg.lift] <;> omega), (by first | (go_grown; done) | (refine below_drewN ?_ _; go_grown; done) | (refine (below_drewN _ ?_); go_grown; done))⟩)


set_option maxHeartbeats 4000000 in
theorem s_combine_9 (ax ay az bx by' bz : Int) (w : World) (h : Agg.ok 9 ⟨ax, ay, az⟩ = true) (h' : Agg.ok 9 ⟨bx, by', bz⟩ = true) :
    Calls Tryz.prog 88 #[.int .i64 9, .agg #[.int .i64 ax, .int .i64 ay, .int .i64 az], .agg #[.int .i64 bx, .int .i64 by', .int .i64 bz]] w fun e w' => e = .returned (.agg #[.int .i64 (Agg.comb 9 ⟨ax, ay, az⟩ ⟨bx, by', bz⟩).x, .int .i64 (Agg.comb 9 ⟨ax, ay, az⟩ ⟨bx, by', bz⟩).y, .int .i64 (Agg.comb 9 ⟨ax, ay, az⟩ ⟨bx, by', bz⟩).z]) ∧ Below w.heap.size w w' := by
  obtain ⟨hx0, hx1, hy0, hy1, hz0, hz1⟩ := Agg.ok_bounds h
  obtain ⟨kx0, kx1, ky0, ky1, kz0, kz1⟩ := Agg.ok_bounds h'
  simp only at hx0 hx1 hy0 hy1 hz0 hz1 kx0 kx1 ky0 ky1 kz0 kz1
  
  have H := Lib.hid h; clear h
  have H' := Lib.hid h'; clear h'
  go_each [az = 0,bz = 0,ay < bx] => (go_enter Tryz.func88, Tryz.ntmps88; go_wp2;  (all_goals (go_returns; exact ⟨ret_agg (by simp [Agg.comb, *] <;> (repeat' split) <;> first | omega | rfl | (simp <;> omega)) (by simp [Agg.comb, *] <;> (repeat' split) <;> first | omega | rfl | (simp <;> omega)) (by simp [Agg.comb, *] <;> (repeat' split) <;> first | omega | rfl | (simp <;> omega)), (by first | (go_grown; done) | (refine below_drewN ?_ _; go_grown; done) | (refine (below_drewN _ ?_); go_grown; done))⟩)))


set_option maxHeartbeats 4000000 in
theorem s_combineValues_9 (ax ay az bx by' bz : Int) (w : World) :
    Calls Tryz.prog 51 #[.int .i64 9, .agg #[.int .i64 ax, .int .i64 ay, .int .i64 az], .agg #[.int .i64 bx, .int .i64 by', .int .i64 bz]] w fun e w' => e = .returned (.tuple #[.agg #[.int .i64 (Agg.aComb 9 ⟨ax, ay, az⟩ ⟨bx, by', bz⟩).1.x, .int .i64 (Agg.aComb 9 ⟨ax, ay, az⟩ ⟨bx, by', bz⟩).1.y, .int .i64 (Agg.aComb 9 ⟨ax, ay, az⟩ ⟨bx, by', bz⟩).1.z], .bool (Agg.aComb 9 ⟨ax, ay, az⟩ ⟨bx, by', bz⟩).2]) ∧ Below w.heap.size w w' := by
  have hkk : ∀ v, Agg.valid 9 v = Agg.ok 9 v := fun v => by simp [Agg.valid, Agg.isKind]
  have HK := Lib.hid hkk; clear hkk
  cases ha : Agg.valid 9 ⟨ax, ay, az⟩
  · have e : Agg.aComb 9 ⟨ax, ay, az⟩ ⟨bx, by', bz⟩ = (Agg.zero, false) := by simp [Agg.aComb, Agg.give, ha]
    rw [e]
    go_enter Tryz.func51, Tryz.ntmps51
    go_wp2_with (go_at_call 56; refine (s_valueValid_9 _ _ _ _).mono ?_; rintro e w1 ⟨rfl, hb1⟩; obtain ⟨hc1, hf1⟩ := bcell hb1; obtain ⟨hz0, hz1, hz2⟩ : w.heap.size < w1.heap.size ∧ w.heap.size + 1 < w1.heap.size ∧ w.heap.size + 1 + 1 < w1.heap.size := (by have hzz := hb1.size; (try simp at hzz); omega); have hB1 : Below w.heap.size w w1 := Below.trans (by go_grown) (hb1.mono (by first | (simp; done) | (simp; omega) | omega)); clear hb1)
    refine bodyPost_ret (by simp [results, Tryz.results51, go_sem, *]; try rfl) rfl ?_
    exact ⟨ret_agg_bool rfl rfl rfl rfl, (by first | (go_grown; done) | (refine below_drewN ?_ _; go_grown; done) | (refine (below_drewN _ ?_); go_grown; done))⟩
  · cases hb : Agg.valid 9 ⟨bx, by', bz⟩
    · have e : Agg.aComb 9 ⟨ax, ay, az⟩ ⟨bx, by', bz⟩ = (Agg.zero, false) := by simp [Agg.aComb, Agg.give, hb]
      rw [e]
      go_enter Tryz.func51, Tryz.ntmps51
      go_wp2_with (go_at_call 56; refine (s_valueValid_9 _ _ _ _).mono ?_; rintro e w1 ⟨rfl, hb1⟩; obtain ⟨hc1, hf1⟩ := bcell hb1; obtain ⟨hz0, hz1, hz2⟩ : w.heap.size < w1.heap.size ∧ w.heap.size + 1 < w1.heap.size ∧ w.heap.size + 1 + 1 < w1.heap.size := (by have hzz := hb1.size; (try simp at hzz); omega); have hB1 : Below w.heap.size w w1 := Below.trans (by go_grown) (hb1.mono (by first | (simp; done) | (simp; omega) | omega)); clear hb1)
      refine bodyPost_ret (by simp [results, Tryz.results51, go_sem, *]; try rfl) rfl ?_
      exact ⟨ret_agg_bool rfl rfl rfl rfl, (by first | (go_grown; done) | (refine below_drewN ?_ _; go_grown; done) | (refine (below_drewN _ ?_); go_grown; done))⟩
    · have oa : Agg.ok 9 ⟨ax, ay, az⟩ = true := (HK.out _).symm.trans ha
      have ob : Agg.ok 9 ⟨bx, by', bz⟩ = true := (HK.out _).symm.trans hb
      have OA := Lib.hid oa; clear oa
      have OB := Lib.hid ob; clear ob
      cases hc : Agg.ok 9 (Agg.comb 9 ⟨ax, ay, az⟩ ⟨bx, by', bz⟩)
      · have e : Agg.aComb 9 ⟨ax, ay, az⟩ ⟨bx, by', bz⟩ = (Agg.zero, false) := by simp [Agg.aComb, Agg.give, hc]
        rw [e]
        go_enter Tryz.func51, Tryz.ntmps51
        go_wp2_with (first | (go_at_call 56; refine (s_valueValid_9 _ _ _ _).mono ?_; rintro e w1 ⟨rfl, hb1⟩; obtain ⟨hc1, hf1⟩ := bcell hb1; obtain ⟨hz0, hz1, hz2⟩ : w.heap.size < w1.heap.size ∧ w.heap.size + 1 < w1.heap.size ∧ w.heap.size + 1 + 1 < w1.heap.size := (by have hzz := hb1.size; (try simp at hzz); omega); have hB1 : Below w.heap.size w w1 := Below.trans (by go_grown) (hb1.mono (by first | (simp; done) | (simp; omega) | omega)); clear hb1) | (go_at_call 88; refine (s_combine_9 _ _ _ _ _ _ _ OA.out OB.out).mono ?_; rintro e w1 ⟨rfl, hb1⟩; obtain ⟨hc1, hf1⟩ := bcell hb1; obtain ⟨hz0, hz1, hz2⟩ : w.heap.size < w1.heap.size ∧ w.heap.size + 1 < w1.heap.size ∧ w.heap.size + 1 + 1 < w1.heap.size := (by have hzz := hb1.size; (try simp at hzz); omega); have hB1 : Below w.heap.size w w1 := Below.trans (by go_grown) (hb1.mono (by first | (simp; done) | (simp; omega) | omega)); clear hb1) | (go_at_call 58; refine (s_is_9 _ _ _ _).mono ?_; rintro e w1 ⟨rfl, hb1⟩; obtain ⟨hc1, hf1⟩ := bcell hb1; obtain ⟨hz0, hz1, hz2⟩ : w.heap.size < w1.heap.size ∧ w.heap.size + 1 < w1.heap.size ∧ w.heap.size + 1 + 1 < w1.heap.size := (by have hzz := hb1.size; (try simp at hzz); omega); have hB1 : Below w.heap.size w w1 := Below.trans (by go_grown) (hb1.mono (by first | (simp; done) | (simp; omega) | omega)); clear hb1))
        refine bodyPost_ret (by simp [results, Tryz.results51, go_sem, *]; try rfl) rfl ?_
        exact ⟨ret_agg_bool rfl rfl rfl rfl, (by first | (go_grown; done) | (refine below_drewN ?_ _; go_grown; done) | (refine (below_drewN _ ?_); go_grown; done))⟩
      · have e : Agg.aComb 9 ⟨ax, ay, az⟩ ⟨bx, by', bz⟩ = (Agg.comb 9 ⟨ax, ay, az⟩ ⟨bx, by', bz⟩, true) := by simp [Agg.aComb, Agg.give, ha, hb, hc]
        rw [e]
        go_enter Tryz.func51, Tryz.ntmps51
        go_wp2_with (first | (go_at_call 56; refine (s_valueValid_9 _ _ _ _).mono ?_; rintro e w1 ⟨rfl, hb1⟩; obtain ⟨hc1, hf1⟩ := bcell hb1; obtain ⟨hz0, hz1, hz2⟩ : w.heap.size < w1.heap.size ∧ w.heap.size + 1 < w1.heap.size ∧ w.heap.size + 1 + 1 < w1.heap.size := (by have hzz := hb1.size; (try simp at hzz); omega); have hB1 : Below w.heap.size w w1 := Below.trans (by go_grown) (hb1.mono (by first | (simp; done) | (simp; omega) | omega)); clear hb1) | (go_at_call 88; refine (s_combine_9 _ _ _ _ _ _ _ OA.out OB.out).mono ?_; rintro e w1 ⟨rfl, hb1⟩; obtain ⟨hc1, hf1⟩ := bcell hb1; obtain ⟨hz0, hz1, hz2⟩ : w.heap.size < w1.heap.size ∧ w.heap.size + 1 < w1.heap.size ∧ w.heap.size + 1 + 1 < w1.heap.size := (by have hzz := hb1.size; (try simp at hzz); omega); have hB1 : Below w.heap.size w w1 := Below.trans (by go_grown) (hb1.mono (by first | (simp; done) | (simp; omega) | omega)); clear hb1) | (go_at_call 58; refine (s_is_9 _ _ _ _).mono ?_; rintro e w1 ⟨rfl, hb1⟩; obtain ⟨hc1, hf1⟩ := bcell hb1; obtain ⟨hz0, hz1, hz2⟩ : w.heap.size < w1.heap.size ∧ w.heap.size + 1 < w1.heap.size ∧ w.heap.size + 1 + 1 < w1.heap.size := (by have hzz := hb1.size; (try simp at hzz); omega); have hB1 : Below w.heap.size w w1 := Below.trans (by go_grown) (hb1.mono (by first | (simp; done) | (simp; omega) | omega)); clear hb1))
        refine bodyPost_ret (by simp [results, Tryz.results51, go_sem, *]; try rfl) rfl ?_
        exact ⟨rfl, (by first | (go_grown; done) | (refine below_drewN ?_ _; go_grown; done) | (refine (below_drewN _ ?_); go_grown; done))⟩

set_option maxHeartbeats 1000000 in
theorem s_lower_9 (x y z : Int) (w : World) (h : Agg.ok 9 ⟨x, y, z⟩ = true) :
    Calls Tryz.prog 97 #[.int .i64 9, .agg #[.int .i64 x, .int .i64 y, .int .i64 z]] w fun e w' => e = .returned (.tuple #[.int .i64 (Agg.low 9 ⟨x, y, z⟩).1, .bool (Agg.low 9 ⟨x, y, z⟩).2]) ∧ Below w.heap.size w w' := by
  obtain ⟨hx0, hx1, hy0, hy1, hz0, hz1⟩ := Agg.ok_bounds h
  simp only at hx0 hx1 hy0 hy1 hz0 hz1
  
  clear h
  go_each [z = 0] => (go_enter Tryz.func97, Tryz.ntmps97; go_wp2; (all_goals (try (go_quiet (fail); go_wp2))); (all_goals (go_returns; exact ⟨ret_int_bool (by simp [Agg.low, *] <;> omega) (by simp [Agg.low, *] <;> omega), (by first | (go_grown; done) | (refine below_drewN ?_ _; go_grown; done) | (refine (below_drewN _ ?_); go_grown; done))⟩)))



theorem s_kind_10 (w : World) : Calls Tryz.prog 64 #[.int .i64 10] w fun e w' => e = .returned (.bool true) ∧ w = w' := by
  go_enter Tryz.func64, Tryz.ntmps64
  go_wp2
  go_returns
  exact ⟨rfl, rfl⟩
set_option maxHeartbeats 1000000 in
theorem s_is_10 (x y z : Int) (w : World) :
    Calls Tryz.prog 58 #[.int .i64 10, .agg #[.int .i64 x, .int .i64 y, .int .i64 z]] w fun e w' => e = .returned (.bool (Agg.ok 10 ⟨x, y, z⟩)) ∧ Below w.heap.size w w' := by
  go_each [z = 0] => (go_enter Tryz.func58, Tryz.ntmps58; go_wp2; (all_goals (go_returns; exact ⟨ret_bool (by rw [Bool.eq_iff_iff]; simp [Agg.ok, *] <;> omega), (by first | (go_grown; done) | (refine below_drewN ?_ _; go_grown; done) | (refine (below_drewN _ ?_); go_grown; done))⟩)))


set_option maxHeartbeats 1000000 in
theorem s_valueValid_10 (x y z : Int) (w : World) :
    Calls Tryz.prog 56 #[.int .i64 10, .agg #[.int .i64 x, .int .i64 y, .int .i64 z]] w fun e w' => e = .returned (.bool (Agg.valid 10 ⟨x, y, z⟩)) ∧ Below w.heap.size w w' := by
  go_enter Tryz.func56, Tryz.ntmps56
  go_wp2_with (first | (go_at_call 64; refine (s_kind_10 _).mono ?_; rintro e w1 ⟨rfl, rfl⟩) | (go_at_call 58; refine (s_is_10 _ _ _ _).mono ?_; rintro e w1 ⟨rfl, hb1⟩; obtain ⟨hc1, hf1⟩ := bcell hb1; obtain hz0 : w.heap.size < w1.heap.size := (by have hzz := hb1.size; (try simp at hzz); omega); have hB1 : Below w.heap.size w w1 := Below.trans (by go_grown) (hb1.mono (by first | (simp; done) | (simp; omega) | omega)); clear hb1))
  go_returns
  exact ⟨ret_bool (by simp [Agg.valid, Agg.isKind]), (by first | (go_grown; done) | (refine below_drewN ?_ _; go_grown; done) | (refine (below_drewN _ ?_); go_grown; done))⟩

theorem s_unit_10 (w : World) :
    Calls Tryz.prog 87 #[.int .i64 10] w fun e w' => e = .returned (.agg #[.int .i64 (Agg.unit 10).x, .int .i64 (Agg.unit 10).y, .int .i64 (Agg.unit 10).z]) ∧ Below w.heap.size w w' := by
  go_enter Tryz.func87, Tryz.ntmps87
  go_wp2
  all_goals (go_returns; exact ⟨ret_agg (by simp [Agg.unit]) (by simp [Agg.unit]) (by simp [Agg.unit]), (by first | (go_grown; done) | (refine below_drewN ?_ _; go_grown; done) | (refine (below_drewN _ ?_); go_grown; done))⟩)


theorem s_lift_10 (n : Int) (w : World) (_h0 : 0 ≤ n) (_h1 : n ≤ 96) :
    Calls Tryz.prog 98 #[.int .i64 10, .int .i64 n] w fun e w' => e = .returned (.agg #[.int .i64 (Agg.lift 10 n).x, .int .i64 (Agg.lift 10 n).y, .int .i64 (Agg.lift 10 n).z]) ∧ Below w.heap.size w w' := by
  go_enter Tryz.func98, Tryz.ntmps98
  go_wp2
  all_goals (go_returns; exact ⟨ret_agg (by simp [Agg.lift] <;> omega) (by simp [Agg.lift] <;> omega) (by simp [Agg.lift] <;> omega), (by first | (go_grown; done) | (refine below_drewN ?_ _; go_grown; done) | (refine (below_drewN _ ?_); go_grown; done))⟩)


set_option maxHeartbeats 4000000 in
theorem s_combine_10 (ax ay az bx by' bz : Int) (w : World) (h : Agg.ok 10 ⟨ax, ay, az⟩ = true) (h' : Agg.ok 10 ⟨bx, by', bz⟩ = true) :
    Calls Tryz.prog 88 #[.int .i64 10, .agg #[.int .i64 ax, .int .i64 ay, .int .i64 az], .agg #[.int .i64 bx, .int .i64 by', .int .i64 bz]] w fun e w' => e = .returned (.agg #[.int .i64 (Agg.comb 10 ⟨ax, ay, az⟩ ⟨bx, by', bz⟩).x, .int .i64 (Agg.comb 10 ⟨ax, ay, az⟩ ⟨bx, by', bz⟩).y, .int .i64 (Agg.comb 10 ⟨ax, ay, az⟩ ⟨bx, by', bz⟩).z]) ∧ Below w.heap.size w w' := by
  obtain ⟨hx0, hx1, hy0, hy1, hz0, hz1⟩ := Agg.ok_bounds h
  obtain ⟨kx0, kx1, ky0, ky1, kz0, kz1⟩ := Agg.ok_bounds h'
  simp only at hx0 hx1 hy0 hy1 hz0 hz1 kx0 kx1 ky0 ky1 kz0 kz1
  
  have H := Lib.hid h; clear h
  have H' := Lib.hid h'; clear h'
  go_each [az = 0,bz = 0,ax < bx] => (go_enter Tryz.func88, Tryz.ntmps88; go_wp2;  (all_goals (go_returns; exact ⟨ret_agg (by simp [Agg.comb, *] <;> (repeat' split) <;> first | omega | rfl | (simp <;> omega)) (by simp [Agg.comb, *] <;> (repeat' split) <;> first | omega | rfl | (simp <;> omega)) (by simp [Agg.comb, *] <;> (repeat' split) <;> first | omega | rfl | (simp <;> omega)), (by first | (go_grown; done) | (refine below_drewN ?_ _; go_grown; done) | (refine (below_drewN _ ?_); go_grown; done))⟩)))


set_option maxHeartbeats 4000000 in
theorem s_combineValues_10 (ax ay az bx by' bz : Int) (w : World) :
    Calls Tryz.prog 51 #[.int .i64 10, .agg #[.int .i64 ax, .int .i64 ay, .int .i64 az], .agg #[.int .i64 bx, .int .i64 by', .int .i64 bz]] w fun e w' => e = .returned (.tuple #[.agg #[.int .i64 (Agg.aComb 10 ⟨ax, ay, az⟩ ⟨bx, by', bz⟩).1.x, .int .i64 (Agg.aComb 10 ⟨ax, ay, az⟩ ⟨bx, by', bz⟩).1.y, .int .i64 (Agg.aComb 10 ⟨ax, ay, az⟩ ⟨bx, by', bz⟩).1.z], .bool (Agg.aComb 10 ⟨ax, ay, az⟩ ⟨bx, by', bz⟩).2]) ∧ Below w.heap.size w w' := by
  have hkk : ∀ v, Agg.valid 10 v = Agg.ok 10 v := fun v => by simp [Agg.valid, Agg.isKind]
  have HK := Lib.hid hkk; clear hkk
  cases ha : Agg.valid 10 ⟨ax, ay, az⟩
  · have e : Agg.aComb 10 ⟨ax, ay, az⟩ ⟨bx, by', bz⟩ = (Agg.zero, false) := by simp [Agg.aComb, Agg.give, ha]
    rw [e]
    go_enter Tryz.func51, Tryz.ntmps51
    go_wp2_with (go_at_call 56; refine (s_valueValid_10 _ _ _ _).mono ?_; rintro e w1 ⟨rfl, hb1⟩; obtain ⟨hc1, hf1⟩ := bcell hb1; obtain ⟨hz0, hz1, hz2⟩ : w.heap.size < w1.heap.size ∧ w.heap.size + 1 < w1.heap.size ∧ w.heap.size + 1 + 1 < w1.heap.size := (by have hzz := hb1.size; (try simp at hzz); omega); have hB1 : Below w.heap.size w w1 := Below.trans (by go_grown) (hb1.mono (by first | (simp; done) | (simp; omega) | omega)); clear hb1)
    refine bodyPost_ret (by simp [results, Tryz.results51, go_sem, *]; try rfl) rfl ?_
    exact ⟨ret_agg_bool rfl rfl rfl rfl, (by first | (go_grown; done) | (refine below_drewN ?_ _; go_grown; done) | (refine (below_drewN _ ?_); go_grown; done))⟩
  · cases hb : Agg.valid 10 ⟨bx, by', bz⟩
    · have e : Agg.aComb 10 ⟨ax, ay, az⟩ ⟨bx, by', bz⟩ = (Agg.zero, false) := by simp [Agg.aComb, Agg.give, hb]
      rw [e]
      go_enter Tryz.func51, Tryz.ntmps51
      go_wp2_with (go_at_call 56; refine (s_valueValid_10 _ _ _ _).mono ?_; rintro e w1 ⟨rfl, hb1⟩; obtain ⟨hc1, hf1⟩ := bcell hb1; obtain ⟨hz0, hz1, hz2⟩ : w.heap.size < w1.heap.size ∧ w.heap.size + 1 < w1.heap.size ∧ w.heap.size + 1 + 1 < w1.heap.size := (by have hzz := hb1.size; (try simp at hzz); omega); have hB1 : Below w.heap.size w w1 := Below.trans (by go_grown) (hb1.mono (by first | (simp; done) | (simp; omega) | omega)); clear hb1)
      refine bodyPost_ret (by simp [results, Tryz.results51, go_sem, *]; try rfl) rfl ?_
      exact ⟨ret_agg_bool rfl rfl rfl rfl, (by first | (go_grown; done) | (refine below_drewN ?_ _; go_grown; done) | (refine (below_drewN _ ?_); go_grown; done))⟩
    · have oa : Agg.ok 10 ⟨ax, ay, az⟩ = true := (HK.out _).symm.trans ha
      have ob : Agg.ok 10 ⟨bx, by', bz⟩ = true := (HK.out _).symm.trans hb
      have OA := Lib.hid oa; clear oa
      have OB := Lib.hid ob; clear ob
      cases hc : Agg.ok 10 (Agg.comb 10 ⟨ax, ay, az⟩ ⟨bx, by', bz⟩)
      · have e : Agg.aComb 10 ⟨ax, ay, az⟩ ⟨bx, by', bz⟩ = (Agg.zero, false) := by simp [Agg.aComb, Agg.give, hc]
        rw [e]
        go_enter Tryz.func51, Tryz.ntmps51
        go_wp2_with (first | (go_at_call 56; refine (s_valueValid_10 _ _ _ _).mono ?_; rintro e w1 ⟨rfl, hb1⟩; obtain ⟨hc1, hf1⟩ := bcell hb1; obtain ⟨hz0, hz1, hz2⟩ : w.heap.size < w1.heap.size ∧ w.heap.size + 1 < w1.heap.size ∧ w.heap.size + 1 + 1 < w1.heap.size := (by have hzz := hb1.size; (try simp at hzz); omega); have hB1 : Below w.heap.size w w1 := Below.trans (by go_grown) (hb1.mono (by first | (simp; done) | (simp; omega) | omega)); clear hb1) | (go_at_call 88; refine (s_combine_10 _ _ _ _ _ _ _ OA.out OB.out).mono ?_; rintro e w1 ⟨rfl, hb1⟩; obtain ⟨hc1, hf1⟩ := bcell hb1; obtain ⟨hz0, hz1, hz2⟩ : w.heap.size < w1.heap.size ∧ w.heap.size + 1 < w1.heap.size ∧ w.heap.size + 1 + 1 < w1.heap.size := (by have hzz := hb1.size; (try simp at hzz); omega); have hB1 : Below w.heap.size w w1 := Below.trans (by go_grown) (hb1.mono (by first | (simp; done) | (simp; omega) | omega)); clear hb1) | (go_at_call 58; refine (s_is_10 _ _ _ _).mono ?_; rintro e w1 ⟨rfl, hb1⟩; obtain ⟨hc1, hf1⟩ := bcell hb1; obtain ⟨hz0, hz1, hz2⟩ : w.heap.size < w1.heap.size ∧ w.heap.size + 1 < w1.heap.size ∧ w.heap.size + 1 + 1 < w1.heap.size := (by have hzz := hb1.size; (try simp at hzz); omega); have hB1 : Below w.heap.size w w1 := Below.trans (by go_grown) (hb1.mono (by first | (simp; done) | (simp; omega) | omega)); clear hb1))
        refine bodyPost_ret (by simp [results, Tryz.results51, go_sem, *]; try rfl) rfl ?_
        exact ⟨ret_agg_bool rfl rfl rfl rfl, (by first | (go_grown; done) | (refine below_drewN ?_ _; go_grown; done) | (refine (below_drewN _ ?_); go_grown; done))⟩
      · have e : Agg.aComb 10 ⟨ax, ay, az⟩ ⟨bx, by', bz⟩ = (Agg.comb 10 ⟨ax, ay, az⟩ ⟨bx, by', bz⟩, true) := by simp [Agg.aComb, Agg.give, ha, hb, hc]
        rw [e]
        go_enter Tryz.func51, Tryz.ntmps51
        go_wp2_with (first | (go_at_call 56; refine (s_valueValid_10 _ _ _ _).mono ?_; rintro e w1 ⟨rfl, hb1⟩; obtain ⟨hc1, hf1⟩ := bcell hb1; obtain ⟨hz0, hz1, hz2⟩ : w.heap.size < w1.heap.size ∧ w.heap.size + 1 < w1.heap.size ∧ w.heap.size + 1 + 1 < w1.heap.size := (by have hzz := hb1.size; (try simp at hzz); omega); have hB1 : Below w.heap.size w w1 := Below.trans (by go_grown) (hb1.mono (by first | (simp; done) | (simp; omega) | omega)); clear hb1) | (go_at_call 88; refine (s_combine_10 _ _ _ _ _ _ _ OA.out OB.out).mono ?_; rintro e w1 ⟨rfl, hb1⟩; obtain ⟨hc1, hf1⟩ := bcell hb1; obtain ⟨hz0, hz1, hz2⟩ : w.heap.size < w1.heap.size ∧ w.heap.size + 1 < w1.heap.size ∧ w.heap.size + 1 + 1 < w1.heap.size := (by have hzz := hb1.size; (try simp at hzz); omega); have hB1 : Below w.heap.size w w1 := Below.trans (by go_grown) (hb1.mono (by first | (simp; done) | (simp; omega) | omega)); clear hb1) | (go_at_call 58; refine (s_is_10 _ _ _ _).mono ?_; rintro e w1 ⟨rfl, hb1⟩; obtain ⟨hc1, hf1⟩ := bcell hb1; obtain ⟨hz0, hz1, hz2⟩ : w.heap.size < w1.heap.size ∧ w.heap.size + 1 < w1.heap.size ∧ w.heap.size + 1 + 1 < w1.heap.size := (by have hzz := hb1.size; (try simp at hzz); omega); have hB1 : Below w.heap.size w w1 := Below.trans (by go_grown) (hb1.mono (by first | (simp; done) | (simp; omega) | omega)); clear hb1))
        refine bodyPost_ret (by simp [results, Tryz.results51, go_sem, *]; try rfl) rfl ?_
        exact ⟨rfl, (by first | (go_grown; done) | (refine below_drewN ?_ _; go_grown; done) | (refine (below_drewN _ ?_); go_grown; done))⟩

set_option maxHeartbeats 1000000 in
theorem s_lower_10 (x y z : Int) (w : World) (h : Agg.ok 10 ⟨x, y, z⟩ = true) :
    Calls Tryz.prog 97 #[.int .i64 10, .agg #[.int .i64 x, .int .i64 y, .int .i64 z]] w fun e w' => e = .returned (.tuple #[.int .i64 (Agg.low 10 ⟨x, y, z⟩).1, .bool (Agg.low 10 ⟨x, y, z⟩).2]) ∧ Below w.heap.size w w' := by
  obtain ⟨hx0, hx1, hy0, hy1, hz0, hz1⟩ := Agg.ok_bounds h
  simp only at hx0 hx1 hy0 hy1 hz0 hz1
  
  clear h
  go_each [z = 0] => (go_enter Tryz.func97, Tryz.ntmps97; go_wp2; (all_goals (try (go_quiet (fail); go_wp2))); (all_goals (go_returns; exact ⟨ret_int_bool (by simp [Agg.low, *] <;> omega) (by simp [Agg.low, *] <;> omega), (by first | (go_grown; done) | (refine below_drewN ?_ _; go_grown; done) | (refine (below_drewN _ ?_); go_grown; done))⟩)))



end Go.Proofs.YtfmkjpbmaogjpaaGreat
