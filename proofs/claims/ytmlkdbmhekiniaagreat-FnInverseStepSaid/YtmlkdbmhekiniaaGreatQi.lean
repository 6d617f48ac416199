import Derived.Test.YtmlkdbmhekiniaaGreatA
import Derived.Test.YtmlkdbmhekiniaaGreatMa
import Derived.Deep.RegionHeld3
import Derived.Test.YtmlkdbmhekiniaaGreatTb
import Derived.Stop.Asserts
/-
  Inverses modulo 97: by squares in the program, one by one in the model.
-/
namespace Go.Proofs.YtmlkdbmhekiniaaGreat
set_option linter.unusedSimpArgs false
open Go.RowKit
theorem ret_int {a b : Int} (h : a = b) : Ending.returned (.int .i64 a) = .returned (.int .i64 b) := by rw [h]

theorem s_back_any (n : Int) (w : World) (h0 : 1 ≤ n) (h1 : n ≤ 96) :
    Calls Tryz.prog 124 #[.int .i64 n] w fun e w' => e = .returned (.int .i64 (Agg.inv n)) ∧ w = w' := by
  go_enter Tryz.func124, Tryz.ntmps124
  go_wp2
  go_loop [3, 4] (fun o i => ∃ k : Nat, k ≤ 95 ∧ i = .int .i64 k ∧ o = .int .i64 (Agg.pow97 n k)) (fun _ i => 95 - (intOf i).toNat)
  case atStart => exact ⟨0, by omega, rfl, rfl⟩
  case round =>
    obtain ⟨k, hk, rfl, rfl⟩ := hrel
    obtain ⟨b0, b1⟩ := Agg.pow97_bounds n k
    obtain ⟨p0, p1⟩ := Agg.mul_bounds b0 b1 (show 0 ≤ n by omega) h1
    by_cases hlt : k < 95
    · have HS : Hid (Agg.pow97 n (k + 1) = Agg.pow97 n k * n % 97) := rfl
      go_wp2
      go_round
      case rel => exact ⟨k + 1, by omega, by go_num, by rw [HS.out]⟩
      case measure => simp [intOf]; omega
    · have hk' : k = 95 := by omega
      have HK := Lib.hid hk'; clear hk'
      go_wp2
      go_returns
      exact ⟨ret_int (by rw [HK.out]; rfl), rfl⟩

set_option maxHeartbeats 1000000 in
theorem inverse_any (n : Int) (w : World) (h0 : 1 ≤ n) (h1 : n ≤ 96) :
    Calls Tryz.prog 207 #[.int .i64 n] w fun e w' => e = .returned (.int .i64 (Agg.inv n)) ∧ w = w' := by
  have HR : Hid (Agg.sq n 95 1 8 = Agg.inv n) := Agg.sq_inv h0 h1
  obtain ⟨r, hr⟩ : ∃ r, r = Agg.inv n := ⟨_, rfl⟩
  rw [← hr] at HR ⊢
  clear hr
  go_enter Tryz.func207, Tryz.ntmps207
  go_wp2
  go_loop [0, 3, 4] (fun x y m => ∃ (X Y : Int) (k f : Nat), x = .int .i64 X ∧ y = .int .i64 Y ∧ m = .int .i64 k ∧ 0 ≤ X ∧ X ≤ 96 ∧ 0 ≤ Y ∧ Y ≤ 96 ∧ k ≤ 95 ∧ Hid (k < 2 ^ f) ∧ Hid (Agg.sq X k Y f = r)) (fun _ _ m => (intOf m).toNat)
  case atStart => exact ⟨n, 1, 95, 8, rfl, rfl, rfl, by omega, h1, by omega, by omega, by omega, by show 95 < 2 ^ 8; omega, HR⟩
  case round =>
    obtain ⟨X, Y, k, f, rfl, rfl, rfl, hX0, hX1, hY0, hY1, hk, HF, HQ⟩ := hrel
    obtain ⟨p0, p1⟩ := Agg.mul_bounds hX0 hX1 hX0 hX1
    obtain ⟨q0, q1⟩ := Agg.mul_bounds hY0 hY1 hX0 hX1
    clear HR
    by_cases hk0 : k = 0
    · have hy : Y = r := by
        have := HQ.out
        rw [hk0] at this
        cases f <;> simpa [Agg.sq] using this
      have HY := Lib.hid hy; clear hy
      subst hk0
      go_wp2
      go_returns
      exact ⟨ret_int HY.out, rfl⟩
    · have hpos : 0 < k := by omega
      clear hk0
      cases f with
      | zero => exact absurd HF.out (by simp; omega)
      | succ f =>
        have HF2 : Hid (k / 2 < 2 ^ f) := by have := HF.out; rw [Nat.pow_succ] at this; show k / 2 < 2 ^ f; omega
        by_cases hodd : k % 2 = 1
        · have HQ2 : Hid (Agg.sq (X * X % 97) (k / 2) (Y * X % 97) f = r) := by
            have := HQ.out; simp only [Agg.sq, if_neg (show ¬ k = 0 by omega), if_pos hodd] at this; exact this
          have hb : ((k : Int) % 2 == 1) = true := by simp; omega
          have HO := Lib.hid hodd; clear hodd
          go_wp2
          go_round
          case rel => exact ⟨X * X % 97, Y * X % 97, k / 2, f, rfl, rfl, by go_num, by omega, by omega, by omega, by omega, by omega, HF2, HQ2⟩
          case measure => simp [intOf]; omega
        · have HQ2 : Hid (Agg.sq (X * X % 97) (k / 2) Y f = r) := by
            have := HQ.out; simp only [Agg.sq, if_neg (show ¬ k = 0 by omega), if_neg hodd] at this; exact this
          have hb : ((k : Int) % 2 == 1) = false := by simp; omega
          have HO := Lib.hid hodd; clear hodd
          go_wp2
          go_round
          case rel => exact ⟨X * X % 97, Y, k / 2, f, rfl, rfl, by go_num, by omega, by omega, by omega, by omega, by omega, HF2, HQ2⟩
          case measure => simp [intOf]; omega

theorem less_any (a b : Int) (w : World) (_a0 : 0 ≤ a) (_a1 : a ≤ 96) (_b0 : 0 ≤ b) (_b1 : b ≤ 96) :
    Calls Tryz.prog 154 #[.int .i64 a, .int .i64 b] w fun e w' => e = .returned (.int .i64 ((a - b) % 97)) ∧ w = w' := by
  go_enter Tryz.func154, Tryz.ntmps154
  go_wp2
  go_returns
  exact ⟨ret_int (by omega), rfl⟩
end Go.Proofs.YtmlkdbmhekiniaaGreat

/-
  What is left of a whole without its first part, at the four kinds that have inverses.
-/
namespace Go.Proofs.YtmlkdbmhekiniaaGreat
set_option linter.unusedSimpArgs false
set_option linter.unusedVariables false
open Go.RowKit
theorem Agg.ok_1 {ax ay az bx by' bz : Int} (h : Agg.ok 1 ⟨ax, ay, az⟩ = true) (h' : Agg.ok 1 ⟨bx, by', bz⟩ = true) : ax ≤ 96 ∧ bx ≤ 96 := by
  simp [Agg.ok] at h h'; omega
theorem Agg.ok_8' {x y z : Int} (h : Agg.ok 8 ⟨x, y, z⟩ = true) : 1 ≤ x ∧ x ≤ 96 ∧ 0 ≤ y ∧ y ≤ 96 := by
  simp [Agg.ok] at h; omega
set_option maxHeartbeats 2000000 in
theorem rest_1 (ax ay az bx by' bz : Int) (w : World) (h : Agg.ok 1 ⟨ax, ay, az⟩ = true) (h' : Agg.ok 1 ⟨bx, by', bz⟩ = true) :
    Calls Tryz.prog 151 #[.agg #[], .agg #[.int .i64 ax, .int .i64 ay, .int .i64 az], .agg #[.int .i64 bx, .int .i64 by', .int .i64 bz]] w fun e w' => e = .returned (.agg #[.int .i64 (Agg.rest 1 ⟨ax, ay, az⟩ ⟨bx, by', bz⟩).x, .int .i64 (Agg.rest 1 ⟨ax, ay, az⟩ ⟨bx, by', bz⟩).y, .int .i64 (Agg.rest 1 ⟨ax, ay, az⟩ ⟨bx, by', bz⟩).z]) ∧ Below w.heap.size w w' := by
  obtain ⟨hx0, hx1, hy0, hy1, hz0, hz1⟩ := Agg.ok_bounds h
  obtain ⟨kx0, kx1, ky0, ky1, kz0, kz1⟩ := Agg.ok_bounds h'
  simp only at hx0 hx1 hy0 hy1 hz0 hz1 kx0 kx1 ky0 ky1 kz0 kz1
  obtain ⟨hx2, kx2⟩ := Agg.ok_1 h h'
  have H := Lib.hid h; clear h
  have H' := Lib.hid h'; clear h'
  go_enter Tryz.func151, Tryz.ntmps151
  go_wp2_with (go_at_call 154; refine (less_any _ _ _ (by omega) (by omega) (by omega) (by omega)).mono ?_; rintro e w1 ⟨rfl, rfl⟩)
  all_goals (go_returns; exact ⟨ret_agg (by simp [Agg.rest] <;> omega) (by simp [Agg.rest] <;> omega) (by simp [Agg.rest] <;> omega), (by first | (go_grown; done) | (refine below_drewN ?_ _; go_grown; done) | (refine (below_drewN _ ?_); go_grown; done))⟩)
set_option maxHeartbeats 2000000 in
theorem rest_2 (ax ay az bx by' bz : Int) (w : World) (h : Agg.ok 2 ⟨ax, ay, az⟩ = true) (h' : Agg.ok 2 ⟨bx, by', bz⟩ = true) :
    Calls Tryz.prog 159 #[.agg #[], .agg #[.int .i64 ax, .int .i64 ay, .int .i64 az], .agg #[.int .i64 bx, .int .i64 by', .int .i64 bz]] w fun e w' => e = .returned (.agg #[.int .i64 (Agg.rest 2 ⟨ax, ay, az⟩ ⟨bx, by', bz⟩).x, .int .i64 (Agg.rest 2 ⟨ax, ay, az⟩ ⟨bx, by', bz⟩).y, .int .i64 (Agg.rest 2 ⟨ax, ay, az⟩ ⟨bx, by', bz⟩).z]) ∧ Below w.heap.size w w' := by
  obtain ⟨hx0, hx1, hy0, hy1, hz0, hz1⟩ := Agg.ok_bounds h
  obtain ⟨kx0, kx1, ky0, ky1, kz0, kz1⟩ := Agg.ok_bounds h'
  simp only at hx0 hx1 hy0 hy1 hz0 hz1 kx0 kx1 ky0 ky1 kz0 kz1
  
  have H := Lib.hid h; clear h
  have H' := Lib.hid h'; clear h'
  go_enter Tryz.func159, Tryz.ntmps159
  go_wp2
  all_goals (go_returns; exact ⟨ret_agg (by simp [Agg.rest] <;> omega) (by simp [Agg.rest] <;> omega) (by simp [Agg.rest] <;> omega), (by first | (go_grown; done) | (refine below_drewN ?_ _; go_grown; done) | (refine (below_drewN _ ?_); go_grown; done))⟩)
set_option maxHeartbeats 2000000 in
theorem rest_7 (ax ay az bx by' bz : Int) (w : World) (h : Agg.ok 7 ⟨ax, ay, az⟩ = true) (h' : Agg.ok 7 ⟨bx, by', bz⟩ = true) :
    Calls Tryz.prog 197 #[.agg #[], .agg #[.int .i64 ax, .int .i64 ay, .int .i64 az], .agg #[.int .i64 bx, .int .i64 by', .int .i64 bz]] w fun e w' => e = .returned (.agg #[.int .i64 (Agg.rest 7 ⟨ax, ay, az⟩ ⟨bx, by', bz⟩).x, .int .i64 (Agg.rest 7 ⟨ax, ay, az⟩ ⟨bx, by', bz⟩).y, .int .i64 (Agg.rest 7 ⟨ax, ay, az⟩ ⟨bx, by', bz⟩).z]) ∧ Below w.heap.size w w' := by
  obtain ⟨hx0, hx1, hy0, hy1, hz0, hz1⟩ := Agg.ok_bounds h
  obtain ⟨kx0, kx1, ky0, ky1, kz0, kz1⟩ := Agg.ok_bounds h'
  simp only at hx0 hx1 hy0 hy1 hz0 hz1 kx0 kx1 ky0 ky1 kz0 kz1
  
  have H := Lib.hid h; clear h
  have H' := Lib.hid h'; clear h'
  go_enter Tryz.func197, Tryz.ntmps197
  go_wp2
  all_goals (go_returns; exact ⟨ret_agg (by simp [Agg.rest] <;> omega) (by simp [Agg.rest] <;> omega) (by simp [Agg.rest] <;> omega), (by first | (go_grown; done) | (refine below_drewN ?_ _; go_grown; done) | (refine (below_drewN _ ?_); go_grown; done))⟩)
set_option maxHeartbeats 2000000 in
theorem rest_8 (ax ay az bx by' bz : Int) (w : World) (h : Agg.ok 8 ⟨ax, ay, az⟩ = true) (h' : Agg.ok 8 ⟨bx, by', bz⟩ = true) :
    Calls Tryz.prog 204 #[.agg #[], .agg #[.int .i64 ax, .int .i64 ay, .int .i64 az], .agg #[.int .i64 bx, .int .i64 by', .int .i64 bz]] w fun e w' => e = .returned (.agg #[.int .i64 (Agg.rest 8 ⟨ax, ay, az⟩ ⟨bx, by', bz⟩).x, .int .i64 (Agg.rest 8 ⟨ax, ay, az⟩ ⟨bx, by', bz⟩).y, .int .i64 (Agg.rest 8 ⟨ax, ay, az⟩ ⟨bx, by', bz⟩).z]) ∧ Below w.heap.size w w' := by
  obtain ⟨hx0, hx1, hy0, hy1, hz0, hz1⟩ := Agg.ok_bounds h
  obtain ⟨kx0, kx1, ky0, ky1, kz0, kz1⟩ := Agg.ok_bounds h'
  simp only at hx0 hx1 hy0 hy1 hz0 hz1 kx0 kx1 ky0 ky1 kz0 kz1
  obtain ⟨a0, a1, a2, a3⟩ := Agg.ok_8' h; obtain ⟨b0, b1, b2, b3⟩ := Agg.ok_8' h'; obtain ⟨-, i0, i1⟩ := Agg.inv_spec a0 a1; obtain ⟨p0, p1⟩ := Agg.mul_bounds kx0 b1 (show 0 ≤ Agg.inv ax by omega) i1; obtain ⟨r0, r1⟩ := Agg.mul_bounds hy0 a3 (Agg.mod97 (bx * Agg.inv ax)).1 (Agg.mod97 (bx * Agg.inv ax)).2
  have H := Lib.hid h; clear h
  have H' := Lib.hid h'; clear h'
  go_enter Tryz.func204, Tryz.ntmps204
  go_wp2_with fail; go_region_with (go_at_call 207; refine (inverse_any _ _ (by omega) (by omega)).mono ?_; rintro e w1 ⟨rfl, rfl⟩); (all_goals go_wp2_with (go_at_call 154; refine (less_any _ _ _ (by omega) (by omega) (by omega) (by omega)).mono ?_; rintro e w1 ⟨rfl, rfl⟩))
  all_goals (go_returns; exact ⟨ret_agg (by simp [Agg.rest] <;> omega) (by simp [Agg.rest] <;> omega) (by simp [Agg.rest] <;> omega), (by first | (go_grown; done) | (refine below_drewN ?_ _; go_grown; done) | (refine (below_drewN _ ?_); go_grown; done))⟩)
end Go.Proofs.YtmlkdbmhekiniaaGreat

/-
  The kinds in which first items can be removed, as the program's interface value; for all of them at once.
-/
namespace Go.Proofs.YtmlkdbmhekiniaaGreat
set_option linter.unusedSimpArgs false
set_option linter.unusedVariables false
open Go.RowKit
theorem rassert_1 (w : World) : (Instr.typeAssert (.iface 142 (.agg #[])) 88 80 true).run Tryz.prog w = .ok (.tuple #[.iface 142 (.agg #[]), .bool true]) w := by kernel_rfl
theorem removerOf_1 (w : World) : Calls Tryz.prog 57 #[.int .i64 1] w fun e w' => e = .returned (.tuple #[.iface 142 (.agg #[]), .bool true]) ∧ w = w' := by
  have hta := rassert_1
  go_enter Tryz.func57, Tryz.ntmps57
  go_wp2_with fail
  refine (kindOf_1 _).mono ?_
  rintro e w1 ⟨rfl, rfl⟩
  go_wp2_with fail
  go_returns
  exact ⟨rfl, rfl⟩
theorem rassert_2 (w : World) : (Instr.typeAssert (.iface 143 (.agg #[])) 88 80 true).run Tryz.prog w = .ok (.tuple #[.iface 143 (.agg #[]), .bool true]) w := by kernel_rfl
theorem removerOf_2 (w : World) : Calls Tryz.prog 57 #[.int .i64 2] w fun e w' => e = .returned (.tuple #[.iface 143 (.agg #[]), .bool true]) ∧ w = w' := by
  have hta := rassert_2
  go_enter Tryz.func57, Tryz.ntmps57
  go_wp2_with fail
  refine (kindOf_2 _).mono ?_
  rintro e w1 ⟨rfl, rfl⟩
  go_wp2_with fail
  go_returns
  exact ⟨rfl, rfl⟩
theorem rassert_7 (w : World) : (Instr.typeAssert (.iface 156 (.agg #[])) 88 80 true).run Tryz.prog w = .ok (.tuple #[.iface 156 (.agg #[]), .bool true]) w := by kernel_rfl
theorem removerOf_7 (w : World) : Calls Tryz.prog 57 #[.int .i64 7] w fun e w' => e = .returned (.tuple #[.iface 156 (.agg #[]), .bool true]) ∧ w = w' := by
  have hta := rassert_7
  go_enter Tryz.func57, Tryz.ntmps57
  go_wp2_with fail
  refine (kindOf_7 _).mono ?_
  rintro e w1 ⟨rfl, rfl⟩
  go_wp2_with fail
  go_returns
  exact ⟨rfl, rfl⟩
theorem rassert_8 (w : World) : (Instr.typeAssert (.iface 157 (.agg #[])) 88 80 true).run Tryz.prog w = .ok (.tuple #[.iface 157 (.agg #[]), .bool true]) w := by kernel_rfl
theorem removerOf_8 (w : World) : Calls Tryz.prog 57 #[.int .i64 8] w fun e w' => e = .returned (.tuple #[.iface 157 (.agg #[]), .bool true]) ∧ w = w' := by
  have hta := rassert_8
  go_enter Tryz.func57, Tryz.ntmps57
  go_wp2_with fail
  refine (kindOf_8 _).mono ?_
  rintro e w1 ⟨rfl, rfl⟩
  go_wp2_with fail
  go_returns
  exact ⟨rfl, rfl⟩
theorem rassert_3 (w : World) : (Instr.typeAssert (.iface 146 (.agg #[])) 88 80 true).run Tryz.prog w = .ok (.tuple #[.nilIface, .bool false]) w := run_typeAssert_lacksB Tryz.underlying80 (by kernel_rfl) (by kernel_rfl) _ _ _
theorem removerOf_3 (w : World) : Calls Tryz.prog 57 #[.int .i64 3] w fun e w' => e = .returned (.tuple #[.nilIface, .bool false]) ∧ w = w' := by
  have hta := rassert_3
  go_enter Tryz.func57, Tryz.ntmps57
  go_wp2_with fail
  refine (kindOf_3 _).mono ?_
  rintro e w1 ⟨rfl, rfl⟩
  go_wp2_with fail
  go_returns
  exact ⟨rfl, rfl⟩
theorem rassert_4 (w : World) : (Instr.typeAssert (.iface 149 (.agg #[])) 88 80 true).run Tryz.prog w = .ok (.tuple #[.nilIface, .bool false]) w := run_typeAssert_lacksB Tryz.underlying80 (by kernel_rfl) (by kernel_rfl) _ _ _
theorem removerOf_4 (w : World) : Calls Tryz.prog 57 #[.int .i64 4] w fun e w' => e = .returned (.tuple #[.nilIface, .bool false]) ∧ w = w' := by
  have hta := rassert_4
  go_enter Tryz.func57, Tryz.ntmps57
  go_wp2_with fail
  refine (kindOf_4 _).mono ?_
  rintro e w1 ⟨rfl, rfl⟩
  go_wp2_with fail
  go_returns
  exact ⟨rfl, rfl⟩
theorem rassert_5 (w : World) : (Instr.typeAssert (.iface 152 (.agg #[])) 88 80 true).run Tryz.prog w = .ok (.tuple #[.nilIface, .bool false]) w := run_typeAssert_lacksB Tryz.underlying80 (by kernel_rfl) (by kernel_rfl) _ _ _
theorem removerOf_5 (w : World) : Calls Tryz.prog 57 #[.int .i64 5] w fun e w' => e = .returned (.tuple #[.nilIface, .bool false]) ∧ w = w' := by
  have hta := rassert_5
  go_enter Tryz.func57, Tryz.ntmps57
  go_wp2_with fail
  refine (kindOf_5 _).mono ?_
  rintro e w1 ⟨rfl, rfl⟩
  go_wp2_with fail
  go_returns
  exact ⟨rfl, rfl⟩
theorem rassert_6 (w : World) : (Instr.typeAssert (.iface 155 (.agg #[])) 88 80 true).run Tryz.prog w = .ok (.tuple #[.nilIface, .bool false]) w := run_typeAssert_lacksB Tryz.underlying80 (by kernel_rfl) (by kernel_rfl) _ _ _
theorem removerOf_6 (w : World) : Calls Tryz.prog 57 #[.int .i64 6] w fun e w' => e = .returned (.tuple #[.nilIface, .bool false]) ∧ w = w' := by
  have hta := rassert_6
  go_enter Tryz.func57, Tryz.ntmps57
  go_wp2_with fail
  refine (kindOf_6 _).mono ?_
  rintro e w1 ⟨rfl, rfl⟩
  go_wp2_with fail
  go_returns
  exact ⟨rfl, rfl⟩
theorem rassert_9 (w : World) : (Instr.typeAssert (.iface 158 (.agg #[])) 88 80 true).run Tryz.prog w = .ok (.tuple #[.nilIface, .bool false]) w := run_typeAssert_lacksB Tryz.underlying80 (by kernel_rfl) (by kernel_rfl) _ _ _
theorem removerOf_9 (w : World) : Calls Tryz.prog 57 #[.int .i64 9] w fun e w' => e = .returned (.tuple #[.nilIface, .bool false]) ∧ w = w' := by
  have hta := rassert_9
  go_enter Tryz.func57, Tryz.ntmps57
  go_wp2_with fail
  refine (kindOf_9 _).mono ?_
  rintro e w1 ⟨rfl, rfl⟩
  go_wp2_with fail
  go_returns
  exact ⟨rfl, rfl⟩
theorem rassert_10 (w : World) : (Instr.typeAssert (.iface 159 (.agg #[])) 88 80 true).run Tryz.prog w = .ok (.tuple #[.nilIface, .bool false]) w := run_typeAssert_lacksB Tryz.underlying80 (by kernel_rfl) (by kernel_rfl) _ _ _
theorem removerOf_10 (w : World) : Calls Tryz.prog 57 #[.int .i64 10] w fun e w' => e = .returned (.tuple #[.nilIface, .bool false]) ∧ w = w' := by
  have hta := rassert_10
  go_enter Tryz.func57, Tryz.ntmps57
  go_wp2_with fail
  refine (kindOf_10 _).mono ?_
  rintro e w1 ⟨rfl, rfl⟩
  go_wp2_with fail
  go_returns
  exact ⟨rfl, rfl⟩
theorem removerOf_not (k : Int) (w : World) (h : Agg.removes k = false) : Calls Tryz.prog 57 #[.int .i64 k] w fun e w' => e = .returned (.tuple #[.nilIface, .bool false]) ∧ w = w' := by
  cases hk : Agg.isKind k
  · have hk2 := Lib.hid (show ¬ (1 ≤ k ∧ k ≤ 10) by simpa [Agg.isKind] using hk)
    clear h hk
    go_enter Tryz.func57, Tryz.ntmps57
    go_wp2_with fail
    refine (kindOf_not _ _ hk2.out).mono ?_
    rintro e w1 ⟨rfl, rfl⟩
    go_wp2_with fail
    go_returns
    exact ⟨rfl, rfl⟩
  · rcases Agg.kinds hk with rfl | rfl | rfl | rfl | rfl | rfl | rfl | rfl | rfl | rfl
    · exact absurd h (by decide)
    · exact absurd h (by decide)
    · exact removerOf_3 w
    · exact removerOf_4 w
    · exact removerOf_5 w
    · exact removerOf_6 w
    · exact absurd h (by decide)
    · exact absurd h (by decide)
    · exact removerOf_9 w
    · exact removerOf_10 w
structure RemAt (k : Int) (T fu fl fc fr : Nat) : Prop where
  K : KindAt k T fu fl fc
  of : ∀ w, Calls Tryz.prog 57 #[.int .i64 k] w fun e w' => e = .returned (.tuple #[.iface T (.agg #[]), .bool true]) ∧ w = w'
  mr : ∀ w, Sem.run Tryz.prog (Go.method 298 T (.agg #[]) "loop.example/windowaggregates/impl.rest") w = .ok (fr, .agg #[]) w
  ar : ∀ w, Sem.run Tryz.prog (Go.nilAhead 298 T (.agg #[]) "loop.example/windowaggregates/impl.rest") w = .ok (some false) w
  cr : ∀ args w, Sem.run Tryz.prog (Go.callFunc fr args) w = .ok (.enter fr args) w
  rest : ∀ (ax ay az bx by' bz : Int) w, Agg.ok k ⟨ax, ay, az⟩ = true → Agg.ok k ⟨bx, by', bz⟩ = true → Calls Tryz.prog fr #[.agg #[], .agg #[.int .i64 ax, .int .i64 ay, .int .i64 az], .agg #[.int .i64 bx, .int .i64 by', .int .i64 bz]] w fun e w' => e = .returned (.agg #[.int .i64 (Agg.rest k ⟨ax, ay, az⟩ ⟨bx, by', bz⟩).x, .int .i64 (Agg.rest k ⟨ax, ay, az⟩ ⟨bx, by', bz⟩).y, .int .i64 (Agg.rest k ⟨ax, ay, az⟩ ⟨bx, by', bz⟩).z]) ∧ Below w.heap.size w w'
theorem remAt_1 : RemAt 1 142 152 149 147 151 :=
  ⟨kindAt_1, removerOf_1, fun w => by kernel_rfl, fun w => by kernel_rfl, fun args w => by kernel_rfl, fun ax ay az bx by' bz w h h' => rest_1 ax ay az bx by' bz w h h'⟩
theorem remAt_2 : RemAt 2 143 160 157 155 159 :=
  ⟨kindAt_2, removerOf_2, fun w => by kernel_rfl, fun w => by kernel_rfl, fun args w => by kernel_rfl, fun ax ay az bx by' bz w h h' => rest_2 ax ay az bx by' bz w h h'⟩
theorem remAt_7 : RemAt 7 156 198 195 193 197 :=
  ⟨kindAt_7, removerOf_7, fun w => by kernel_rfl, fun w => by kernel_rfl, fun args w => by kernel_rfl, fun ax ay az bx by' bz w h h' => rest_7 ax ay az bx by' bz w h h'⟩
theorem remAt_8 : RemAt 8 157 205 202 200 204 :=
  ⟨kindAt_8, removerOf_8, fun w => by kernel_rfl, fun w => by kernel_rfl, fun args w => by kernel_rfl, fun ax ay az bx by' bz w h h' => rest_8 ax ay az bx by' bz w h h'⟩
theorem rem_at {k : Int} (hk : Agg.removes k = true) : ∃ T fu fl fc fr, RemAt k T fu fl fc fr := by
  simp only [Agg.removes, decide_eq_true_eq] at hk
  rcases hk with rfl | rfl | rfl | rfl
  · exact ⟨_, _, _, _, _, remAt_1⟩
  · exact ⟨_, _, _, _, _, remAt_2⟩
  · exact ⟨_, _, _, _, _, remAt_7⟩
  · exact ⟨_, _, _, _, _, remAt_8⟩
end Go.Proofs.YtmlkdbmhekiniaaGreat
