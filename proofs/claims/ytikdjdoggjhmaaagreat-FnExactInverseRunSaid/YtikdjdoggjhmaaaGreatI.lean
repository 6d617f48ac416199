/-
  Inverses modulo 97: by squares in the program, one by one in the model.
-/
import Derived.Test.YtikdjdoggjhmaaaGreatA
import Derived.Test.YtikdjdoggjhmaaaGreatMa
namespace Go.Proofs.YtikdjdoggjhmaaaGreat
set_option linter.unusedSimpArgs false
open Go.RowKit
theorem ret_int {a b : Int} (h : a = b) : Ending.returned (.int .i64 a) = .returned (.int .i64 b) := by rw [h]

theorem s_back_any (n : Int) (w : World) (h0 : 1 ≤ n) (h1 : n ≤ 96) :
    Calls Tryz.prog 124 #[.int .i64 n] w fun e w' => e = .returned (.int .i64 (Agg.inv n)) ∧ w = w' := by
  go_enter Tryz.func124, Tryz.ntmps124
  go_wp2
  go_loop [3, 4] (fun o i => ∃ k : Nat, k ≤ 95 ∧ i = .int .i64 k ∧ o = .int .i64 (Agg.pow97 n k)) (fun _ i => 95 - (intOf i).toNat)
  case atStart => exact ⟨0, by omega, rfl, rfl⟩
  case round =>
    obtain ⟨k, hk, rfl, rfl⟩ := hrel
    obtain ⟨b0, b1⟩ := Agg.pow97_bounds n k
    obtain ⟨p0, p1⟩ := Agg.mul_bounds b0 b1 (show 0 ≤ n by omega) h1
    by_cases hlt : k < 95
    · have HS : Hid (Agg.pow97 n (k + 1) = Agg.pow97 n k * n % 97) := rfl
      go_wp2
      go_round
      case rel => exact ⟨k + 1, by omega, by go_num, by rw [HS.out]⟩
      case measure => simp [intOf]; omega
    · have hk' : k = 95 := by omega
      have HK := Lib.hid hk'; clear hk'
      go_wp2
      go_returns
      exact ⟨ret_int (by rw [HK.out]; rfl), rfl⟩

set_option maxHeartbeats 1000000 in
theorem inverse_any (n : Int) (w : World) (h0 : 1 ≤ n) (h1 : n ≤ 96) :
    Calls Tryz.prog 204 #[.int .i64 n] w fun e w' => e = .returned (.int .i64 (Agg.inv n)) ∧ w = w' := by
  have HR : Hid (Agg.sq n 95 1 8 = Agg.inv n) := Agg.sq_inv h0 h1
  obtain ⟨r, hr⟩ : ∃ r, r = Agg.inv n := ⟨_, rfl⟩
  rw [← hr] at HR ⊢
  clear hr
  go_enter Tryz.func204, Tryz.ntmps204
  go_wp2
  go_loop [0, 3, 4] (fun x y m => ∃ (X Y : Int) (k f : Nat), x = .int .i64 X ∧ y = .int .i64 Y ∧ m = .int .i64 k ∧ 0 ≤ X ∧ X ≤ 96 ∧ 0 ≤ Y ∧ Y ≤ 96 ∧ k ≤ 95 ∧ Hid (k < 2 ^ f) ∧ Hid (Agg.sq X k Y f = r)) (fun _ _ m => (intOf m).toNat)
  case atStart => exact ⟨n, 1, 95, 8, rfl, rfl, rfl, by omega, h1, by omega, by omega, by omega, by show 95 < 2 ^ 8; omega, HR⟩
  case round =>
    obtain ⟨X, Y, k, f, rfl, rfl, rfl, hX0, hX1, hY0, hY1, hk, HF, HQ⟩ := hrel
    obtain ⟨p0, p1⟩ := Agg.mul_bounds hX0 hX1 hX0 hX1
    obtain ⟨q0, q1⟩ := Agg.mul_bounds hY0 hY1 hX0 hX1
    clear HR
    by_cases hk0 : k = 0
    · have hy : Y = r := by
        have := HQ.out
        rw [hk0] at this
        cases f <;> simpa [Agg.sq] using this
      have HY := Lib.hid hy; clear hy
      subst hk0
      go_wp2
      go_returns
      exact ⟨ret_int HY.out, rfl⟩
    · have hpos : 0 < k := by omega
      clear hk0
      cases f with
      | zero => exact absurd HF.out (by simp; omega)
      | succ f =>
        have HF2 : Hid (k / 2 < 2 ^ f) := by have := HF.out; rw [Nat.pow_succ] at this; show k / 2 < 2 ^ f; omega
        by_cases hodd : k % 2 = 1
        · have HQ2 : Hid (Agg.sq (X * X % 97) (k / 2) (Y * X % 97) f = r) := by
            have := HQ.out; simp only [Agg.sq, if_neg (show ¬ k = 0 by omega), if_pos hodd] at this; exact this
          have hb : ((k : Int) % 2 == 1) = true := by simp; omega
          have HO := Lib.hid hodd; clear hodd
          go_wp2
          go_round
          case rel => exact ⟨X * X % 97, Y * X % 97, k / 2, f, rfl, rfl, by go_num, by omega, by omega, by omega, by omega, by omega, HF2, HQ2⟩
          case measure => simp [intOf]; omega
        · have HQ2 : Hid (Agg.sq (X * X % 97) (k / 2) Y f = r) := by
            have := HQ.out; simp only [Agg.sq, if_neg (show ¬ k = 0 by omega), if_neg hodd] at this; exact this
          have hb : ((k : Int) % 2 == 1) = false := by simp; omega
          have HO := Lib.hid hodd; clear hodd
          go_wp2
          go_round
          case rel => exact ⟨X * X % 97, Y, k / 2, f, rfl, rfl, by go_num, by omega, by omega, by omega, by omega, by omega, HF2, HQ2⟩
          case measure => simp [intOf]; omega

theorem less_any (a b : Int) (w : World) (_a0 : 0 ≤ a) (_a1 : a ≤ 96) (_b0 : 0 ≤ b) (_b1 : b ≤ 96) :
    Calls Tryz.prog 151 #[.int .i64 a, .int .i64 b] w fun e w' => e = .returned (.int .i64 ((a - b) % 97)) ∧ w = w' := by
  go_enter Tryz.func151, Tryz.ntmps151
  go_wp2
  go_returns
  exact ⟨ret_int (by omega), rfl⟩
end Go.Proofs.YtikdjdoggjhmaaaGreat
