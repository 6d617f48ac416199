/-
  What pick answers: a number below its argument; the reader is one further.
-/
import Derived.Test.YtohllpdmopofoaaGreatRd
namespace Go.Proofs.YtohllpdmopofoaaGreat
set_option linter.unusedSimpArgs false
set_option linter.unusedVariables false
open Go.RowKit
theorem xor_i64 (a b : Nat) (ha : a < 4611686018427387904) (hb : b < 4611686018427387904) :
    bits .xor .i64 (a : Int) (b : Int) = ((a ^^^ b : Nat) : Int) ∧ a ^^^ b < 4611686018427387904 := by
  have hx : a ^^^ b < 2 ^ 62 := Nat.xor_lt_two_pow (by omega) (by omega)
  have h1 : (BitVec.ofInt 64 (a : Int)).toNat = a := by
    rw [BitVec.ofInt_natCast, BitVec.toNat_ofNat]; exact Nat.mod_eq_of_lt (by omega)
  have h2 : (BitVec.ofInt 64 (b : Int)).toNat = b := by
    rw [BitVec.ofInt_natCast, BitVec.toNat_ofNat]; exact Nat.mod_eq_of_lt (by omega)
  refine ⟨?_, by omega⟩
  show IntKind.i64.wrap ((BitVec.ofInt 64 (a : Int) ^^^ BitVec.ofInt 64 (b : Int)).toNat : Int) = _
  rw [BitVec.toNat_xor, h1, h2]
  exact IntWalk.i64_in _ (by omega)
theorem xor_bounds (X : Int) (h0 : 0 ≤ X) (h1 : X ≤ 1000000000) : 0 ≤ bits .xor .i64 X (X / 64) ∧ bits .xor .i64 X (X / 64) ≤ 4611686018427387904 := by
  obtain ⟨a, rfl⟩ := Int.eq_ofNat_of_zero_le h0
  have e : (a : Int) / 64 = ((a / 64 : Nat) : Int) := by omega
  rw [e]
  obtain ⟨h2, h3⟩ := xor_i64 a (a / 64) (by omega) (by omega)
  rw [h2]
  omega

set_option maxHeartbeats 4000000 in
theorem pick_any (n : Int) (B c : Nat) (p : Int) (w : World) (h : Rd w B c p) (hp : p ≤ 1000000) (hn : n ≤ 1000) :
    Calls Tryz.prog 60 #[.pointer (some ⟨c, 0, none⟩), .int .i64 n] w (Picked n B c p w) := by
  obtain ⟨st, sg⟩ := h.stepped
  have ST := Lib.hid st; clear st
  have SG := Lib.hid sg; clear sg
  obtain ⟨hBc, hcw, hp0, a, m, cap, l, hheap, hm, h6⟩ := h
  have q0 : w.cell? ⟨c, 0, none⟩ = some (.slice a m cap) := by simp [World.cell?, hheap]
  have q1 : w.cell? ⟨c, 1, none⟩ = some (.int .i64 p) := by simp [World.cell?, hheap]
  have z0 : w.frozen? ⟨c, 0, none⟩ = false := by simp [World.frozen?, hheap]
  have z1 : w.frozen? ⟨c, 1, none⟩ = false := by simp [World.frozen?, hheap]
  clear hheap
  have H6 := Lib.hid h6; clear h6
  by_cases h1 : n < 1
  · go_enter Tryz.func60, Tryz.ntmps60
    go_wp2
    go_returns
    exact ⟨0, rfl, by omega, by omega, fun _ => rfl, ST.out, SG.out⟩
  · by_cases h2 : m = 0
    · subst h2
      go_enter Tryz.func60, Tryz.ntmps60
      go_wp2
      go_returns
      exact ⟨0, rfl, by omega, by omega, fun _ => rfl, ST.out, SG.out⟩
    · rcases H6.out with h6 | ⟨b, off, rfl, hb, hcs⟩
      · omega
      · have hbc : b ≠ c := by omega
        have hm0 : ((m : Int) == 0) = false := by simp; omega
        have hm1 : 0 < (m : Int) := by omega
        by_cases h3 : p < m
        · obtain ⟨j, rfl⟩ := Int.eq_ofNat_of_zero_le hp0
          have hj := hcs j (by omega)
          obtain ⟨x, hx⟩ : ∃ x, x = l[j]?.getD 0 := ⟨_, rfl⟩
          rw [← hx] at hj
          obtain ⟨hj1, hj2, hj3⟩ := hj
          clear hcs hx
          go_enter Tryz.func60, Tryz.ntmps60
          go_wp2
          go_returns
          exact ⟨x % n, rfl, Int.emod_nonneg _ (by omega), fun _ => Int.emod_lt_of_pos _ (by omega), by omega, ST.out, SG.out⟩
        · obtain ⟨j, rfl⟩ := Int.eq_ofNat_of_zero_le hp0
          obtain ⟨u, hu⟩ : ∃ u : Nat, (j : Int) % (m : Int) = (u : Int) := Int.eq_ofNat_of_zero_le (Int.emod_nonneg _ (by omega))
          obtain ⟨v, hv⟩ : ∃ v : Nat, ((j : Int) * 7 + 3) % (m : Int) = (v : Int) := Int.eq_ofNat_of_zero_le (Int.emod_nonneg _ (by omega))
          have hum : u < m := by have := Int.emod_lt_of_pos (j : Int) hm1; omega
          have hvm : v < m := by have := Int.emod_lt_of_pos ((j : Int) * 7 + 3) hm1; omega
          obtain ⟨hx1, hx2, hx3⟩ := hcs u hum
          obtain ⟨hy1, hy2, hy3⟩ := hcs v hvm
          obtain ⟨x, hx⟩ : ∃ x, x = l[u]?.getD 0 := ⟨_, rfl⟩
          obtain ⟨y, hy⟩ : ∃ y, y = l[v]?.getD 0 := ⟨_, rfl⟩
          rw [← hx] at hx1 hx2 hx3
          rw [← hy] at hy1 hy2 hy3
          obtain ⟨d, hd⟩ : ∃ d, (j : Int) / (m : Int) = d := ⟨_, rfl⟩
          have hd0 : 0 ≤ d := by rw [← hd]; exact Int.ediv_nonneg (by omega) (by omega)
          have hd1 : d ≤ 1000000 := by have := Int.ediv_le_self (m : Int) (show (0 : Int) ≤ j by omega); rw [hd] at this; omega
          have hum' : (u : Int) < (m : Int) := by omega
          have hvm' : (v : Int) < (m : Int) := by omega
          have hu0 : (0 : Int) ≤ (u : Int) := by omega
          have hv0 : (0 : Int) ≤ (v : Int) := by omega
          obtain ⟨X, hX⟩ : ∃ X, x * 131 + y * 1117 + (j : Int) * 29 + d * 53 = X := ⟨_, rfl⟩
          have hX0 : 0 ≤ X := by omega
          have hX1 : X ≤ 1000000000 := by omega
          obtain ⟨hZ0, hZ1⟩ := xor_bounds X hX0 hX1
          clear hcs hx hy
          go_enter Tryz.func60, Tryz.ntmps60
          go_wp2
          go_quiet (fail)
          go_wp2
          go_returns
          exact ⟨bits .xor .i64 X (X / 64) % n, rfl, Int.emod_nonneg _ (by omega), fun _ => Int.emod_lt_of_pos _ (by omega), by omega, ST.out, ⟨SG.out.os, SG.out.tape, SG.out.output, SG.out.size, SG.out.block⟩⟩
end Go.Proofs.YtohllpdmopofoaaGreat
