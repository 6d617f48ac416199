/-
  Stacks of a window without items, in the program and in the model; stacks compared.
-/
import Derived.Test.YthkokeeciicdnaaRw
import Derived.Test.YthkokeeciicdnaaN
import Derived.Test.Ythkokeeciicdnaa3a
import Derived.Deep.DeepCutAuto
namespace Go.Proofs.Ythkokeeciicdnaa
set_option linter.unusedSimpArgs false
set_option linter.unusedVariables false
open Go.RowKit
def Agg.first (k : Int) : Agg.V := if Agg.isKind k then Agg.unit k else Agg.zero
set_option maxHeartbeats 2000000 in
theorem waValues_same (a1 : Option Addr) (n1 cap1 : Nat) (a2 : Option Addr) (n2 cap2 : Nat) (l : List Agg.V) (w : World) (h1 : Vals w a1 n1 cap1 l) (h2 : Vals w a2 n2 cap2 l) :
    Calls Try.prog 26 #[.slice a1 n1 cap1, .slice a2 n2 cap2] w fun e w' => e = .returned (.bool true) ∧ Below w.heap.size w w' := by
  obtain ⟨hl1, hcap1, hm1, h41⟩ := h1
  obtain ⟨hl2, hcap2, hm2, h42⟩ := h2
  obtain rfl : n1 = n2 := by omega
  unfold maxLen at hm1
  have HL := Lib.hid hl1; clear hl1 hl2 hm2 hcap2
  have H1 := Lib.hid h41; clear h41
  have H2 := Lib.hid h42; clear h42
  go_enter Try.func26, Try.ntmps26
  go_wp2
  go_loopw [5] (fun i wr => ∃ k : Nat, k ≤ n1 ∧ i = .int .i64 k ∧ Hid (Below w.heap.size w wr)) (fun i _ => n1 - (intOf i).toNat)
  case atStart => exact ⟨0, Nat.zero_le _, rfl, Below.refl _ _⟩
  case round =>
    obtain ⟨k, hk, rfl, HW⟩ := hrel
    by_cases hlt : k < n1
    · rcases H1.out with h4 | ⟨b, off, rfl, hb, hcs⟩
      · omega
      · rcases H2.out with h4 | ⟨b', off', rfl, hb', hcs'⟩
        · omega
        · have hck := (HW.out.cell (p := ⟨b, off + k * 3, none⟩) hb).trans (hcs k hlt).1
          have hcl := (HW.out.cell (p := ⟨b, off + k * 3 + 1, none⟩) hb).trans (hcs k hlt).2.1
          have hcm := (HW.out.cell (p := ⟨b, off + k * 3 + 2, none⟩) hb).trans (hcs k hlt).2.2
          have hck' := (HW.out.cell (p := ⟨b', off' + k * 3, none⟩) hb').trans (hcs' k hlt).1
          have hcl' := (HW.out.cell (p := ⟨b', off' + k * 3 + 1, none⟩) hb').trans (hcs' k hlt).2.1
          have hcm' := (HW.out.cell (p := ⟨b', off' + k * 3 + 2, none⟩) hb').trans (hcs' k hlt).2.2
          clear hcs hcs'
          obtain ⟨⟨x, y, z⟩, hx⟩ : ∃ x, x = l[k]?.getD Agg.zero := ⟨_, rfl⟩
          rw [← hx] at hck hck' hcl hcl' hcm hcm'
          clear hx
          have hk0 : (0 : Int) ≤ (k : Int) := Int.natCast_nonneg _
          have hkn : (k : Int) < (n1 : Int) := by omega
          go_wp2
          go_quiet (fail)
          go_wp2
          go_roundw
          case rel => exact ⟨k + 1, by omega, by go_num, below_drewN HW.out _⟩
          case measure => simp [intOf]; omega
    · have hlt' : n1 ≤ k := by omega
      clear hlt
      go_wp2
      go_returns
      exact ⟨rfl, HW.out⟩
set_option maxHeartbeats 1000000 in
theorem waInts_eq (a1 : Option Addr) (n1 cap1 : Nat) (a2 : Option Addr) (n2 cap2 : Nat) (l : List Int) (w : World) (h1 : Nums .i64 w a1 n1 cap1 l) (h2 : Nums .i64 w a2 n2 cap2 l) :
    Calls Try.prog 22 #[.slice a1 n1 cap1, .slice a2 n2 cap2] w fun e w' => e = .returned (.bool true) ∧ Below w.heap.size w w' := by
  obtain ⟨hl1, hcap1, hm1, h41⟩ := h1
  obtain ⟨hl2, hcap2, hm2, h42⟩ := h2
  obtain rfl : n1 = n2 := by omega
  unfold maxLen at hm1
  have HL := Lib.hid hl1; clear hl1 hl2 hm2 hcap2
  have H1 := Lib.hid h41; clear h41
  have H2 := Lib.hid h42; clear h42
  go_enter Try.func22, Try.ntmps22
  go_wp2
  go_loopw [5] (fun i wr => ∃ k : Nat, k ≤ n1 ∧ i = .int .i64 k ∧ Hid (Below w.heap.size w wr)) (fun i _ => n1 - (intOf i).toNat)
  case atStart => exact ⟨0, Nat.zero_le _, rfl, Below.refl _ _⟩
  case round =>
    obtain ⟨k, hk, rfl, HW⟩ := hrel
    by_cases hlt : k < n1
    · rcases H1.out with h4 | ⟨b, off, rfl, hb, hcs⟩
      · omega
      · rcases H2.out with h4 | ⟨b', off', rfl, hb', hcs'⟩
        · omega
        · have hck := (HW.out.cell (p := ⟨b, off + k, none⟩) hb).trans (hcs k hlt)
          have hck' := (HW.out.cell (p := ⟨b', off' + k, none⟩) hb').trans (hcs' k hlt)
          clear hcs hcs'
          obtain ⟨x, hx⟩ : ∃ x, x = l[k]?.getD 0 := ⟨_, rfl⟩
          rw [← hx] at hck hck'
          clear hx
          have hk0 : (0 : Int) ≤ (k : Int) := Int.natCast_nonneg _
          have hkn : (k : Int) < (n1 : Int) := by omega
          go_wp2
          go_quiet (fail)
          go_wp2
          go_roundw
          case rel => exact ⟨k + 1, by omega, by go_num, below_drewN HW.out _⟩
          case measure => simp [intOf]; omega
    · have hlt' : n1 ≤ k := by omega
      clear hlt
      go_wp2
      go_returns
      exact ⟨rfl, HW.out⟩
end Go.Proofs.Ythkokeeciicdnaa
