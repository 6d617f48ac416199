/-
  Laws of panes: panes are rows, panes are parts.
-/
import Derived.Test.YtohllpdmopofoaaGreat5h
import Derived.Test.YtohllpdmopofoaaGreat2t
import Derived.Deep.DeepMust
import Derived.Deep.Cut
namespace Go.Proofs.YtohllpdmopofoaaGreat
set_option linter.unusedSimpArgs false
set_option linter.unusedVariables false
open Go.RowKit
theorem Agg.rowsN_div {n s : Nat} (hs : 1 ≤ s) : Agg.rowsN n s s = n / s := by
  unfold Agg.rowsN
  split
  · rw [Nat.div_eq_of_lt (by omega)]
  · rw [Nat.div_eq_sub_div (by omega) (by omega : s ≤ n)]
set_option maxHeartbeats 2000000 in
theorem waValues_same5 (a1 : Option Addr) (n1 cap1 : Nat) (a2 : Option Addr) (n2 cap2 : Nat) (l : List Agg.V) (w : World) (h1 : Vals w a1 n1 cap1 l) (h2 : Vals w a2 n2 cap2 l) :
    Calls Tryz.prog 16 #[.slice a1 n1 cap1, .slice a2 n2 cap2] w fun e w' => e = .returned (.bool true) ∧ Below w.heap.size w w' := by
  obtain ⟨hl1, hcap1, hm1, h41⟩ := h1
  obtain ⟨hl2, hcap2, hm2, h42⟩ := h2
  obtain rfl : n1 = n2 := by omega
  unfold maxLen at hm1
  have HL := Lib.hid hl1; clear hl1 hl2 hm2 hcap2
  have H1 := Lib.hid h41; clear h41
  have H2 := Lib.hid h42; clear h42
  go_enter Tryz.func16, Tryz.ntmps16
  go_wp2
  go_loopw [5] (fun i wr => ∃ k : Nat, k ≤ n1 ∧ i = .int .i64 k ∧ Hid (Below w.heap.size w wr)) (fun i _ => n1 - (intOf i).toNat)
  case atStart => exact ⟨0, Nat.zero_le _, rfl, Below.refl _ _⟩
  case round =>
    obtain ⟨k, hk, rfl, HW⟩ := hrel
    by_cases hlt : k < n1
    · rcases H1.out with h4 | ⟨b, off, rfl, hb, hcs⟩
      · omega
      · rcases H2.out with h4 | ⟨b', off', rfl, hb', hcs'⟩
        · omega
        · have hck := (HW.out.cell (p := ⟨b, off + k * 3, none⟩) hb).trans (hcs k hlt).1
          have hcl := (HW.out.cell (p := ⟨b, off + k * 3 + 1, none⟩) hb).trans (hcs k hlt).2.1
          have hcm := (HW.out.cell (p := ⟨b, off + k * 3 + 2, none⟩) hb).trans (hcs k hlt).2.2
          have hck' := (HW.out.cell (p := ⟨b', off' + k * 3, none⟩) hb').trans (hcs' k hlt).1
          have hcl' := (HW.out.cell (p := ⟨b', off' + k * 3 + 1, none⟩) hb').trans (hcs' k hlt).2.1
          have hcm' := (HW.out.cell (p := ⟨b', off' + k * 3 + 2, none⟩) hb').trans (hcs' k hlt).2.2
          clear hcs hcs'
          obtain ⟨⟨x, y, z⟩, hx⟩ : ∃ x, x = l[k]?.getD Agg.zero := ⟨_, rfl⟩
          rw [← hx] at hck hck' hcl hcl' hcm hcm'
          clear hx
          have hk0 : (0 : Int) ≤ (k : Int) := Int.natCast_nonneg _
          have hkn : (k : Int) < (n1 : Int) := by omega
          go_wp2
          go_quiet (fail)
          go_wp2
          go_roundw
          case rel => exact ⟨k + 1, by omega, by go_num, below_drewN HW.out _⟩
          case measure => simp [intOf]; omega
    · have hlt' : n1 ≤ k := by omega
      clear hlt
      go_wp2
      go_returns
      exact ⟨rfl, HW.out⟩
theorem drawPanesOf_any (a : Option Addr) (n cap : Nat) (l : List Int) (w : World) (h : Bytes w a n cap l) :
    Calls Tryz.prog 13 #[.slice a n cap] w (DrawnSlide w) := by
  have HB := Lib.hid h; clear h
  go_enter Tryz.func13, Tryz.ntmps13
  go_wp2_with fail
  refine (drawSlideNumbers_any _ _ _ l _ HB.out).mono ?_
  rintro e w1 ⟨k, s, b, m, mc, l', rfl, hN, hm, hb⟩
  have HN := Lib.hid hN
  have HW := Lib.hid hb
  clear hN hb
  go_wp2_with fail
  go_returns
  exact ⟨k, s, b, m, mc, l', rfl, HN.out, hm, HW.out⟩
end Go.Proofs.YtohllpdmopofoaaGreat
