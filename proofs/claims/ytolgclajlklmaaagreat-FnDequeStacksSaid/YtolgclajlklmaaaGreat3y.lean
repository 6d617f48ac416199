/-
  Stacks of a window without items, in the program and in the model; stacks compared.
-/
import Derived.Test.YtolgclajlklmaaaGreatRw
import Derived.Test.YtolgclajlklmaaaGreatN
import Derived.Test.YtolgclajlklmaaaGreat3a
import Derived.Deep.DeepCutAuto
namespace Go.Proofs.YtolgclajlklmaaaGreat
set_option linter.unusedSimpArgs false
set_option linter.unusedVariables false
open Go.RowKit
def Agg.first (k : Int) : Agg.V := if Agg.isKind k then Agg.unit k else Agg.zero
set_option maxRecDepth 8000 in
set_option maxHeartbeats 2000000 in
theorem stacksStart_any (k : Int) (w : World) :
    Calls Tryz.prog 52 #[.int .i64 k] w fun e w' => e = .returned (.tuple #[.agg #[.slice none 0 0, .slice none 0 0, .int .i64 (Agg.first k).x, .int .i64 (Agg.first k).y, .int .i64 (Agg.first k).z, .int .i64 0, .int .i64 0], .bool (Agg.isKind k)]) ∧ Below w.heap.size w w' := by
  have hU := fun w => unitOf_any k w
  have HB0 := Lib.hid (show Below w.heap.size w (w.alloc (.cells #[.slice none 0 0, .slice none 0 0, .int .i64 0, .int .i64 0, .int .i64 0, .int .i64 0, .int .i64 0] 42)) from (Below.refl _ _).alloc (Nat.le_refl _) _)
  cases hk : Agg.isKind k
  · have e : Agg.aUnit k = (Agg.zero, false) := by simp [Agg.aUnit, Agg.give, hk]
    have e2 : Agg.first k = Agg.zero := by simp [Agg.first, hk]
    rw [e] at hU
    rw [e2]
    have HU := Lib.hid hU
    clear hU e e2 hk
    go_enter Tryz.func52, Tryz.ntmps52
    go_wp2_with fail
    refine (HU.out _).mono ?_
    rintro e w1 ⟨rfl, hb1⟩
    have HR1 := Lib.hid ((Box7.new w 42 (.slice none 0 0) (.slice none 0 0) (.int .i64 0) (.int .i64 0) (.int .i64 0) (.int .i64 0) (.int .i64 0)).call hb1)
    have HB1 := Lib.hid (HB0.out.trans (hb1.mono HB0.out.size))
    clear hb1
    go_upto_region 3 with (fail)
    obtain ⟨W2, hW2⟩ : ∃ W2, W2 = w1.alloc (.cells #[.int .i64 Agg.zero.x, .int .i64 Agg.zero.y, .int .i64 Agg.zero.z] 40) := ⟨_, rfl⟩
    have HR2 := Lib.hid (show Box7 W2 w.heap.size 42 (.slice none 0 0) (.slice none 0 0) (.int .i64 0) (.int .i64 0) (.int .i64 0) (.int .i64 0) (.int .i64 0) from by rw [hW2]; exact HR1.out.alloc _)
    have HV2 := Lib.hid (show Box W2 w1.heap.size 40 Agg.zero.x Agg.zero.y Agg.zero.z from by rw [hW2]; exact Box.new w1 _ _ _ _)
    have HB2 := Lib.hid (show Below w.heap.size w W2 from by rw [hW2]; exact HB1.out.alloc HB1.out.size _)
    rw [← hW2]
    obtain ⟨c1, hc1⟩ : ∃ c1, c1 = w1.heap.size := ⟨_, rfl⟩
    rw [← hc1] at HV2 ⊢
    clear hW2 hc1 HR1 HB1
    obtain ⟨r0, r1, r2, r3, r4, r5, r6⟩ := HR2.out.cells
    obtain ⟨v0, v1, v2⟩ := HV2.out.cells
    have gR := HR2.out.free
    go_wp2_with fail
    refine bodyPost_ret (by simp [results, Tryz.results52, go_sem, *]; try rfl) rfl ?_
    exact ⟨rfl, ((((((HB2.out.setCell (Nat.le_refl _) _).setCell (Nat.le_refl _) _).setCell (Nat.le_refl _) _).setCell (Nat.le_refl _) _).setCell (Nat.le_refl _) _).setCell (Nat.le_refl _) _).setCell (Nat.le_refl _) _⟩
  · have e : Agg.aUnit k = (Agg.unit k, true) := by simp [Agg.aUnit, Agg.give, hk]
    have e2 : Agg.first k = Agg.unit k := by simp [Agg.first, hk]
    rw [e] at hU
    rw [e2]
    obtain ⟨⟨x, y, z⟩, hV⟩ : ∃ V, V = Agg.unit k := ⟨_, rfl⟩
    rw [← hV] at hU ⊢
    have HU := Lib.hid hU
    clear hU e e2 hk hV
    go_enter Tryz.func52, Tryz.ntmps52
    go_wp2_with fail
    refine (HU.out _).mono ?_
    rintro e w1 ⟨rfl, hb1⟩
    have HR1 := Lib.hid ((Box7.new w 42 (.slice none 0 0) (.slice none 0 0) (.int .i64 0) (.int .i64 0) (.int .i64 0) (.int .i64 0) (.int .i64 0)).call hb1)
    have HB1 := Lib.hid (HB0.out.trans (hb1.mono HB0.out.size))
    clear hb1
    go_upto_region 4 with (fail)
    obtain ⟨W2, hW2⟩ : ∃ W2, W2 = w1.alloc (.cells #[.int .i64 x, .int .i64 y, .int .i64 z] 40) := ⟨_, rfl⟩
    have HR2 := Lib.hid (show Box7 W2 w.heap.size 42 (.slice none 0 0) (.slice none 0 0) (.int .i64 0) (.int .i64 0) (.int .i64 0) (.int .i64 0) (.int .i64 0) from by rw [hW2]; exact HR1.out.alloc _)
    have HV2 := Lib.hid (show Box W2 w1.heap.size 40 x y z from by rw [hW2]; exact Box.new w1 _ _ _ _)
    have HB2 := Lib.hid (show Below w.heap.size w W2 from by rw [hW2]; exact HB1.out.alloc HB1.out.size _)
    rw [← hW2]
    obtain ⟨c1, hc1⟩ : ∃ c1, c1 = w1.heap.size := ⟨_, rfl⟩
    rw [← hc1] at HV2 ⊢
    clear hW2 hc1 HR1 HB1
    obtain ⟨r0, r1, r2, r3, r4, r5, r6⟩ := HR2.out.cells
    obtain ⟨v0, v1, v2⟩ := HV2.out.cells
    have gR := HR2.out.free
    go_wp2_with fail
    refine bodyPost_ret (by simp [results, Tryz.results52, go_sem, *]; try rfl) rfl ?_
    exact ⟨rfl, ((((((HB2.out.setCell (Nat.le_refl _) _).setCell (Nat.le_refl _) _).setCell (Nat.le_refl _) _).setCell (Nat.le_refl _) _).setCell (Nat.le_refl _) _).setCell (Nat.le_refl _) _).setCell (Nat.le_refl _) _⟩
set_option maxHeartbeats 1000000 in
theorem waInts_eq (a1 : Option Addr) (n1 cap1 : Nat) (a2 : Option Addr) (n2 cap2 : Nat) (l : List Int) (w : World) (h1 : Nums .i64 w a1 n1 cap1 l) (h2 : Nums .i64 w a2 n2 cap2 l) :
    Calls Tryz.prog 10 #[.slice a1 n1 cap1, .slice a2 n2 cap2] w fun e w' => e = .returned (.bool true) ∧ Below w.heap.size w w' := by
  obtain ⟨hl1, hcap1, hm1, h41⟩ := h1
  obtain ⟨hl2, hcap2, hm2, h42⟩ := h2
  obtain rfl : n1 = n2 := by omega
  unfold maxLen at hm1
  have HL := Lib.hid hl1; clear hl1 hl2 hm2 hcap2
  have H1 := Lib.hid h41; clear h41
  have H2 := Lib.hid h42; clear h42
  go_enter Tryz.func10, Tryz.ntmps10
  go_wp2
  go_loopw [5] (fun i wr => ∃ k : Nat, k ≤ n1 ∧ i = .int .i64 k ∧ Hid (Below w.heap.size w wr)) (fun i _ => n1 - (intOf i).toNat)
  case atStart => exact ⟨0, Nat.zero_le _, rfl, Below.refl _ _⟩
  case round =>
    obtain ⟨k, hk, rfl, HW⟩ := hrel
    by_cases hlt : k < n1
    · rcases H1.out with h4 | ⟨b, off, rfl, hb, hcs⟩
      · omega
      · rcases H2.out with h4 | ⟨b', off', rfl, hb', hcs'⟩
        · omega
        · have hck := (HW.out.cell (p := ⟨b, off + k, none⟩) hb).trans (hcs k hlt)
          have hck' := (HW.out.cell (p := ⟨b', off' + k, none⟩) hb').trans (hcs' k hlt)
          clear hcs hcs'
          obtain ⟨x, hx⟩ : ∃ x, x = l[k]?.getD 0 := ⟨_, rfl⟩
          rw [← hx] at hck hck'
          clear hx
          have hk0 : (0 : Int) ≤ (k : Int) := Int.natCast_nonneg _
          have hkn : (k : Int) < (n1 : Int) := by omega
          go_wp2
          go_quiet (fail)
          go_wp2
          go_roundw
          case rel => exact ⟨k + 1, by omega, by go_num, below_drewN HW.out _⟩
          case measure => simp [intOf]; omega
    · have hlt' : n1 ≤ k := by omega
      clear hlt
      go_wp2
      go_returns
      exact ⟨rfl, HW.out⟩
end Go.Proofs.YtolgclajlklmaaaGreat
