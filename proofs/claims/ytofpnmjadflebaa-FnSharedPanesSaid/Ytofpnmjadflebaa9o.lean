/-
  Where a cut stands among the cuts: by halves in the program, from the first on in the model.
-/
import Derived.Test.Ytofpnmjadflebaa9k
import Derived.Deep.DeepMust
namespace Go.Proofs.Ytofpnmjadflebaa
set_option linter.unusedSimpArgs false
set_option linter.unusedVariables false
open Go.RowKit
theorem isNaN_any (x : Int) (w : World) : Calls Try.prog 50 #[.int .i64 x] w fun e w' => e = .returned (.bool false) ∧ w = w' := by
  go_enter Try.func50, Try.ntmps50
  go_wp2
  go_returns
  exact ⟨rfl, rfl⟩
theorem less_any (x y : Int) (w : World) : Calls Try.prog 48 #[.int .i64 x, .int .i64 y] w fun e w' => e = .returned (.bool (decide (x < y))) ∧ w = w' := by
  have HN := Lib.hid (fun x w => isNaN_any x w)
  go_enter Try.func48, Try.ntmps48
  go_wp2_with fail
  refine (HN.out _ _).mono ?_
  rintro e w1 ⟨rfl, rfl⟩
  go_wp2_with fail
  go_returns
  exact ⟨rfl, rfl⟩
set_option maxRecDepth 4000 in
set_option maxHeartbeats 2000000 in
theorem search_any (a : Option Addr) (n cap : Nat) (c : List Int) (x : Int) (m : Nat) (hn : n ≤ 1000) (w : World) (h : Nums .i64 w a n cap c) (hs : Agg.StandsAt c x m) :
    Calls Try.prog 46 #[.slice a n cap, .int .i64 x] w fun e w' => e = .returned (.tuple #[.int .i64 (m : Int), .bool true]) ∧ Below w.heap.size w w' := by
  have hll : c.length = n := h.1
  have hnc : n ≤ cap := h.2.1
  have hcm : cap ≤ 9223372036854775807 := by have := h.2.2.1; unfold maxLen at this; omega
  have hmn : m < n := by have := hs.lt; omega
  have H0 := Lib.hid h
  have HLL := Lib.hid hll
  have HST := Lib.hid hs
  clear h hll hs
  go_enter Try.func46, Try.ntmps46
  go_wp2_with fail
  go_loopw [7, 8] (fun iv jv wr => ∃ i j : Nat, i ≤ m ∧ m ≤ j ∧ j ≤ n ∧ iv = .int .i64 i ∧ jv = .int .i64 j ∧ Hid (Below w.heap.size w wr)) (fun iv jv _ => (intOf jv).toNat - (intOf iv).toNat)
  case atStart => exact ⟨0, n, Nat.zero_le _, Nat.le_of_lt hmn, Nat.le_refl _, rfl, rfl, Lib.hid (Below.refl _ _)⟩
  case round =>
    obtain ⟨i, j, him, hmj, hjn, rfl, rfl, hw⟩ := hrel
    rcases id H0.out.2.2.2 with h4 | ⟨bk, off, rfl, hbl, hcs⟩
    · omega
    · by_cases hij : i < j
      · have hiji : (i : Int) < (j : Int) := by omega
        obtain ⟨hh, hhh⟩ : ∃ hh : Nat, hh = (i + j) / 2 := ⟨_, rfl⟩
        have h1 : i ≤ hh ∧ hh < j := by omega
        have hdiv : ((i : Int) + (j : Int)) / 2 = (hh : Int) := by omega
        have hck := (hw.out.cell (p := ⟨bk, off + hh, none⟩) hbl).trans (hcs hh (by omega))
        have hlow := fun hlt => HST.out.low hh hlt
        have hhigh := fun hge => HST.out.high hh hge (by have := HLL.out; omega)
        clear hcs
        obtain ⟨y, hy⟩ : ∃ y, y = c[hh]?.getD 0 := ⟨_, rfl⟩
        rw [← hy] at hck hlow hhigh
        have hw1 : IntKind.i64.wrap ((i : Int) + (j : Int)) = (i : Int) + (j : Int) := IntWalk.i64_in _ ⟨by omega, by omega⟩
        have hk0 : (0 : Int) ≤ (hh : Int) := Int.natCast_nonneg _
        have hkn : (hh : Int) < (n : Int) := by omega
        have H1 := Lib.hid h1
        clear hhh hy h1
        by_cases hyx : y < x
        · have hge : hh < m := by
            rcases Nat.lt_or_ge hh m with e | e
            · exact e
            · have := hhigh e; omega
          have HGE := Lib.hid hge
          clear hlow hhigh hge
          go_wp2_with fail
          refine (less_any _ _ _).mono ?_
          rintro e w2 ⟨rfl, rfl⟩
          go_wp2_with fail
          go_roundw
          case rel => exact ⟨hh + 1, j, by have := HGE.out; omega, hmj, hjn, by go_num, rfl, hw⟩
          case measure => have := H1.out; simp [intOf]; omega
        · have hge : m ≤ hh := by
            rcases Nat.lt_or_ge hh m with e | e
            · have := hlow e; omega
            · exact e
          have HGE := Lib.hid hge
          clear hlow hhigh hge
          go_wp2_with fail
          refine (less_any _ _ _).mono ?_
          rintro e w2 ⟨rfl, rfl⟩
          go_wp2_with fail
          go_roundw
          case rel => exact ⟨i, hh, him, HGE.out, by have := H1.out; omega, rfl, rfl, hw⟩
          case measure => have := H1.out; simp [intOf]; omega
      · obtain rfl : i = m := by omega
        obtain rfl : j = i := by omega
        have hck := (hw.out.cell (p := ⟨bk, off + j, none⟩) hbl).trans (hcs j (by omega))
        rw [HST.out.eq] at hck
        have hk0 : (0 : Int) ≤ (j : Int) := Int.natCast_nonneg _
        have hkn : (j : Int) < (n : Int) := by omega
        have hlt' : ¬ (j : Int) < (j : Int) := by omega
        clear hcs
        go_wp2_with fail
        go_returns
        exact ⟨rfl, hw.out⟩
set_option maxHeartbeats 1000000 in
theorem slicesIn_any (a : Option Addr) (n cap : Nat) (c : List Int) (x y : Int) (m1 m2 : Nat) (hn : n ≤ 1000) (w : World) (h : Nums .i64 w a n cap c) (h1 : Agg.StandsAt c x m1) (h2 : Agg.StandsAt c y m2) :
    Calls Try.prog 39 #[.slice a n cap, .agg #[.int .i64 x, .int .i64 y]] w fun e w' => e = .returned (.tuple #[.int .i64 (m1 : Int), .int .i64 (m2 : Int)]) ∧ Below w.heap.size w w' := by
  have HS1 := Lib.hid (fun X (hX : Below w.heap.size w X) => search_any a n cap c x m1 hn X (h.below hX) h1)
  have HS2 := Lib.hid (fun X (hX : Below w.heap.size w X) => search_any a n cap c y m2 hn X (h.below hX) h2)
  obtain ⟨W, hW⟩ : ∃ W, W = w.alloc (.cells #[.int .i64 x, .int .i64 y] 63) := ⟨_, rfl⟩
  have HX := Lib.hid (show Box2h W w.heap.size 63 x y from by rw [hW]; exact Box2h.new _ _ _ _)
  have HB := Lib.hid (show Below w.heap.size w W from by rw [hW]; exact (Below.refl _ _).alloc (Nat.le_refl _) _)
  clear h h1 h2
  obtain ⟨q0, q1⟩ := HX.out.cells
  go_enter Try.func39, Try.ntmps39
  go_upto_region 1 with (fail)
  rw [← hW]
  clear hW
  go_wp2_with fail
  refine (HS1.out _ HB.out).mono ?_
  rintro e w1 ⟨rfl, hb1⟩
  have HX := Lib.hid (HX.out.call hb1)
  have HB := Lib.hid (HB.out.trans (hb1.mono HB.out.size))
  clear hb1 q0 q1
  obtain ⟨q0, q1⟩ := HX.out.cells
  go_wp2_with fail
  refine (HS2.out _ HB.out).mono ?_
  rintro e w2 ⟨rfl, hb2⟩
  have HB := Lib.hid (HB.out.trans (hb2.mono HB.out.size))
  clear hb2 q0 q1
  go_wp2_with fail
  go_returns
  exact ⟨rfl, HB.out⟩
set_option maxRecDepth 4000 in
set_option maxHeartbeats 2000000 in
theorem s_l9Index_any (a : Option Addr) (n cap : Nat) (c : List Int) (x : Int) (m : Nat) (w : World) (h : Nums .i64 w a n cap c) (hs : Agg.StandsAt c x m) :
    Calls Try.prog 40 #[.slice a n cap, .int .i64 x] w fun e w' => e = .returned (.int .i64 (m : Int)) ∧ Below w.heap.size w w' := by
  have hll : c.length = n := h.1
  have hnc : n ≤ cap := h.2.1
  have hcm : cap ≤ 9223372036854775807 := by have := h.2.2.1; unfold maxLen at this; omega
  have hmn : m < n := by have := hs.lt; omega
  have H0 := Lib.hid h
  have HLL := Lib.hid hll
  have HST := Lib.hid hs
  clear h hll hs
  go_enter Try.func40, Try.ntmps40
  go_wp2_with fail
  go_loopw [5] (fun iv wr => ∃ i : Nat, i ≤ m ∧ iv = .int .i64 i ∧ Hid (Below w.heap.size w wr)) (fun iv _ => n - (intOf iv).toNat)
  case atStart => exact ⟨0, Nat.zero_le _, rfl, Lib.hid (Below.refl _ _)⟩
  case round =>
    obtain ⟨i, him, rfl, hw⟩ := hrel
    rcases id H0.out.2.2.2 with h4 | ⟨bk, off, rfl, hbl, hcs⟩
    · omega
    · have hck := (hw.out.cell (p := ⟨bk, off + i, none⟩) hbl).trans (hcs i (by omega))
      clear hcs
      have hk0 : (0 : Int) ≤ (i : Int) := Int.natCast_nonneg _
      have hkn : (i : Int) < (n : Int) := by omega
      by_cases him2 : i = m
      · subst him2
        rw [HST.out.eq] at hck
        go_wp2_with fail
        go_returns
        exact ⟨rfl, hw.out⟩
      · have hlow := HST.out.low i (by omega)
        obtain ⟨y, hy⟩ : ∃ y, y = c[i]?.getD 0 := ⟨_, rfl⟩
        rw [← hy] at hck hlow
        have hne : ¬ y = x := by omega
        clear hy hlow
        go_wp2_with fail
        go_roundw
        case rel => exact ⟨i + 1, by omega, by go_num, hw⟩
        case measure => simp [intOf]; omega
end Go.Proofs.Ytofpnmjadflebaa
