/-
  Whether a list holds a number; the law FnCutsMore, walked.
-/
import Derived.Test.Ytofpnmjadflebaa9w
import Derived.Test.Ytofpnmjadflebaa9x
import Derived.Test.Ytofpnmjadflebaa9l
import Derived.Test.Ytofpnmjadflebaa9n
namespace Go.Proofs.Ytofpnmjadflebaa
set_option linter.unusedSimpArgs false
set_option linter.unusedVariables false
open Go.RowKit
set_option maxHeartbeats 1000000 in
theorem waInts_9 (a1 : Option Addr) (n1 cap1 : Nat) (a2 : Option Addr) (n2 cap2 : Nat) (l : List Int) (w : World) (h1 : Nums .i64 w a1 n1 cap1 l) (h2 : Nums .i64 w a2 n2 cap2 l) :
    Calls Try.prog 18 #[.slice a1 n1 cap1, .slice a2 n2 cap2] w fun e w' => e = .returned (.bool true) ∧ Below w.heap.size w w' := by
  obtain ⟨hl1, hcap1, hm1, h41⟩ := h1
  obtain ⟨hl2, hcap2, hm2, h42⟩ := h2
  obtain rfl : n1 = n2 := by omega
  unfold maxLen at hm1
  have HL := Lib.hid hl1; clear hl1 hl2 hm2 hcap2
  have H1 := Lib.hid h41; clear h41
  have H2 := Lib.hid h42; clear h42
  go_enter Try.func18, Try.ntmps18
  go_wp2
  go_loopw [5] (fun i wr => ∃ k : Nat, k ≤ n1 ∧ i = .int .i64 k ∧ Hid (Below w.heap.size w wr)) (fun i _ => n1 - (intOf i).toNat)
  case atStart => exact ⟨0, Nat.zero_le _, rfl, Below.refl _ _⟩
  case round =>
    obtain ⟨k, hk, rfl, HW⟩ := hrel
    by_cases hlt : k < n1
    · rcases H1.out with h4 | ⟨b, off, rfl, hb, hcs⟩
      · omega
      · rcases H2.out with h4 | ⟨b', off', rfl, hb', hcs'⟩
        · omega
        · have hck := (HW.out.cell (p := ⟨b, off + k, none⟩) hb).trans (hcs k hlt)
          have hck' := (HW.out.cell (p := ⟨b', off' + k, none⟩) hb').trans (hcs' k hlt)
          clear hcs hcs'
          obtain ⟨x, hx⟩ : ∃ x, x = l[k]?.getD 0 := ⟨_, rfl⟩
          rw [← hx] at hck hck'
          clear hx
          have hk0 : (0 : Int) ≤ (k : Int) := Int.natCast_nonneg _
          have hkn : (k : Int) < (n1 : Int) := by omega
          go_wp2
          go_quiet (fail)
          go_wp2
          go_roundw
          case rel => exact ⟨k + 1, by omega, by go_num, below_drewN HW.out _⟩
          case measure => simp [intOf]; omega
    · have hlt' : n1 ≤ k := by omega
      clear hlt
      go_wp2
      go_returns
      exact ⟨rfl, HW.out⟩
set_option maxHeartbeats 1000000 in
theorem waIn_has (a1 : Option Addr) (n1 cap1 : Nat) (l : List Int) (x : Int) (w : World) (h1 : Nums .i64 w a1 n1 cap1 l) (hx : x ∈ l) :
    Calls Try.prog 20 #[.slice a1 n1 cap1, .int .i64 x] w fun e w' => e = .returned (.bool true) ∧ Below w.heap.size w w' := by
  obtain ⟨hl1, hcap1, hm1, h41⟩ := h1
  unfold maxLen at hm1
  obtain ⟨ix, hix, hxe⟩ := List.getElem_of_mem hx
  have hat : ix < n1 ∧ l[ix]?.getD 0 = x := ⟨by omega, by rw [List.getElem?_eq_getElem hix]; exact hxe⟩
  have HAT := Lib.hid hat
  have H1 := Lib.hid h41
  clear h41 hx hxe hix hat hl1
  go_enter Try.func20, Try.ntmps20
  go_wp2
  go_loopw [5] (fun i wr => ∃ k : Nat, k ≤ n1 ∧ i = .int .i64 k ∧ k ≤ ix ∧ Hid (Below w.heap.size w wr)) (fun i _ => n1 - (intOf i).toNat)
  case atStart => exact ⟨0, Nat.zero_le _, rfl, Nat.zero_le _, Below.refl _ _⟩
  case round =>
    obtain ⟨k, hk, rfl, hki, HW⟩ := hrel
    have hlt : k < n1 := by have := HAT.out.1; omega
    rcases H1.out with h4 | ⟨b, off, rfl, hb, hcs⟩
    · omega
    · have hck := (HW.out.cell (p := ⟨b, off + k, none⟩) hb).trans (hcs k hlt)
      clear hcs
      obtain ⟨y, hy⟩ : ∃ y, y = l[k]?.getD 0 := ⟨_, rfl⟩
      rw [← hy] at hck
      have hk0 : (0 : Int) ≤ (k : Int) := Int.natCast_nonneg _
      have hkn : (k : Int) < (n1 : Int) := by omega
      by_cases hyx : y = x
      · subst hyx
        clear hy
        go_wp2
        go_returns
        exact ⟨rfl, HW.out⟩
      · have hki2 : k + 1 ≤ ix := by
          have : k ≠ ix := fun e => hyx (by rw [hy, e]; exact HAT.out.2)
          omega
        clear hy
        go_wp2
        go_roundw
        case rel => exact ⟨k + 1, by omega, by go_num, hki2, HW⟩
        case measure => simp [intOf]; omega
namespace Agg
theorem cutSet_more {n : Nat} {l : List (Int × Int)} (q : Int × Int) {p : Nat} (h : cutSet n l p = true) : cutSet n (addQ l q) p = true := by
  unfold addQ
  split
  · exact h
  · simp only [cutSet, List.any_append]
    rw [show (l.any fun q => hits q (winsN n q) p) = true from h]
    rfl
theorem cutsN_more {n : Nat} {l : List (Int × Int)} (q : Int × Int) {x : Int} (h : x ∈ cutsN n l) : x ∈ cutsN n (addQ l q) := by
  simp only [cutsN, List.mem_map] at h ⊢
  obtain ⟨y, hy, rfl⟩ := h
  rw [cutsTo_mem] at hy
  exact ⟨y, cutsTo_mem.2 ⟨hy.1, cutSet_more q hy.2⟩, rfl⟩
end Agg
set_option maxRecDepth 8000 in
set_option maxHeartbeats 3000000 in
theorem law_FnCutsMore (a : Option Addr) (n cap : Nat) (zs : List Int) (a' : Option Addr) (n' cap' : Nat) (zs' : List Int) (w : World) (hrow : IsRow .u8 w a n cap zs) (hrow' : IsRow .u8 w a' n' cap' zs') :
    Calls Try.prog 6 #[.slice a n cap, .slice a' n' cap'] w fun e w' => e = .returned (.bool true) ∧ Below w.heap.size w w' := by
  have HB := Lib.hid (Bytes.of_row hrow)
  have hm : cap ≤ 9223372036854775807 := HB.out.2.1
  have hnc : n ≤ cap := HB.out.1
  have HB' := Lib.hid (Bytes.of_row hrow')
  have hm' : cap' ≤ 9223372036854775807 := HB'.out.2.1
  have hnc' : n' ≤ cap' := HB'.out.1
  clear hrow hrow'
  by_cases hn : n ≤ 1048576 ∧ n' ≤ 1048576
  · obtain ⟨hn, hn'⟩ := hn
    have hnI : ¬ ((1048576 : Int) < (n : Int)) := by omega
    have hnI' : ¬ ((1048576 : Int) < (n' : Int)) := by omega
    have HBY := Lib.hid (fun X (hX : Below w.heap.size w X) => (show Bytes X a' n' cap' (zs'.take n') from by
      obtain ⟨h1, h2, h4⟩ := HB'.out
      refine ⟨h1, h2, ?_⟩
      rcases h4 with h4 | ⟨b, off, ha, hb, hc⟩
      · exact .inl h4
      · exact .inr ⟨b, off, ha, Nat.lt_of_lt_of_le hb hX.size, fun i hi => ⟨(hX.cell (p := ⟨b, off + i, none⟩) hb).trans (hc i hi).1, (hc i hi).2⟩⟩))
    go_enter Try.func6, Try.ntmps6
    go_wp2_with fail
    refine (drawCutsOf_any _ _ _ _ _ HB.out).mono ?_
    rintro e w1 ⟨v, m, L, M, rfl, ho, hm9, hb1⟩
    obtain ⟨la, lc, rfl, hq⟩ := ho.ops
    have hqn : m ≤ lc := hq.2.1
    have hqm : lc ≤ 9223372036854775807 := by have := hq.2.2.1; unfold maxLen at this; omega
    have HQ := Lib.hid hq
    have HW1 := Lib.hid hb1
    obtain ⟨b, hb⟩ : ∃ b, b = Agg.cutsOk M L := ⟨_, rfl⟩
    obtain ⟨C, hC⟩ : ∃ C, C = Agg.cutsOut M L := ⟨_, rfl⟩
    have H1 := Lib.hid (fun X (hX : Below w1.heap.size w1 X) => cutsOf_any la m lc L M X (HQ.out.below hX))
    have H2 := Lib.hid (fun X (hX : Below w1.heap.size w1 X) => s_cutsOf_any la m lc L M X (HQ.out.below hX))
    rw [← hb, ← hC] at H1 H2
    have HBB := Lib.hid hb
    have HCC := Lib.hid hC
    clear hb hq ho hb1 hC
    go_wp2_with fail
    refine (H1.out _ (Below.refl _ _)).mono ?_
    rintro e w2 ⟨v2, n2, rfl, r2, hb2⟩
    obtain ⟨ca, cc, rfl, N2, hl2⟩ := r2.nums
    have hcn : n2 ≤ cc := N2.2.1
    have hcm : cc ≤ 9223372036854775807 := by have := N2.2.2.1; unfold maxLen at this; omega
    have HN2 := Lib.hid (fun X (hX : Below w2.heap.size w2 X) => N2.below hX)
    have HT2 := Lib.hid hb2
    have HL2 := Lib.hid hl2
    clear r2 hb2 hl2 N2
    go_wp2_with fail
    refine (H2.out _ HT2.out).mono ?_
    rintro e w3 ⟨v3, n3, rfl, r3, hb3⟩
    obtain ⟨da, dc, rfl, N3, -⟩ := r3.nums
    have HN3 := Lib.hid (fun X (hX : Below w3.heap.size w3 X) => N3.below hX)
    have HT3 := Lib.hid (HT2.out.trans (hb3.mono HT2.out.size))
    have HU3 := Lib.hid (show Below w2.heap.size w2 w3 from hb3)
    clear r3 hb3 N3
    go_wp2_with fail
    refine (drawAddQuery_any _ _ _ _ _ (HBY.out _ (HW1.out.trans (HT3.out.mono HW1.out.size)))).mono ?_
    rintro e w4 ⟨v4, n4, L4, x, y, rfl, -, -, hb4⟩
    have hs4 := hb4.size
    obtain ⟨W4, hW4⟩ : ∃ W4, W4 = w4.alloc (.cells #[.int .i64 x, .int .i64 y] 28) := ⟨_, rfl⟩
    have hb44 : Below w3.heap.size w3 W4 := by rw [hW4]; exact hb4.alloc hs4 _
    have HX4 := Lib.hid (show Box2h W4 w4.heap.size 28 x y from by rw [hW4]; exact Box2h.new _ _ _ _)
    have HT4 := Lib.hid (HT3.out.trans (hb44.mono HT3.out.size))
    have HU4 := Lib.hid (HU3.out.trans (hb44.mono HU3.out.size))
    have HV4 := Lib.hid hb44
    clear hb4 hb44
    obtain ⟨g, hg⟩ : ∃ g, g = w4.heap.size := ⟨_, rfl⟩
    go_upto_region 7 with (fail)
    rw [← hW4, ← hg]
    rw [← hg] at HX4
    clear hW4 hg hs4
    obtain ⟨q0, q1⟩ := HX4.out.cells
    obtain ⟨f, hf⟩ : ∃ f, f = Agg.addOk L (x, y) := ⟨_, rfl⟩
    have HAD := addQuery_any la m lc L x y W4 (HQ.out.below HT4.out) (by omega)
    rw [← hf] at HAD
    have HF := Lib.hid hf
    clear hf
    go_wp2_with fail
    refine HAD.mono ?_
    rintro e w5 ⟨v5, n5, rfl, ho5, hb5⟩
    obtain ⟨ea, ec, rfl, hq5⟩ := ho5.ops
    have HQ5 := Lib.hid (fun X (hX : Below w5.heap.size w5 X) => hq5.below hX)
    have HT5 := Lib.hid (HT4.out.trans (hb5.mono HT4.out.size))
    have HU5 := Lib.hid (HU4.out.trans (hb5.mono HU4.out.size))
    have HV5 := Lib.hid (HV4.out.trans (hb5.mono HV4.out.size))
    clear ho5 hq5 hb5 q0 q1 HX4 HT4 HU4 HV4
    go_wp2_with fail
    refine (waInts_9 _ _ _ _ _ _ C _ (HN2.out _ HU5.out) (HN3.out _ HV5.out)).mono ?_
    rintro e w6 ⟨rfl, hb6⟩
    have HT6 := Lib.hid (HT5.out.trans (hb6.mono HT5.out.size))
    have HU6 := Lib.hid (HU5.out.trans (hb6.mono HU5.out.size))
    have HV6 := Lib.hid (HV5.out.trans (hb6.mono HV5.out.size))
    have HQ6 := Lib.hid hb6
    clear hb6 HT5 HU5 HV5
    cases b
    · go_wp2_with fail
      refine (waInts_9 _ _ _ _ _ _ C _ (HN2.out _ HU6.out) (HN3.out _ HV6.out)).mono ?_
      rintro e w7 ⟨rfl, hb7⟩
      have HW7 := Lib.hid (HW1.out.trans ((HT6.out.trans (hb7.mono HT6.out.size)).mono HW1.out.size))
      clear hb7
      go_wp2_with fail
      go_returns
      exact ⟨rfl, HW7.out⟩
    · cases f
      · go_wp2_with fail
        refine (waInts_9 _ _ _ _ _ _ C _ (HN2.out _ HU6.out) (HN3.out _ HV6.out)).mono ?_
        rintro e w7 ⟨rfl, hb7⟩
        have HW7 := Lib.hid (HW1.out.trans ((HT6.out.trans (hb7.mono HT6.out.size)).mono HW1.out.size))
        clear hb7
        go_wp2_with fail
        go_returns
        exact ⟨rfl, HW7.out⟩
      · have hok := HBB.out.symm
        simp only [Agg.cutsOk, Bool.and_eq_true, decide_eq_true_eq] at hok
        obtain ⟨hql, hM0, hM1⟩ := hok
        have hao : Agg.addOut L (x, y) = Agg.addQ L (x, y) := by rw [Agg.addOut, ← HF.out]; rfl
        have hwide : Agg.cutsOk M (Agg.addQ L (x, y)) = true := by
          simp only [Agg.cutsOk, Bool.and_eq_true, decide_eq_true_eq]
          exact ⟨HF.out.symm, hM0, hM1⟩
        have hin : ∀ z ∈ C, z ∈ Agg.cutsOut M (Agg.addQ L (x, y)) := by
          intro z hz
          rw [Agg.cutsOut, hwide]
          rw [HCC.out, Agg.cutsOut, ← HBB.out] at hz
          exact Agg.cutsN_more (x, y) hz
        have HIN := Lib.hid hin
        have HCW := Lib.hid (fun X (hX : Below w5.heap.size w5 X) => cutsOf_any ea n5 ec _ M X (HQ5.out X hX))
        rw [hao, hwide] at HCW
        clear hql hM0 hM1 hao hwide hin
        go_wp2_with fail
        refine (HCW.out _ HQ6.out).mono ?_
        rintro e w7 ⟨v7, n7, rfl, r7, hb7⟩
        obtain ⟨wa, wc, rfl, N7, -⟩ := r7.nums
        have HN7 := Lib.hid (fun X (hX : Below w7.heap.size w7 X) => N7.below hX)
        have HT7 := Lib.hid (HT6.out.trans (hb7.mono HT6.out.size))
        have HU7 := Lib.hid (HU6.out.trans (hb7.mono HU6.out.size))
        clear r7 N7 hb7 HT6 HU6 HV6 HQ6
        go_wp2_with fail
        go_loopw [17] (fun i wr => ∃ k : Nat, k ≤ n2 ∧ i = .int .i64 k ∧ Hid (Below w7.heap.size w7 wr)) (fun i _ => n2 - (intOf i).toNat)
        case atStart => exact ⟨0, Nat.zero_le _, rfl, Below.refl _ _⟩
        case round =>
          obtain ⟨k, hk, rfl, hw⟩ := hrel
          have hk0 : (0 : Int) ≤ (k : Int) := Int.natCast_nonneg _
          by_cases hlt : k < n2
          · rcases (HN2.out _ (HU7.out.trans (hw.out.mono HU7.out.size))).2.2.2 with h4 | ⟨bk, off, rfl, hbl, hcs⟩
            · omega
            · have hck := hcs k hlt
              clear hcs
              have hkn : (k : Int) < (n2 : Int) := by omega
              have hmem : C[k]?.getD 0 ∈ Agg.cutsOut M (Agg.addQ L (x, y)) := by
                apply HIN.out
                rw [List.getElem?_eq_getElem (show k < C.length by have := HL2.out; omega)]
                exact List.getElem_mem _
              obtain ⟨z, hz⟩ : ∃ z, z = C[k]?.getD 0 := ⟨_, rfl⟩
              rw [← hz] at hck hmem
              clear hz
              have HWI := waIn_has wa n7 wc _ z wr (HN7.out _ hw.out) hmem
              have HWI := Lib.hid HWI
              clear hmem
              go_wp2_with fail
              refine HWI.out.mono ?_
              rintro e w8 ⟨rfl, hb8⟩
              have HW8 := Lib.hid (hw.out.trans (hb8.mono hw.out.size))
              clear hb8 HWI
              go_wp2_with fail
              go_roundw
              case rel => exact ⟨k + 1, by omega, by go_num, HW8⟩
              case measure => simp [intOf]; omega
          · have hlt' : n2 ≤ k := by omega
            have HWE := Lib.hid (HW1.out.trans ((HT7.out.trans (hw.out.mono HT7.out.size)).mono HW1.out.size))
            go_wp2_with fail
            go_returns
            exact ⟨rfl, HWE.out⟩
  · by_cases hn1 : n ≤ 1048576
    · have hnI : ¬ ((1048576 : Int) < (n : Int)) := by omega
      have hnI' : (1048576 : Int) < (n' : Int) := by omega
      go_enter Try.func6, Try.ntmps6
      go_wp2
      go_returns
      exact ⟨rfl, Below.refl _ _⟩
    · have hnI : (1048576 : Int) < (n : Int) := by omega
      go_enter Try.func6, Try.ntmps6
      go_wp2
      go_returns
      exact ⟨rfl, Below.refl _ _⟩
end Go.Proofs.Ytofpnmjadflebaa
