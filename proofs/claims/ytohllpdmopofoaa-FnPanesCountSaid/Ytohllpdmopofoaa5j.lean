/-
  Laws of panes: panes are rows, panes are parts.
-/
import Derived.Test.Ytohllpdmopofoaa5h
import Derived.Test.Ytohllpdmopofoaa2t
import Derived.Deep.DeepMust
import Derived.Deep.Cut
namespace Go.Proofs.Ytohllpdmopofoaa
set_option linter.unusedSimpArgs false
set_option linter.unusedVariables false
open Go.RowKit
theorem Agg.rowsN_div {n s : Nat} (hs : 1 ≤ s) : Agg.rowsN n s s = n / s := by
  unfold Agg.rowsN
  split
  · rw [Nat.div_eq_of_lt (by omega)]
  · rw [Nat.div_eq_sub_div (by omega) (by omega : s ≤ n)]
set_option maxHeartbeats 2000000 in
theorem waValues_same5 (a1 : Option Addr) (n1 cap1 : Nat) (a2 : Option Addr) (n2 cap2 : Nat) (l : List Agg.V) (w : World) (h1 : Vals w a1 n1 cap1 l) (h2 : Vals w a2 n2 cap2 l) :
    Calls Try.prog 21 #[.slice a1 n1 cap1, .slice a2 n2 cap2] w fun e w' => e = .returned (.bool true) ∧ Below w.heap.size w w' := by
  obtain ⟨hl1, hcap1, hm1, h41⟩ := h1
  obtain ⟨hl2, hcap2, hm2, h42⟩ := h2
  obtain rfl : n1 = n2 := by omega
  unfold maxLen at hm1
  have HL := Lib.hid hl1; clear hl1 hl2 hm2 hcap2
  have H1 := Lib.hid h41; clear h41
  have H2 := Lib.hid h42; clear h42
  go_enter Try.func21, Try.ntmps21
  go_wp2
  go_loopw [5] (fun i wr => ∃ k : Nat, k ≤ n1 ∧ i = .int .i64 k ∧ Hid (Below w.heap.size w wr)) (fun i _ => n1 - (intOf i).toNat)
  case atStart => exact ⟨0, Nat.zero_le _, rfl, Below.refl _ _⟩
  case round =>
    obtain ⟨k, hk, rfl, HW⟩ := hrel
    by_cases hlt : k < n1
    · rcases H1.out with h4 | ⟨b, off, rfl, hb, hcs⟩
      · omega
      · rcases H2.out with h4 | ⟨b', off', rfl, hb', hcs'⟩
        · omega
        · have hck := (HW.out.cell (p := ⟨b, off + k * 3, none⟩) hb).trans (hcs k hlt).1
          have hcl := (HW.out.cell (p := ⟨b, off + k * 3 + 1, none⟩) hb).trans (hcs k hlt).2.1
          have hcm := (HW.out.cell (p := ⟨b, off + k * 3 + 2, none⟩) hb).trans (hcs k hlt).2.2
          have hck' := (HW.out.cell (p := ⟨b', off' + k * 3, none⟩) hb').trans (hcs' k hlt).1
          have hcl' := (HW.out.cell (p := ⟨b', off' + k * 3 + 1, none⟩) hb').trans (hcs' k hlt).2.1
          have hcm' := (HW.out.cell (p := ⟨b', off' + k * 3 + 2, none⟩) hb').trans (hcs' k hlt).2.2
          clear hcs hcs'
          obtain ⟨⟨x, y, z⟩, hx⟩ : ∃ x, x = l[k]?.getD Agg.zero := ⟨_, rfl⟩
          rw [← hx] at hck hck' hcl hcl' hcm hcm'
          clear hx
          have hk0 : (0 : Int) ≤ (k : Int) := Int.natCast_nonneg _
          have hkn : (k : Int) < (n1 : Int) := by omega
          go_wp2
          go_quiet (fail)
          go_wp2
          go_roundw
          case rel => exact ⟨k + 1, by omega, by go_num, below_drewN HW.out _⟩
          case measure => simp [intOf]; omega
    · have hlt' : n1 ≤ k := by omega
      clear hlt
      go_wp2
      go_returns
      exact ⟨rfl, HW.out⟩
theorem drawPanesOf_any (a : Option Addr) (n cap : Nat) (l : List Int) (w : World) (h : Bytes w a n cap l) :
    Calls Try.prog 18 #[.slice a n cap] w (DrawnSlide w) := by
  have HB := Lib.hid h; clear h
  go_enter Try.func18, Try.ntmps18
  go_wp2_with fail
  refine (drawSlideNumbers_any _ _ _ l _ HB.out).mono ?_
  rintro e w1 ⟨k, s, b, m, mc, l', rfl, hN, hm, hb⟩
  have HN := Lib.hid hN
  have HW := Lib.hid hb
  clear hN hb
  go_wp2_with fail
  go_returns
  exact ⟨k, s, b, m, mc, l', rfl, HN.out, hm, HW.out⟩
set_option maxRecDepth 8000 in
set_option maxHeartbeats 1000000 in
theorem law_FnPanesCount (a : Option Addr) (n cap : Nat) (zs : List Int) (w : World) (hrow : IsRow .u8 w a n cap zs) :
    Calls Try.prog 8 #[.slice a n cap] w fun e w' => e = .returned (.bool true) ∧ Below w.heap.size w w' := by
  have HB := Lib.hid (Bytes.of_row hrow)
  have hm : cap ≤ 9223372036854775807 := HB.out.2.1
  have hnc : n ≤ cap := HB.out.1
  clear hrow
  by_cases hn : n ≤ 1048576
  · go_enter Try.func8, Try.ntmps8
    go_wp2_with fail
    refine (drawPanesOf_any _ _ _ _ _ HB.out).mono ?_
    rintro e w1 ⟨k, s, b, m, mc, l, rfl, hN, hm1000, hb1⟩
    have hs1 := hb1.size
    have hml : m ≤ mc := hN.2.1
    have hmc : mc ≤ 9223372036854775807 := by have := hN.2.2.1; unfold maxLen at this; omega
    have hll : l.length = m := hN.1
    have HN := Lib.hid hN
    have HW1 := Lib.hid hb1
    clear hN hb1 HB
    have h1 := panesOf_any k (some ⟨b, 0, none⟩) m mc l s w1 HN.out
    have h2 := fun w h => s_panesOf_any k (some ⟨b, 0, none⟩) m mc l s w h
    obtain ⟨S, hS⟩ : ∃ S, S = Agg.panesOut k l s := ⟨_, rfl⟩
    obtain ⟨o, ho⟩ : ∃ o, o = Agg.panesOk k l s := ⟨_, rfl⟩
    rw [← hS, ← ho] at h1 h2
    have H1 := Lib.hid h1
    have H2 := Lib.hid h2
    have HS := Lib.hid hS
    have HO := Lib.hid ho
    clear h1 h2 hS ho
    go_wp2_with fail
    refine H1.out.mono ?_
    rintro e w2 ⟨v2, n2, rfl, r2, hb2⟩
    have hs2 := hb2.size
    have R2 := Lib.hid r2
    have HN2 := Lib.hid (HN.out.below hb2)
    have HW2 := Lib.hid (HW1.out.trans (hb2.mono hs1))
    clear r2 hb2 H1 HN HW1
    go_wp2_with fail
    refine (H2.out _ HN2.out).mono ?_
    rintro e w3 ⟨v3, n3, rfl, r3, hb3⟩
    have hs3 := hb3.size
    have hl2 := R2.out.len
    obtain ⟨a2, c2, rfl, hp2⟩ := (R2.out.below hb3).vals
    obtain ⟨a3, c3, rfl, hp3⟩ := r3.vals
    have P2 := Lib.hid hp2
    have P3 := Lib.hid hp3
    have HN3 := Lib.hid (HN2.out.below hb3)
    have HW3 := Lib.hid (HW2.out.trans (hb3.mono HW2.out.size))
    have hc2 : c2 ≤ 9223372036854775807 := by have := hp2.2.2.1; unfold maxLen at this; omega
    have hnc2 : n2 ≤ c2 := hp2.2.1
    clear r3 hb3 H2 HN2 HW2 R2 hp2 hp3
    go_wp2_with fail
    refine (waValues_same5 _ _ _ _ _ _ S _ P2.out P3.out).mono ?_
    rintro e w4 ⟨rfl, hb4⟩
    have hs4 := hb4.size
    have Q2 := Lib.hid (P2.out.below hb4)
    have Q3 := Lib.hid (P3.out.below hb4)
    have HN4 := Lib.hid (HN3.out.below hb4)
    have HW4 := Lib.hid (HW3.out.trans (hb4.mono HW3.out.size))
    clear hb4 P2 P3 HN3 HW3
    cases o
    · go_wp2_with fail
      refine (waValues_same5 _ _ _ _ _ _ S _ Q2.out Q3.out).mono ?_
      rintro e w5 ⟨rfl, hb5⟩
      have HW5 := Lib.hid (HW4.out.trans (hb5.mono HW4.out.size))
      clear hb5
      go_wp2_with fail
      go_returns
      exact ⟨rfl, HW5.out⟩
    · have hok := HO.out.symm
      simp only [Agg.panesOk, Bool.and_eq_true, decide_eq_true_eq] at hok
      obtain ⟨⟨hk, hi⟩, hsz1, hsz2⟩ := hok
      obtain ⟨sn, rfl⟩ := Int.eq_ofNat_of_zero_le (show 0 ≤ s by omega)
      have hm60 : m ≤ 60 := by have := Agg.items_len hi; omega
      have hSS : S = Agg.folds k (fun j => (l.drop (j * sn)).take sn) (Agg.rowsN m sn sn) := by rw [HS.out, Agg.panesOut, ← HO.out, if_pos rfl, Int.toNat_natCast, Agg.panes, hll]
      have hSl : n2 = m / sn := by rw [← hl2, hSS, Agg.folds_len, Agg.rowsN_div (by omega)]
      have hR := fun j => Agg.rowsN_lt (n := m) (s := sn) (h := sn) (j := j) (by omega)
      rw [Agg.rowsN_div (by omega), ← hSl] at hSS
      simp only [Agg.rowsN_div (show 1 ≤ sn by omega), ← hSl] at hR
      have HSL := Lib.hid hSl
      have HSS := Lib.hid hSS
      have HI := Lib.hid hi
      have HR := Lib.hid hR
      clear HS HO hSS hi hl2 hSl Q3 hR
      go_wp2_with fail
      go_loopw [10] (fun i wr => ∃ j : Nat, j ≤ n2 ∧ i = .int .i64 j ∧ Hid (Below w4.heap.size w4 wr)) (fun i _ => n2 - (intOf i).toNat)
      case atStart => exact ⟨0, Nat.zero_le _, rfl, Below.refl _ _⟩
      case round =>
        obtain ⟨j, hj, rfl, hw⟩ := hrel
        have hwr := hw.out.size
        by_cases hlt : j < n2
        · obtain ⟨c, hc⟩ : ∃ c, c = j * sn := ⟨_, rfl⟩
          have hcn : sn + c ≤ m := by rw [hc]; exact (HR.out j).1 hlt
          have hP := Nums.part (i := c) (s := sn) (HN4.out.below hw.out) (by omega)
          rw [Nat.zero_add] at hP
          have hpi := part_ok HI.out c sn
          have hat := Agg.folds_at k (fun j => (l.drop (j * sn)).take sn) n2 j hlt
          rw [← HSS.out] at hat
          simp only [← hc] at hat
          have hF := fun w h => foldItems_any k (some ⟨b, c, none⟩) sn (mc - c) ((l.drop c).take sn) w h
          rw [Agg.aFold_of hk hpi] at hF
          obtain ⟨⟨x, y, z⟩, hV⟩ : ∃ V, V = Agg.fold k ((l.drop c).take sn) := ⟨_, rfl⟩
          rw [← hV] at hF hat
          have HP := Lib.hid hP
          have HF := Lib.hid hF
          have HAT := Lib.hid hat
          clear hP hpi hat hF hV
          have hj0 : (0 : Int) ≤ (j : Int) := by omega
          have hjn : (j : Int) < (n2 : Int) := by omega
          have hm1 : IntKind.i64.wrap ((j : Int) * (sn : Int)) = (c : Int) := by rw [IntWalk.i64_in _ (by rw [show (j : Int) * (sn : Int) = ((c : Nat) : Int) by rw [hc]; simp]; omega), hc]; simp
          have hm2 : IntKind.i64.wrap (((j : Int) + 1) * (sn : Int)) = (c : Int) + (sn : Int) := by
            have e : ((j : Int) + 1) * (sn : Int) = (c : Int) + (sn : Int) := by rw [hc, Int.add_mul, Int.one_mul]; simp
            rw [e]; exact IntWalk.i64_in _ (by omega)
          have HC := Lib.hid hc
          clear hc
          have hj2 : (c : Int) + sn ≤ (m : Int) := by omega
          have hj4 : (c : Int) + (sn : Int) - (c : Int) = (sn : Int) := by omega
          have hj5 : (c : Int) ≤ (c : Int) + (sn : Int) := by omega
          have hj6 : ¬ (mc - c = 0) := by omega
          have hj7 : (c : Int) < (mc : Int) := by omega
          have hj8 : (c : Int) + sn ≤ (mc : Int) := by omega
          go_wp2_with fail
          refine (HF.out _ HP.out).mono ?_
          rintro e w5 ⟨rfl, hb5⟩
          have HW5 := Lib.hid (hw.out.trans (hb5.mono hwr))
          clear hb5 HP HF
          obtain ⟨W6, hW6⟩ : ∃ W6, W6 = w5.alloc (.cells #[.int .i64 x, .int .i64 y, .int .i64 z] 41) := ⟨_, rfl⟩
          have HV6 := Lib.hid (show Box W6 w5.heap.size 41 x y z from by rw [hW6]; exact Box.new _ _ _ _ _)
          have HW6 := Lib.hid (show Below w4.heap.size w4 W6 from by rw [hW6]; exact HW5.out.alloc HW5.out.size _)
          have hQ := Q2.out.below HW6.out
          rcases hQ.2.2.2 with h0 | ⟨b', off, rfl, hbw, hcs⟩
          · omega
          · obtain ⟨p0, p1, p2⟩ := hcs j hlt
            rw [HAT.out] at p0 p1 p2
            obtain ⟨v0, v1, v2⟩ := HV6.out.cells
            clear hcs hQ HW5
            go_upto_region 12 with (fail)
            rw [← hW6]
            clear hW6
            go_quiet (fail)
            go_wp2_with fail
            go_roundw
            case rel => exact ⟨j + 1, by omega, by go_num, Lib.hid (by first | exact HW6.out | exact HW6.out.drew | exact below_drewN HW6.out _)⟩
            case measure => simp [intOf]; omega
        · obtain rfl : j = n2 := by omega
          have HBB := Lib.hid (HW4.out.trans (hw.out.mono HW4.out.size))
          have hd : (m : Int) / (sn : Int) = (j : Int) := by rw [HSL.out]; exact (Int.natCast_ediv _ _).symm
          have hs0 : ¬ ((sn : Int) = 0) := by omega
          have hs1' : 1 ≤ (sn : Int) := by omega
          go_wp2_with fail
          go_returns
          exact ⟨by first | rfl | exact ret_bool (by simp [hd]), HBB.out⟩
  · go_enter Try.func8, Try.ntmps8
    go_wp2
    go_returns
    exact ⟨rfl, Below.refl _ _⟩
end Go.Proofs.Ytohllpdmopofoaa
