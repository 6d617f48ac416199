/-
  Laws of hops: hops are slides, tumbling windows are panes.
-/
import Derived.Test.YtfmkjpbmaogjpaaGreat5j
import Derived.Test.YtfmkjpbmaogjpaaGreat5f
import Derived.Test.YtfmkjpbmaogjpaaGreat5c
import Derived.Deep.RegionHeld3
import Derived.Deep.RegionWith
namespace Go.Proofs.YtfmkjpbmaogjpaaGreat
set_option linter.unusedSimpArgs false
set_option linter.unusedVariables false
open Go.RowKit
theorem Agg.rowsN_hop {n s h : Nat} (hn : n ≤ 60) (hs : 1 ≤ s) (hs2 : s ≤ 60) (hh : 1 ≤ h) (hh2 : h ≤ 60) : Agg.hopA n s h = (Agg.rowsN n s h : Nat) ∧ Agg.hopOk n s h = true := by
  have e : Agg.hopOk n s h = true := by simp only [Agg.hopOk, Agg.hopsOk, Bool.and_eq_true, decide_eq_true_eq]; omega
  refine ⟨?_, e⟩
  simp only [Agg.hopA, e, if_true, Agg.hopN, Agg.rowsN]
  by_cases a : n < s
  · have b : (n : Int) < s := by omega
    simp [a, b]
  · have b : ¬ ((n : Int) < s) := by omega
    rw [if_neg a, if_neg b]
    have c : (n : Int) - s = ((n - s : Nat) : Int) := by omega
    rw [c, ← Int.natCast_ediv]; simp
theorem Agg.nums_at (k : Int) (f : Nat → List Int) (n j : Nat) (h : j < n) : (Agg.nums k f n)[j]?.getD 0 = Agg.number k (f j) := by simp [Agg.nums, h]
set_option maxRecDepth 8000 in
set_option maxHeartbeats 1000000 in
theorem law_FnHopNumbers (a : Option Addr) (n cap : Nat) (zs : List Int) (w : World) (hrow : IsRow .u8 w a n cap zs) :
    Calls Tryz.prog 11 #[.slice a n cap] w fun e w' => e = .returned (.bool true) ∧ Below w.heap.size w w' := by
  have HB := Lib.hid (Bytes.of_row hrow); have hm : cap ≤ 9223372036854775807 := HB.out.2.1; have hnc : n ≤ cap := HB.out.1; clear hrow
  by_cases hn : n ≤ 1048576
  · go_enter Tryz.func11, Tryz.ntmps11
    go_wp2_with fail
    refine (drawHopNumbers_any _ _ _ _ _ HB.out).mono ?_
    rintro e w1 ⟨k, s, h, vv, m, l, rfl, ho, hm20, hb1⟩
    obtain ⟨ia, mc, rfl, hN, hll⟩ := ho.nums
    have hs1 := hb1.size
    have hml : m ≤ mc := hN.2.1
    have hmc : mc ≤ 9223372036854775807 := by have := hN.2.2.1; unfold maxLen at this; omega
    have HN := Lib.hid hN
    have HW1 := Lib.hid hb1
    clear hN hb1 HB ho
    have h1 := hopNumbers_any k ia m mc l s h w1 HN.out
    have h2 := fun w h' => s_hopNumbers_any k ia m mc l s h w h'
    obtain ⟨S, hS⟩ : ∃ S, S = Agg.hopsOut k l s h := ⟨_, rfl⟩
    obtain ⟨o, ho⟩ : ∃ o, o = Agg.hopsIn k l s h := ⟨_, rfl⟩
    rw [← hS, ← ho] at h1 h2
    have H1 := Lib.hid h1
    have H2 := Lib.hid h2
    have HS := Lib.hid hS
    have HO := Lib.hid ho
    clear h1 h2 hS ho
    go_wp2_with fail
    refine H1.out.mono ?_
    rintro e w2 ⟨v2, n2, rfl, r2, hb2⟩
    have hs2 := hb2.size
    have R2 := Lib.hid r2
    have HN2 := Lib.hid (HN.out.below hb2)
    have HW2 := Lib.hid (HW1.out.trans (hb2.mono hs1))
    clear r2 hb2 H1 HN HW1
    go_wp2_with fail
    refine (H2.out _ HN2.out).mono ?_
    rintro e w3 ⟨v3, n3, rfl, r3, hb3⟩
    have hs3 := hb3.size
    obtain ⟨a2, c2, rfl, hp2, hl2⟩ := (R2.out.below hb3).nums
    obtain ⟨a3, c3, rfl, hp3, hl3⟩ := r3.nums
    have P2 := Lib.hid hp2
    have P3 := Lib.hid hp3
    have HN3 := Lib.hid (HN2.out.below hb3)
    have HW3 := Lib.hid (HW2.out.trans (hb3.mono HW2.out.size))
    have hc2 : c2 ≤ 9223372036854775807 := by have := hp2.2.2.1; unfold maxLen at this; omega
    have hnc2 : n2 ≤ c2 := hp2.2.1
    clear r3 hb3 H2 HN2 HW2 R2 hp2 hp3
    go_wp2_with fail
    refine (waInts_same _ _ _ _ _ _ S _ P2.out P3.out).mono ?_
    rintro e w4 ⟨rfl, hb4⟩
    have hs4 := hb4.size
    have Q2 := Lib.hid (P2.out.below hb4)
    have Q3 := Lib.hid (P3.out.below hb4)
    have HN4 := Lib.hid (HN3.out.below hb4)
    have HW4 := Lib.hid (HW3.out.trans (hb4.mono HW3.out.size))
    clear hb4 P2 P3 HN3 HW3
    cases o
    · go_wp2_with fail
      refine (waInts_same _ _ _ _ _ _ S _ Q2.out Q3.out).mono ?_
      rintro e w5 ⟨rfl, hb5⟩
      have HW5 := Lib.hid (HW4.out.trans (hb5.mono HW4.out.size))
      clear hb5
      go_wp2_with fail
      go_returns
      exact ⟨rfl, HW5.out⟩
    have hok := HO.out.symm
    simp only [Agg.hopsIn, Bool.and_eq_true] at hok
    obtain ⟨⟨hk, hi⟩, hsz⟩ := hok
    have hsz' : 1 ≤ s ∧ s ≤ 60 ∧ 1 ≤ h ∧ h ≤ 60 := by simp [Agg.hopsOk] at hsz; omega
    obtain ⟨hz1, hz2, hz3, hz4⟩ := hsz'
    obtain ⟨sn, rfl⟩ := Int.eq_ofNat_of_zero_le (show 0 ≤ s by omega)
    obtain ⟨hn', rfl⟩ := Int.eq_ofNat_of_zero_le (show 0 ≤ h by omega)
    have hm60 : m ≤ 60 := by have := Agg.items_len hi; omega
    have hSS : S = Agg.nums k (fun j => (l.drop (j * hn')).take sn) (Agg.rowsN m sn hn') := by rw [HS.out, Agg.hopsOut, ← HO.out, if_pos rfl, Int.toNat_natCast, Int.toNat_natCast, Agg.hops, hll]
    have hSl : n2 = Agg.rowsN m sn hn' := by rw [← hl2, hSS, Agg.nums_len]
    have hRl := fun j => Agg.rowsN_lt (n := m) (s := sn) (h := hn') (j := j) (by omega)
    rw [← hSl] at hSS
    simp only [← hSl] at hRl
    have HSL := Lib.hid hSl
    have HSS := Lib.hid hSS
    have HI := Lib.hid hi
    have HR := Lib.hid hRl
    clear HS HO hSS hi hl2 hl3 hSl Q3 hRl hsz
    have h3 := slideNumbers_any k ia m mc l sn w4 HN4.out
    have ok3 : Agg.slideOk k l sn = true := by simp only [Agg.slideOk, Bool.and_eq_true, decide_eq_true_eq]; exact ⟨⟨hk, HI.out⟩, by omega, by omega⟩
    have hT3 : Agg.slideOut k l sn = Agg.nums k (fun j => (l.drop (j * 1)).take sn) (m + 1 - sn) := by rw [Agg.slideOut, ok3, if_pos rfl, Int.toNat_natCast, Agg.slides_hops k l (by omega), Agg.hops, hll, Agg.rowsN_one (by omega)]
    rw [hT3, ok3] at h3
    obtain ⟨T, hT⟩ : ∃ T, T = Agg.nums k (fun j => (l.drop (j * 1)).take sn) (m + 1 - sn) := ⟨_, rfl⟩
    rw [← hT] at h3
    have H3 := Lib.hid h3
    have HT := Lib.hid hT
    have h4 := fun w => hopCount_any (m : Int) (sn : Int) (hn' : Int) w
    obtain ⟨e1, e2⟩ := Agg.rowsN_hop (n := m) (s := sn) (h := hn') hm60 (by omega) (by omega) (by omega) (by omega)
    rw [e1, e2, ← HSL.out] at h4
    have H4 := Lib.hid h4
    clear h3 h4 hT ok3 hT3 e1 e2
    go_wp2_with fail
    refine H3.out.mono ?_
    rintro e w5 ⟨v5, n5, rfl, r5, hb5⟩
    obtain ⟨a5, c5, rfl, hp5, hl5⟩ := r5.nums
    have hs5 := hb5.size
    have P5 := Lib.hid hp5
    have Q5 := Lib.hid (Q2.out.below hb5)
    have HW5 := Lib.hid (HW4.out.trans (hb5.mono HW4.out.size))
    have hc5 : c5 ≤ 9223372036854775807 := by have := hp5.2.2.1; unfold maxLen at this; omega
    have hnc5 : n5 ≤ c5 := hp5.2.1
    have hn5 : n5 = m + 1 - sn := by rw [← hl5, HT.out, Agg.nums_len]
    have HN5 := Lib.hid hn5
    clear hb5 r5 H3 Q2 HW4 hp5 hl5 hn5 HN4
    go_wp2_with fail
    refine (H4.out _).mono ?_
    rintro e w6 ⟨rfl, rfl⟩
    go_wp2_with fail
    go_loopw [15] (fun i wr => ∃ j : Nat, j ≤ n2 ∧ i = .int .i64 j ∧ Hid (Below w5.heap.size w5 wr)) (fun i _ => n2 - (intOf i).toNat)
    case atStart => exact ⟨0, Nat.zero_le _, rfl, Below.refl _ _⟩
    case round =>
      obtain ⟨j, hj, rfl, hw⟩ := hrel
      have hwr := hw.out.size
      by_cases hlt : j < n2
      · obtain ⟨c, hc⟩ : ∃ c, c = j * hn' := ⟨_, rfl⟩
        have hcn : sn + c ≤ m := by rw [hc]; exact (HR.out j).1 hlt
        have hat := Agg.nums_at k (fun j => (l.drop (j * hn')).take sn) n2 j hlt
        rw [← HSS.out] at hat
        simp only [← hc] at hat
        have hat2 := Agg.nums_at k (fun j => (l.drop (j * 1)).take sn) (m + 1 - sn) c (by omega)
        rw [← HT.out, Nat.mul_one] at hat2
        obtain ⟨X, hX⟩ : ∃ X, X = Agg.number k ((l.drop c).take sn) := ⟨_, rfl⟩
        rw [← hX] at hat hat2
        have hj0 : (0 : Int) ≤ (j : Int) := by omega
        have hjn : (j : Int) < (n2 : Int) := by omega
        have hm1 : IntKind.i64.wrap ((j : Int) * (hn' : Int)) = (c : Int) := by rw [IntWalk.i64_in _ (by rw [show (j : Int) * (hn' : Int) = ((c : Nat) : Int) by rw [hc]; simp]; omega), hc]; simp
        have hcn5 : c < n5 := by have := HN5.out; omega
        have hj7 : (c : Int) < (n5 : Int) := by omega
        have hj6 : (0 : Int) ≤ (c : Int) := by omega
        have hA := Q5.out.below hw.out
        have hB := P5.out.below hw.out
        rcases hA.2.2.2 with h0 | ⟨b', off, rfl, hbw, hcs⟩
        · omega
        · rcases hB.2.2.2 with h0 | ⟨b2, off2, rfl, hbw2, hcs2⟩
          · omega
          · have q0 := hcs j hlt
            have q1 := hcs2 c hcn5
            rw [hat] at q0
            rw [hat2] at q1
            clear hcs hcs2 hA hB hat hat2 hX hc
            go_wp2_with fail
            go_quiet (fail)
            go_wp2_with fail
            go_roundw
            case rel => exact ⟨j + 1, by omega, by go_num, Lib.hid (by first | exact hw.out | exact hw.out.drew | exact below_drewN hw.out _)⟩
            case measure => simp [intOf]; omega
      · obtain rfl : j = n2 := by omega
        have HBB := Lib.hid (HW5.out.trans (hw.out.mono HW5.out.size))
        go_wp2_with fail
        go_returns
        exact ⟨by first | rfl | simp, HBB.out⟩
  · go_enter Tryz.func11, Tryz.ntmps11
    go_wp2
    go_returns
    exact ⟨rfl, Below.refl _ _⟩
set_option maxRecDepth 8000 in
set_option maxHeartbeats 1000000 in
theorem law_FnHopTumble (a : Option Addr) (n cap : Nat) (zs : List Int) (w : World) (hrow : IsRow .u8 w a n cap zs) :
    Calls Tryz.prog 13 #[.slice a n cap] w fun e w' => e = .returned (.bool true) ∧ Below w.heap.size w w' := by
  have HB := Lib.hid (Bytes.of_row hrow); have hm : cap ≤ 9223372036854775807 := HB.out.2.1; have hnc : n ≤ cap := HB.out.1; clear hrow
  by_cases hn : n ≤ 1048576
  · go_enter Tryz.func13, Tryz.ntmps13
    go_wp2_with fail
    refine (drawHopNumbers_any _ _ _ _ _ HB.out).mono ?_
    rintro e w1 ⟨k, s, h, vv, m, l, rfl, ho, hm20, hb1⟩
    obtain ⟨ia, mc, rfl, hN, hll⟩ := ho.nums
    have hs1 := hb1.size
    have hml : m ≤ mc := hN.2.1
    have hmc : mc ≤ 9223372036854775807 := by have := hN.2.2.1; unfold maxLen at this; omega
    have HN := Lib.hid hN
    have HW1 := Lib.hid hb1
    clear hN hb1 HB ho
    have h1 := hopNumbers_any k ia m mc l s h w1 HN.out
    have h2 := fun w h' => s_hopNumbers_any k ia m mc l s h w h'
    obtain ⟨S, hS⟩ : ∃ S, S = Agg.hopsOut k l s h := ⟨_, rfl⟩
    obtain ⟨o, ho⟩ : ∃ o, o = Agg.hopsIn k l s h := ⟨_, rfl⟩
    rw [← hS, ← ho] at h1 h2
    have H1 := Lib.hid h1
    have H2 := Lib.hid h2
    have HS := Lib.hid hS
    have HO := Lib.hid ho
    clear h1 h2 hS ho
    go_wp2_with fail
    refine H1.out.mono ?_
    rintro e w2 ⟨v2, n2, rfl, r2, hb2⟩
    have hs2 := hb2.size
    have R2 := Lib.hid r2
    have HN2 := Lib.hid (HN.out.below hb2)
    have HW2 := Lib.hid (HW1.out.trans (hb2.mono hs1))
    clear r2 hb2 H1 HN HW1
    go_wp2_with fail
    refine (H2.out _ HN2.out).mono ?_
    rintro e w3 ⟨v3, n3, rfl, r3, hb3⟩
    have hs3 := hb3.size
    obtain ⟨a2, c2, rfl, hp2, hl2⟩ := (R2.out.below hb3).nums
    obtain ⟨a3, c3, rfl, hp3, hl3⟩ := r3.nums
    have P2 := Lib.hid hp2
    have P3 := Lib.hid hp3
    have HN3 := Lib.hid (HN2.out.below hb3)
    have HW3 := Lib.hid (HW2.out.trans (hb3.mono HW2.out.size))
    have hc2 : c2 ≤ 9223372036854775807 := by have := hp2.2.2.1; unfold maxLen at this; omega
    have hnc2 : n2 ≤ c2 := hp2.2.1
    clear r3 hb3 H2 HN2 HW2 R2 hp2 hp3
    go_wp2_with fail
    refine (waInts_same _ _ _ _ _ _ S _ P2.out P3.out).mono ?_
    rintro e w4 ⟨rfl, hb4⟩
    have hs4 := hb4.size
    have Q2 := Lib.hid (P2.out.below hb4)
    have Q3 := Lib.hid (P3.out.below hb4)
    have HN4 := Lib.hid (HN3.out.below hb4)
    have HW4 := Lib.hid (HW3.out.trans (hb4.mono HW3.out.size))
    clear hb4 P2 P3 HN3 HW3
    cases o
    · go_wp2_with fail
      refine (waInts_same _ _ _ _ _ _ S _ Q2.out Q3.out).mono ?_
      rintro e w5 ⟨rfl, hb5⟩
      have HW5 := Lib.hid (HW4.out.trans (hb5.mono HW4.out.size))
      clear hb5
      go_wp2_with fail
      go_returns
      exact ⟨rfl, HW5.out⟩
    have hok := HO.out.symm
    simp only [Agg.hopsIn, Bool.and_eq_true] at hok
    obtain ⟨⟨hk, hi⟩, hsz⟩ := hok
    have hsz' : 1 ≤ s ∧ s ≤ 60 ∧ 1 ≤ h ∧ h ≤ 60 := by simp [Agg.hopsOk] at hsz; omega
    obtain ⟨hz1, hz2, hz3, hz4⟩ := hsz'
    obtain ⟨sn, rfl⟩ := Int.eq_ofNat_of_zero_le (show 0 ≤ s by omega)
    obtain ⟨hn', rfl⟩ := Int.eq_ofNat_of_zero_le (show 0 ≤ h by omega)
    have hm60 : m ≤ 60 := by have := Agg.items_len hi; omega
    have hSS : S = Agg.nums k (fun j => (l.drop (j * hn')).take sn) (Agg.rowsN m sn hn') := by rw [HS.out, Agg.hopsOut, ← HO.out, if_pos rfl, Int.toNat_natCast, Int.toNat_natCast, Agg.hops, hll]
    have hSl : n2 = Agg.rowsN m sn hn' := by rw [← hl2, hSS, Agg.nums_len]
    have hRl := fun j => Agg.rowsN_lt (n := m) (s := sn) (h := hn') (j := j) (by omega)
    rw [← hSl] at hSS
    simp only [← hSl] at hRl
    have HSL := Lib.hid hSl
    have HSS := Lib.hid hSS
    have HI := Lib.hid hi
    have HR := Lib.hid hRl
    clear HS HO hSS hi hl2 hl3 hSl Q3 hRl hsz
    have hsz3 : Agg.hopsOk (sn : Int) (sn : Int) = true := by simp only [Agg.hopsOk, Bool.and_eq_true, decide_eq_true_eq]; omega
    have h3 := hopNumbers_any k ia m mc l sn sn w4 HN4.out
    have ok3 : Agg.hopsIn k l sn sn = true := by simp only [Agg.hopsIn, Bool.and_eq_true]; exact ⟨⟨hk, HI.out⟩, hsz3⟩
    have hT3 : Agg.hopsOut k l sn sn = Agg.nums k (fun j => (l.drop (j * sn)).take sn) (Agg.rowsN m sn sn) := by rw [Agg.hopsOut, ok3, if_pos rfl, Int.toNat_natCast, Agg.hops, hll]
    rw [hT3, ok3] at h3
    have h4 := fun w h' => panesOf_any k ia m mc l sn w h'
    have ok4 : Agg.panesOk k l sn = true := by simp only [Agg.panesOk, Bool.and_eq_true, decide_eq_true_eq]; exact ⟨⟨hk, HI.out⟩, by omega, by omega⟩
    have hT4 : Agg.panesOut k l sn = Agg.folds k (fun j => (l.drop (j * sn)).take sn) (Agg.rowsN m sn sn) := by rw [Agg.panesOut, ok4, if_pos rfl, Int.toNat_natCast, Agg.panes, hll]
    rw [hT4, ok4] at h4
    have hRl := fun j => Agg.rowsN_lt (n := m) (s := sn) (h := sn) (j := j) (by omega)
    obtain ⟨R, hRe⟩ : ∃ R, R = Agg.rowsN m sn sn := ⟨_, rfl⟩
    rw [← hRe] at h3 h4
    simp only [← hRe] at hRl
    obtain ⟨T, hT⟩ : ∃ T, T = Agg.nums k (fun j => (l.drop (j * sn)).take sn) R := ⟨_, rfl⟩
    obtain ⟨P, hP⟩ : ∃ P, P = Agg.folds k (fun j => (l.drop (j * sn)).take sn) R := ⟨_, rfl⟩
    rw [← hT] at h3
    rw [← hP] at h4
    have H3 := Lib.hid h3
    have H4 := Lib.hid h4
    have HT := Lib.hid hT
    have HP := Lib.hid hP
    have HRR := Lib.hid hRl
    clear h3 h4 hT hP ok3 ok4 hT3 hT4 hRl hRe hsz3 HSL HSS HR Q2
    go_wp2_with fail
    refine H3.out.mono ?_
    rintro e w5 ⟨v5, n5, rfl, r5, hb5⟩
    obtain ⟨a5, c5, rfl, hp5, hl5⟩ := r5.nums
    have hs5 := hb5.size
    have P5 := Lib.hid hp5
    have HN5 := Lib.hid (HN4.out.below hb5)
    have HW5 := Lib.hid (HW4.out.trans (hb5.mono HW4.out.size))
    have hc5 : c5 ≤ 9223372036854775807 := by have := hp5.2.2.1; unfold maxLen at this; omega
    have hnc5 : n5 ≤ c5 := hp5.2.1
    obtain rfl : R = n5 := by rw [← hl5, HT.out, Agg.nums_len]
    clear hb5 r5 H3 HW4 hp5 hl5 HN4
    go_wp2_with fail
    refine (H4.out _ HN5.out).mono ?_
    rintro e w6 ⟨v6, n6, rfl, r6, hb6⟩
    have hl6 := r6.len
    obtain ⟨a6, c6, rfl, hp6⟩ := r6.vals
    have hs6 := hb6.size
    have P6 := Lib.hid hp6
    have Q5 := Lib.hid (P5.out.below hb6)
    have HW6 := Lib.hid (HW5.out.trans (hb6.mono HW5.out.size))
    have hc6 : c6 ≤ 9223372036854775807 := by have := hp6.2.2.1; unfold maxLen at this; omega
    have hnc6 : n6 ≤ c6 := hp6.2.1
    obtain rfl : R = n6 := by rw [← hl6, HP.out, Agg.folds_len]
    clear hb6 r6 H4 HW5 hp6 hl6 HN5 P5
    go_wp2_with fail
    go_loopw [15] (fun i wr => ∃ j : Nat, j ≤ R ∧ i = .int .i64 j ∧ Hid (Below w6.heap.size w6 wr)) (fun i _ => R - (intOf i).toNat)
    case atStart => exact ⟨0, Nat.zero_le _, rfl, Below.refl _ _⟩
    case round =>
      obtain ⟨j, hj, rfl, hw⟩ := hrel
      have hwr := hw.out.size
      by_cases hlt : j < R
      · obtain ⟨c, hc⟩ : ∃ c, c = j * sn := ⟨_, rfl⟩
        have hcn : sn + c ≤ m := by rw [hc]; exact (HRR.out j).1 hlt
        have hat := Agg.nums_at k (fun j => (l.drop (j * sn)).take sn) R j hlt
        rw [← HT.out] at hat
        have hat2 := Agg.folds_at k (fun j => (l.drop (j * sn)).take sn) R j hlt
        rw [← HP.out] at hat2
        simp only [← hc] at hat hat2
        have hne : (l.drop c).take sn ≠ [] := by intro e; have := congrArg List.length e; simp at this; omega
        have hlow := Agg.aLow_number hk (part_ok HI.out c sn) hne
        obtain ⟨X, hX⟩ : ∃ X, X = Agg.number k ((l.drop c).take sn) := ⟨_, rfl⟩
        obtain ⟨⟨x, y, z⟩, hV⟩ : ∃ V, V = Agg.fold k ((l.drop c).take sn) := ⟨_, rfl⟩
        rw [← hX] at hat hlow
        rw [← hV] at hat2 hlow
        have hG := fun w => lowerValue_any k x y z w
        rw [hlow] at hG
        have HG := Lib.hid hG
        have hj0 : (0 : Int) ≤ (j : Int) := by omega
        have hjn : (j : Int) < (R : Int) := by omega
        have hA := Q5.out.below hw.out
        have hB := P6.out.below hw.out
        rcases hA.2.2.2 with h0 | ⟨b', off, rfl, hbw, hcs⟩
        · omega
        · rcases hB.2.2.2 with h0 | ⟨b2, off2, rfl, hbw2, hcs2⟩
          · omega
          · have q0 := hcs j hlt
            obtain ⟨q1, q2, q3⟩ := hcs2 j hlt
            rw [hat] at q0
            rw [hat2] at q1 q2 q3
            clear hcs hcs2 hA hB hat hat2 hX hV hc hG hlow hne
            go_wp2_with fail
            refine (HG.out _).mono ?_
            rintro e w7 ⟨rfl, hb7⟩
            have q5 := (hb7.cell (p := ⟨b', off + j, none⟩) hbw).trans q0
            have HW7 := Lib.hid (hw.out.trans (hb7.mono hwr))
            clear hb7 q0 q1 q2 q3 HG
            go_wp2_with fail
            (try go_quiet (fail))
            (try go_wp2_with fail)
            go_roundw
            case rel => exact ⟨j + 1, by omega, by go_num, Lib.hid (by first | exact HW7.out | exact HW7.out.drew | exact below_drewN HW7.out _)⟩
            case measure => simp [intOf]; omega
      · obtain rfl : j = R := by omega
        have HBB := Lib.hid (HW6.out.trans (hw.out.mono HW6.out.size))
        go_wp2_with fail
        go_returns
        exact ⟨by first | rfl | simp, HBB.out⟩
  · go_enter Tryz.func13, Tryz.ntmps13
    go_wp2
    go_returns
    exact ⟨rfl, Below.refl _ _⟩
end Go.Proofs.YtfmkjpbmaogjpaaGreat
