/-
  The law FnSlideQueries, walked.
-/
import Derived.Test.YtfmkjpbmaogjpaaGreat2i
import Derived.Test.YtfmkjpbmaogjpaaGreat2o
namespace Go.Proofs.YtfmkjpbmaogjpaaGreat
set_option linter.unusedSimpArgs false
set_option linter.unusedVariables false
open Go.RowKit
namespace Agg
theorem winAt_pre (A B : List (Bool × Int)) {i : Nat} (h : i ≤ A.length) : winAt (A ++ B) i = winAt A i := by
  have := winAt_take (A ++ B) A.length i h
  rw [List.take_left] at this
  exact this.symm
theorem allOk_pre (A B : List (Bool × Int)) {i : Nat} (h : i ≤ A.length) : allOk (A ++ B) i = allOk A i := by
  have := allOk_take (A ++ B) A.length i h
  rw [List.take_left] at this
  exact this.symm
theorem fitTo_pre (A B : List (Bool × Int)) {i : Nat} (h : i ≤ A.length) : fitTo (A ++ B) i = fitTo A i := by
  have := fitTo_take (A ++ B) A.length i h
  rw [List.take_left] at this
  exact this.symm
theorem opAt_end (A : List (Bool × Int)) (o : Bool × Int) : opAt (A ++ [o]) A.length = o := by simp [opAt]
/-- The window behind i changes of a window of size s. -/
def slideWin (l : List Int) (s i : Nat) : List Int := if i < s then l.take i else if (i - s) % 2 = 0 then (l.drop ((i - s) / 2)).take s else (l.drop ((i - s) / 2)).take (s + 1)
/-- How many changes there are for j items. -/
def slideLen (s j : Nat) : Nat := if j < s then j else s + 2 * (j - s)
structure SlideGood (l : List Int) (s : Nat) (A : List (Bool × Int)) (n : Nat) : Prop where
  len : A.length = n
  all : allOk A n = true
  fit : fitTo A n = true
  win : ∀ i, i ≤ n → winAt A i = slideWin l s i
theorem SlideGood.snoc {l : List Int} {s : Nat} {A : List (Bool × Int)} {n : Nat} (h : SlideGood l s A n) (o : Bool × Int) (h1 : opOk o = true) (h2 : fits (slideWin l s n) o = true) (h3 : stepW (slideWin l s n) o = slideWin l s (n + 1)) : SlideGood l s (A ++ [o]) (n + 1) := by
  obtain ⟨e1, e2, e3, e4⟩ := h
  have ho : opAt (A ++ [o]) n = o := by rw [← e1]; exact opAt_end A o
  have hw : winAt (A ++ [o]) n = slideWin l s n := by rw [winAt_pre A [o] (by omega)]; exact e4 n (Nat.le_refl _)
  refine ⟨by simp [e1], ?_, ?_, ?_⟩
  · simp only [allOk, ho, h1, Bool.and_true]; rw [allOk_pre A [o] (by omega)]; exact e2
  · simp only [fitTo, ho, hw, h2, Bool.and_true]; rw [fitTo_pre A [o] (by omega)]; exact e3
  · intro i hi
    by_cases hl : i ≤ n
    · rw [winAt_pre A [o] (by omega)]; exact e4 i hl
    · obtain rfl : i = n + 1 := by omega
      simp only [winAt, ho, hw]
      exact h3
theorem slideWin_len {l : List Int} {s i : Nat} (hs : 1 ≤ s) (hi : i ≤ slideLen s l.length) : (slideWin l s i).length = if i < s then i else if (i - s) % 2 = 0 then s else s + 1 := by
  unfold slideLen at hi
  unfold slideWin
  by_cases h1 : i < s
  · rw [if_pos h1, if_pos h1]
    simp
    split at hi <;> omega
  · rw [if_neg h1, if_neg h1]
    split at hi
    · omega
    · by_cases h2 : (i - s) % 2 = 0
      · rw [if_pos h2, if_pos h2]; simp; omega
      · rw [if_neg h2, if_neg h2]; simp; omega
theorem slide_good {l : List Int} (hl : itemsOk l = true) {s : Nat} (hs : 1 ≤ s) (h59 : s ≤ 59) : ∀ j, j ≤ l.length → SlideGood l s (sOps l s j) (slideLen s j)
  | 0, _ => by
    have e : slideLen s 0 = 0 := by unfold slideLen; split <;> omega
    rw [e]
    refine ⟨rfl, rfl, rfl, fun i hi => ?_⟩
    obtain rfl : i = 0 := by omega
    simp [winAt, slideWin, show 0 < s by omega]
  | j + 1, hj => by
    have ih := slide_good hl hs h59 j (by omega)
    have hx := item_at hl (i := j) (by omega)
    obtain ⟨x, hxe⟩ : ∃ x, x = l[j]?.getD 0 := ⟨_, rfl⟩
    have hxl : l[j]? = some x := by rw [hxe, List.getElem?_eq_getElem (by omega)]; rfl
    rw [← hxe] at hx
    have hxo : opOk (true, x) = true := by simp [opOk, hx]
    by_cases hsj : s ≤ j
    · have e0 : slideLen s j = s + 2 * (j - s) := by unfold slideLen; rw [if_neg (by omega)]
      have e1 : slideLen s (j + 1) = slideLen s j + 1 + 1 := by rw [e0]; unfold slideLen; rw [if_neg (by omega)]; omega
      have w0 : slideWin l s (slideLen s j) = (l.drop (j - s)).take s := by
        unfold slideWin
        rw [e0, if_neg (by omega), if_pos (by omega), show (s + 2 * (j - s) - s) / 2 = j - s by omega]
      have w1 : slideWin l s (slideLen s j + 1) = (l.drop (j - s)).take (s + 1) := by
        unfold slideWin
        rw [e0, if_neg (by omega), if_neg (by omega), show (s + 2 * (j - s) + 1 - s) / 2 = j - s by omega]
      have w2 : slideWin l s (slideLen s j + 1 + 1) = (l.drop (j - s + 1)).take s := by
        unfold slideWin
        rw [e0, if_neg (by omega), if_pos (by omega), show (s + 2 * (j - s) + 1 + 1 - s) / 2 = j - s + 1 by omega]
      have hd : (l.drop (j - s))[s]? = some x := by rw [List.getElem?_drop, show j - s + s = j by omega]; exact hxl
      have t1 : (l.drop (j - s)).take (s + 1) = (l.drop (j - s)).take s ++ [x] := by rw [List.take_add_one, hd]; rfl
      have t2 : ((l.drop (j - s)).take (s + 1)).tail = (l.drop (j - s + 1)).take s := by
        rw [← List.drop_one, List.drop_take, List.drop_drop]
        simp
      have a := (ih.snoc (true, x) hxo (by rw [w0]; simp [fits]; omega) (by rw [w0, w1, t1]; simp [stepW])).snoc (false, 0) (by decide) (by rw [w1]; simp [fits]; omega) (by rw [w1, w2, ← t2]; simp [stepW])
      rw [e1]
      simp only [sOps, hsj, if_true, ← hxe]
      exact a
    · have e0 : slideLen s j = j := by unfold slideLen; rw [if_pos (by omega)]
      have e1 : slideLen s (j + 1) = j + 1 := by unfold slideLen; split <;> omega
      have w0 : slideWin l s j = l.take j := by unfold slideWin; rw [if_pos (by omega)]
      have w1 : slideWin l s (j + 1) = l.take (j + 1) := by
        unfold slideWin
        by_cases h : j + 1 < s
        · rw [if_pos h]
        · rw [if_neg h, if_pos (by omega), show (j + 1 - s) / 2 = 0 by omega, show s = j + 1 by omega]; simp
      have t1 : l.take (j + 1) = l.take j ++ [x] := by rw [List.take_add_one, hxl]; rfl
      rw [e0] at ih
      have a := ih.snoc (true, x) hxo (by rw [w0]; simp [fits]; omega) (by rw [w0, w1, t1]; simp [stepW])
      rw [e1]
      simp only [sOps, if_neg hsj, ← hxe]
      exact a
/-- How many of the first i windows are full. -/
def slideCnt (s i : Nat) : Nat := if i < s then 0 else (i - s) / 2 + 1
theorem slide_full {l : List Int} {s i : Nat} (hs : 1 ≤ s) (hi : i < slideLen s l.length) (h : (slideWin l s (i + 1)).length = s) :
    slideCnt s i < l.length + 1 - s ∧ slideWin l s (i + 1) = (l.drop (slideCnt s i)).take s ∧ slideCnt s (i + 1) = slideCnt s i + 1 := by
  rw [slideWin_len hs hi] at h
  by_cases h1 : i + 1 < s
  · rw [if_pos h1] at h; omega
  · rw [if_neg h1] at h
    by_cases h2 : (i + 1 - s) % 2 = 0
    · have hc : slideCnt s i = (i + 1 - s) / 2 := by unfold slideCnt; split <;> omega
      have hc1 : slideCnt s (i + 1) = (i + 1 - s) / 2 + 1 := by unfold slideCnt; rw [if_neg h1]
      refine ⟨?_, ?_, by omega⟩
      · rw [hc]
        unfold slideLen at hi
        split at hi <;> omega
      · rw [hc, slideWin, if_neg h1, if_pos h2]
    · rw [if_neg h2] at h; omega
theorem slide_part {l : List Int} {s i : Nat} (hs : 1 ≤ s) (hi : i < slideLen s l.length) (h : (slideWin l s (i + 1)).length ≠ s) : slideCnt s (i + 1) = slideCnt s i := by
  rw [slideWin_len hs hi] at h
  unfold slideCnt
  by_cases h1 : i + 1 < s
  · rw [if_pos h1, if_pos (by omega)]
  · rw [if_neg h1] at h
    by_cases h2 : (i + 1 - s) % 2 = 0
    · rw [if_pos h2] at h; omega
    · rw [if_neg h1, if_neg (by omega)]; omega
theorem slide_end (l : List Int) {s : Nat} (hs : 1 ≤ s) : slideCnt s (slideLen s l.length) = l.length + 1 - s := by
  unfold slideCnt slideLen
  by_cases h : l.length < s
  · rw [if_pos h, if_pos h]; omega
  · rw [if_neg h, if_neg (by omega)]; omega
theorem slide_ops {l : List Int} (hl : itemsOk l = true) {s : Nat} (hs : 1 ≤ s) (h59 : s ≤ 59) : opsOk (sOps l s l.length) = true ∧ (sOps l s l.length).length = slideLen s l.length := by
  obtain ⟨e1, e2, e3, -⟩ := slide_good hl hs h59 l.length (Nat.le_refl _)
  have hm := items_len hl
  have hb : slideLen s l.length ≤ 200 := by unfold slideLen; split <;> omega
  refine ⟨?_, e1⟩
  simp [opsOk, e1, e2, e3, hb]
end Agg
set_option maxRecDepth 8000 in
set_option maxHeartbeats 1000000 in
theorem law_FnSlideQueries (a : Option Addr) (n cap : Nat) (zs : List Int) (w : World) (hrow : IsRow .u8 w a n cap zs) :
    Calls Tryz.prog 7 #[.slice a n cap] w fun e w' => e = .returned (.bool true) ∧ Below w.heap.size w w' := by
  have HB := Lib.hid (Bytes.of_row hrow)
  have hm : cap ≤ 9223372036854775807 := HB.out.2.1
  have hnc : n ≤ cap := HB.out.1
  clear hrow
  by_cases hn : n ≤ 1048576
  · go_enter Tryz.func7, Tryz.ntmps7
    go_wp2_with fail
    refine (drawSlideNumbers_any _ _ _ _ _ HB.out).mono ?_
    rintro e w1 ⟨k, s, b, m, mc, l, rfl, hN, hm1000, hb1⟩
    have hs1 := hb1.size
    have hml : m ≤ mc := hN.2.1
    have hmc : mc ≤ 9223372036854775807 := by have := hN.2.2.1; unfold maxLen at this; omega
    have hll : l.length = m := hN.1
    have HN := Lib.hid hN
    have HW1 := Lib.hid hb1
    clear hN hb1
    have h1 := slideNumbers_any k (some ⟨b, 0, none⟩) m mc l s w1 HN.out
    have h2 := fun w h => s_slideNumbers_any k (some ⟨b, 0, none⟩) m mc l s w h
    have h3 := fun w h => slideOps_any (some ⟨b, 0, none⟩) m mc l s w h
    obtain ⟨S, hS⟩ : ∃ S, S = Agg.slideOut k l s := ⟨_, rfl⟩
    obtain ⟨o, ho⟩ : ∃ o, o = Agg.slideOk k l s := ⟨_, rfl⟩
    obtain ⟨O, hO⟩ : ∃ O, O = Agg.sOpsOut l s := ⟨_, rfl⟩
    obtain ⟨oo, hoo⟩ : ∃ o, o = Agg.sOpsOk l s := ⟨_, rfl⟩
    rw [← hS, ← ho] at h1 h2
    rw [← hO, ← hoo] at h3
    have H1 := Lib.hid h1
    have H2 := Lib.hid h2
    have H3 := Lib.hid h3
    have HS := Lib.hid hS
    have HO := Lib.hid ho
    have HOS := Lib.hid hO
    have HOO := Lib.hid hoo
    clear h1 h2 h3 hS ho hO hoo
    go_wp2_with fail
    refine H1.out.mono ?_
    rintro e w2 ⟨v2, n2, rfl, r2, hb2⟩
    have hs2 := hb2.size
    have R2 := Lib.hid r2
    have HN2 := Lib.hid (HN.out.below hb2)
    have HW2 := Lib.hid (HW1.out.trans (hb2.mono hs1))
    clear r2 hb2 H1 HN HW1
    go_wp2_with fail
    refine (H2.out _ HN2.out).mono ?_
    rintro e w3 ⟨v3, n3, rfl, r3, hb3⟩
    have hs3 := hb3.size
    obtain ⟨a2, c2, rfl, hp2, hl2⟩ := (R2.out.below hb3).nums
    obtain ⟨a3, c3, rfl, hp3, hl3⟩ := r3.nums
    have P2 := Lib.hid hp2
    have P3 := Lib.hid hp3
    have HN3 := Lib.hid (HN2.out.below hb3)
    have HW3 := Lib.hid (HW2.out.trans (hb3.mono HW2.out.size))
    have hc2 : c2 ≤ 9223372036854775807 := by have := hp2.2.2.1; unfold maxLen at this; omega
    have hnc2 : n2 ≤ c2 := hp2.2.1
    clear r3 hb3 H2 HN2 HW2 R2 hp2 hp3
    go_wp2_with fail
    refine (H3.out _ HN3.out).mono ?_
    rintro e w4 ⟨v4, n4, rfl, r4, hb4⟩
    obtain ⟨a4, c4, rfl, hp4⟩ := r4.ops
    have HP4 := Lib.hid hp4
    have hl4 : O.length = n4 := hp4.1
    have hnc4 : n4 ≤ c4 := hp4.2.1
    have hc4 : c4 ≤ 9223372036854775807 := by have := hp4.2.2.1; unfold maxLen at this; omega
    have Q2 := Lib.hid (P2.out.below hb4)
    have Q3 := Lib.hid (P3.out.below hb4)
    have HW4 := Lib.hid (HW3.out.trans (hb4.mono HW3.out.size))
    clear hb4 P2 P3 HN3 HW3 r4 hp4 H3
    go_wp2_with fail
    refine (waInts_same _ _ _ _ _ _ S _ Q2.out Q3.out).mono ?_
    rintro e w5 ⟨rfl, hb5⟩
    have U2 := Lib.hid (Q2.out.below hb5)
    have U3 := Lib.hid (Q3.out.below hb5)
    have HP5 := Lib.hid (HP4.out.below hb5)
    have HW5 := Lib.hid (HW4.out.trans (hb5.mono HW4.out.size))
    clear hb5 Q2 Q3 HP4 HW4
    by_cases hboth : o = true ∧ oo = true
    · obtain ⟨rfl, rfl⟩ := hboth
      have hok := HO.out.symm
      simp only [Agg.slideOk, Bool.and_eq_true, decide_eq_true_eq] at hok
      obtain ⟨⟨hk, hi⟩, hsz1, hsz2⟩ := hok
      have hok2 := HOO.out.symm
      simp only [Agg.sOpsOk, Bool.and_eq_true, decide_eq_true_eq] at hok2
      obtain ⟨-, -, h59⟩ := hok2
      obtain ⟨sn, rfl⟩ := Int.eq_ofNat_of_zero_le (show 0 ≤ s by omega)
      have hSS : S = Agg.slides k l sn := by rw [HS.out, Agg.slideOut, ← HO.out, if_pos rfl, Int.toNat_natCast]
      have hOO : O = Agg.sOps l sn l.length := by rw [HOS.out, Agg.sOpsOut, ← HOO.out, if_pos rfl, Int.toNat_natCast]
      have hn2 : n2 = l.length + 1 - sn := by rw [← hl2, hSS, Agg.slides_len]
      obtain ⟨hgo, hgl⟩ := Agg.slide_ops hi (s := sn) (by omega) (by omega)
      have hgw := (Agg.slide_good hi (s := sn) (by omega) (by omega) l.length (Nat.le_refl _)).win
      rw [← hOO] at hgo hgl hgw
      have hq := fun w h => queriesOf_any k a4 n4 c4 O w h
      have hqo : Agg.qOut k O = Agg.qs k O ∧ Agg.qOk k O = true := by simp [Agg.qOut, Agg.qOk, hk, hgo]
      rw [hqo.1, hqo.2] at hq
      have HQ := Lib.hid hq
      have HGO := Lib.hid hgo
      have HGL := Lib.hid hgl
      have HGW := Lib.hid hgw
      have HN2 := Lib.hid hn2
      have HSS := Lib.hid hSS
      have HL4 := Lib.hid hl4
      clear hq hqo hgo hgl hgw hn2 hSS hOO hi hk hl2 hl3 hl4 HS HO HOS HOO
      go_wp2_with fail
      refine (HQ.out _ HP5.out).mono ?_
      rintro e w6 ⟨v6, n6, rfl, r6, hb6⟩
      obtain ⟨a6, c6, rfl, hp6, hl6⟩ := r6.nums
      have hn6 : n6 = n4 := by rw [← hl6, Agg.qs_len, HL4.out]
      subst hn6
      have HP6 := Lib.hid (HP5.out.below hb6)
      have X2 := Lib.hid (U2.out.below hb6)
      have X6 := Lib.hid hp6
      have HW6 := Lib.hid (HW5.out.trans (hb6.mono HW5.out.size))
      clear hb6 r6 hp6 hl6 HP5 U2 U3 HW5 HQ
      go_wp2_with fail
      go_loopw [14, 15] (fun nv i wr => ∃ j : Nat, j ≤ n6 ∧ i = .int .i64 j ∧ nv = .int .i64 ((Agg.slideCnt sn j : Nat) : Int) ∧ Hid (Below w6.heap.size w6 wr)) (fun _ i _ => n6 - (intOf i).toNat)
      case atStart => exact ⟨0, Nat.zero_le _, rfl, by simp [Agg.slideCnt, show 0 < sn by omega], Below.refl _ _⟩
      case round =>
        obtain ⟨j, hj, rfl, rfl, hw⟩ := hrel
        have hwr := hw.out.size
        by_cases hlt : j < n6
        · have hl1 : (O.take (j + 1)).length = j + 1 := by have := HL4.out; simp; omega
          have hoj := Agg.opsOk_take HGO.out (i := j + 1) (by rw [HL4.out]; omega)
          have hwo : Agg.winOut (O.take (j + 1)) = Agg.winAt O (j + 1) := by rw [Agg.winOut, if_pos hoj, hl1, Agg.winAt_take O (j + 1) (j + 1) (Nat.le_refl _)]
          have h5 := fun w h => windowAfter_any a4 (j + 1) c4 (O.take (j + 1)) w h
          rw [hwo, hoj] at h5
          have hat := Agg.qs_at k O (j := j) (by rw [HL4.out]; omega)
          have hjl : j < Agg.slideLen sn l.length := by rw [← HGL.out, HL4.out]; exact hlt
          have hwin := HGW.out (j + 1) (by omega)
          have hfull := Agg.slide_full (l := l) (s := sn) (i := j) (by omega) hjl
          have hpart := Agg.slide_part (l := l) (s := sn) (i := j) (by omega) hjl
          rw [← hwin] at hfull hpart
          obtain ⟨L, hL⟩ : ∃ L, L = Agg.winAt O (j + 1) := ⟨_, rfl⟩
          rw [← hL] at h5 hat hfull hpart
          obtain ⟨c, hc⟩ : ∃ c, c = Agg.slideCnt sn j := ⟨_, rfl⟩
          rw [← hc] at hfull hpart ⊢
          have H5 := Lib.hid h5
          have HAT := Lib.hid hat
          have HFU := Lib.hid hfull
          have HPA := Lib.hid hpart
          clear h5 hat hL hwo hoj hl1 hfull hpart hwin hc hjl
          have hj0 : (0 : Int) ≤ (j : Int) := by omega
          have hjn : (j : Int) < (n6 : Int) := by omega
          have hj1 : (0 : Int) ≤ (j : Int) + 1 := by omega
          have hj2 : (j : Int) + 1 ≤ (c4 : Int) := by omega
          have hj3 : ((j : Int) + 1).toNat = j + 1 := by omega
          obtain ⟨gb, go, rfl⟩ : ∃ gb go, a4 = some ⟨gb, go, none⟩ := by
            rcases HP6.out.2.2.2 with h0 | ⟨b, off, ha, -⟩
            · omega
            · exact ⟨b, off, ha⟩
          go_wp2_with fail
          refine (H5.out _ ((HP6.out.below hw.out).pre (by omega))).mono ?_
          rintro e w7 ⟨v7, n7, rfl, r7, hb7⟩
          obtain ⟨a7, c7, rfl, hp7, hl7⟩ := r7.nums
          have hn7 : L.length = n7 := hl7
          have HW7 := Lib.hid (hw.out.trans (hb7.mono hwr))
          rw [hn7] at HFU HPA
          clear hl7 hp7 r7 hb7 H5
          by_cases hsz : n7 = sn
          · obtain ⟨hcn, hcw, hcs⟩ := HFU.out hsz
            have hcn2 : c < n2 := by have := HN2.out; omega
            have hc0 : (0 : Int) ≤ (c : Int) := by omega
            have hcn3 : (c : Int) < (n2 : Int) := by omega
            have hval := Agg.slides_at k l sn c hcn
            rw [← hcw, ← HSS.out] at hval
            have hU := X2.out.below HW7.out
            have hV := X6.out.below HW7.out
            rcases hU.2.2.2 with h0 | ⟨lb, lo, rfl, hlb, hcu⟩
            · omega
            · rcases hV.2.2.2 with h0 | ⟨nb, no, rfl, hnb, hcv⟩
              · omega
              · have hk1 := hcu c hcn2
                have hk2 := hcv j hlt
                rw [hval] at hk1
                rw [HAT.out] at hk2
                clear hcu hcv hU hV hval hcn hcw HAT HFU HPA
                have hcs' := Lib.hid hcs
                clear hcs
                go_wp2_with fail
                have hcn4 : ¬ ((n2 : Int) ≤ (c : Int)) := by omega
                have hcn5 : ¬ (n2 ≤ c) := by omega
                first
                  | go_region_held3 (fun w' => w'.cell? ⟨lb, lo + c, none⟩ = some (.int .i64 (Agg.number k L)) ∧ w'.cell? ⟨nb, no + j, none⟩ = some (.int .i64 (Agg.number k L))) (first | (refine ⟨?_, ?_⟩ <;> assumption) | go_keep) (fail)
                  | fail
                all_goals
                  go_wp2_with fail
                  go_roundw
                  case rel => exact ⟨j + 1, by omega, by go_num, by rw [hcs'.out]; go_num, Lib.hid HW7.out.drew⟩
                  case measure => simp [intOf]; omega
          · have hcs' := Lib.hid (HPA.out hsz)
            have hsz' : ¬ ((n7 : Int) = (sn : Int)) := by omega
            clear HAT HFU HPA
            go_wp2_with fail
            go_roundw
            case rel => exact ⟨j + 1, by omega, by go_num, by rw [hcs'.out], HW7⟩
            case measure => simp [intOf]; omega
        · obtain rfl : j = n6 := by omega
          have HBB := Lib.hid (HW6.out.trans (hw.out.mono HW6.out.size))
          have hend : Agg.slideCnt sn j = n2 := by rw [HN2.out, ← Agg.slide_end l (by omega), ← HGL.out, HL4.out]
          rw [hend]
          clear hend
          go_wp2
          go_returns
          exact ⟨rfl, HBB.out⟩
    · have hboth' : (o = true ∧ oo = false) ∨ o = false := by cases o <;> cases oo <;> simp at hboth ⊢
      rcases hboth' with ⟨rfl, rfl⟩ | rfl
      · go_wp2_with fail
        refine (waInts_same _ _ _ _ _ _ S _ U2.out U3.out).mono ?_
        rintro e w6 ⟨rfl, hb6⟩
        have HW6 := Lib.hid (HW5.out.trans (hb6.mono HW5.out.size))
        clear hb6
        go_wp2_with fail
        go_returns
        exact ⟨rfl, HW6.out⟩
      · cases oo
        all_goals
          go_wp2_with fail
          refine (waInts_same _ _ _ _ _ _ S _ U2.out U3.out).mono ?_
          rintro e w6 ⟨rfl, hb6⟩
          have HW6 := Lib.hid (HW5.out.trans (hb6.mono HW5.out.size))
          clear hb6
          go_wp2_with fail
          go_returns
          exact ⟨rfl, HW6.out⟩
  · go_enter Tryz.func7, Tryz.ntmps7
    go_wp2
    go_returns
    exact ⟨rfl, Below.refl _ _⟩
end Go.Proofs.YtfmkjpbmaogjpaaGreat
