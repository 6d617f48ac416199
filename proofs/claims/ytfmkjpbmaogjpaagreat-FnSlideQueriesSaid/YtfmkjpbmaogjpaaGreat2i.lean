/-
  The laws FnQueriesOf, FnWindowCount and FnQueriesPrefix, walked.
-/
import Derived.Test.YtfmkjpbmaogjpaaGreatDq
import Derived.Test.YtfmkjpbmaogjpaaGreat2t
import Derived.Test.YtfmkjpbmaogjpaaGreat2q
import Derived.Test.YtfmkjpbmaogjpaaGreatMa
namespace Go.Proofs.YtfmkjpbmaogjpaaGreat
set_option linter.unusedSimpArgs false
set_option linter.unusedVariables false
open Go.RowKit
namespace Agg
theorem opAt_take (l : List (Bool × Int)) {i j : Nat} (h : j < i) : opAt (l.take i) j = opAt l j := by simp [opAt, List.getElem?_take, h]
theorem winAt_take (l : List (Bool × Int)) (i : Nat) : ∀ j, j ≤ i → winAt (l.take i) j = winAt l j
  | 0, _ => rfl
  | j + 1, h => by simp only [winAt]; rw [winAt_take l i j (by omega), opAt_take l (by omega)]
theorem allOk_take (l : List (Bool × Int)) (i : Nat) : ∀ j, j ≤ i → allOk (l.take i) j = allOk l j
  | 0, _ => rfl
  | j + 1, h => by simp only [allOk]; rw [allOk_take l i j (by omega), opAt_take l (by omega)]
theorem fitTo_take (l : List (Bool × Int)) (i : Nat) : ∀ j, j ≤ i → fitTo (l.take i) j = fitTo l j
  | 0, _ => rfl
  | j + 1, h => by simp only [fitTo]; rw [fitTo_take l i j (by omega), opAt_take l (by omega), winAt_take l i j (by omega)]
theorem opsOk_take {l : List (Bool × Int)} (h : opsOk l = true) {i : Nat} (hi : i ≤ l.length) : opsOk (l.take i) = true := by
  obtain ⟨h1, h2, h3⟩ := opsOk_parts h
  have hl : (l.take i).length = i := by simp; omega
  simp only [opsOk, hl, Bool.and_eq_true, decide_eq_true_eq]
  exact ⟨⟨by omega, by rw [allOk_take l i i (Nat.le_refl _)]; exact allOk_down hi h2⟩, by rw [fitTo_take l i i (Nat.le_refl _)]; exact fitTo_down hi h3⟩
theorem qs_take (k : Int) (l : List (Bool × Int)) {i : Nat} (hi : i ≤ l.length) : qs k (l.take i) = (qs k l).take i := by
  have hl : (l.take i).length = i := by simp; omega
  simp only [qs, hl]
  rw [← List.map_take, List.take_range, Nat.min_eq_left hi]
  apply List.map_congr_left
  intro j hj
  have := List.mem_range.1 hj
  rw [winAt_take l i (j + 1) (by omega)]
theorem qs_at (k : Int) (l : List (Bool × Int)) {j : Nat} (h : j < l.length) : (qs k l)[j]?.getD 0 = number k (winAt l (j + 1)) := by simp [qs, h]
theorem number_count {l : List Int} (h : itemsOk l = true) : number 2 l = l.length := by
  have hk : isKind 2 = true := by decide
  have := items_len h
  rw [number, count_len, num, aLow_of hk (by rw [← count_len]; exact ok_fold_all hk h)]
  simp [low]
end Agg
theorem Nums.pre {w : World} {a : Option Addr} {n cap : Nat} {l : List Int} (h : Nums .i64 w a n cap l) {i : Nat} (hi : i ≤ n) : Nums .i64 w a i cap (l.take i) := by
  obtain ⟨h1, h2, h3, h4⟩ := h
  refine ⟨by simp; omega, by omega, h3, ?_⟩
  rcases h4 with h4 | ⟨b, off, ha, hb, hc⟩
  · exact .inl (by omega)
  · exact .inr ⟨b, off, ha, hb, fun j hj => by rw [hc j (by omega), List.getElem?_take, if_pos hj]⟩
theorem Ops.pre {w : World} {a : Option Addr} {n cap : Nat} {l : List (Bool × Int)} (h : Ops w a n cap l) {i : Nat} (hi : i ≤ n) : Ops w a i cap (l.take i) := by
  obtain ⟨h1, h2, h3, h4⟩ := h
  refine ⟨by simp; omega, by omega, h3, ?_⟩
  rcases h4 with h4 | ⟨b, off, ha, hb, hc⟩
  · exact .inl (by omega)
  · exact .inr ⟨b, off, ha, hb, fun j hj => by rw [List.getElem?_take, if_pos hj]; exact hc j (by omega)⟩
theorem drawQueriesOf_any (a : Option Addr) (n cap : Nat) (l : List Int) (w : World) (h : Bytes w a n cap l) :
    Calls Tryz.prog 20 #[.slice a n cap] w (CaseDrawn w) := by
  have HB := Lib.hid h; clear h
  go_enter Tryz.func20, Tryz.ntmps20
  go_wp2_with fail
  refine (l2Case_any _ _ _ l _ HB.out).mono ?_
  rintro e w1 ⟨k, v, m, l1, rfl, ho, hm, hk1, hk2, hb1⟩
  have HO := Lib.hid ho
  have HB1 := Lib.hid hb1
  clear ho hb1
  go_wp2_with fail
  go_returns
  exact ⟨k, v, m, l1, rfl, HO.out, hm, hk1, hk2, HB1.out⟩
set_option maxRecDepth 8000 in
set_option maxHeartbeats 2000000 in
theorem law_FnQueriesOf (a : Option Addr) (n cap : Nat) (zs : List Int) (w : World) (hrow : IsRow .u8 w a n cap zs) :
    Calls Tryz.prog 4 #[.slice a n cap] w fun e w' => e = .returned (.bool true) ∧ Below w.heap.size w w' := by
  have HB := Lib.hid (Bytes.of_row hrow)
  have hm : cap ≤ 9223372036854775807 := HB.out.2.1
  have hnc : n ≤ cap := HB.out.1
  clear hrow
  by_cases hn : n ≤ 1048576
  · go_enter Tryz.func4, Tryz.ntmps4
    go_wp2_with fail
    refine (drawQueriesOf_any _ _ _ _ _ HB.out).mono ?_
    rintro e w1 ⟨k, v0, m, l, rfl, hO, hm100, -, -, hb1⟩
    obtain ⟨oa, oc, rfl, hOp⟩ := hO.ops
    clear hO
    have hs1 := hb1.size
    have hml : m ≤ oc := hOp.2.1
    have hmc : oc ≤ 9223372036854775807 := by have := hOp.2.2.1; unfold maxLen at this; omega
    have hll : l.length = m := hOp.1
    have HLL := Lib.hid hll
    have HN := Lib.hid hOp
    have HW1 := Lib.hid hb1
    clear hOp hb1
    have h1 := queriesOf_any k oa m oc l w1 HN.out
    have h2 := fun w h => s_queriesOf_any k oa m oc l w h
    obtain ⟨S, hS⟩ : ∃ S, S = Agg.qOut k l := ⟨_, rfl⟩
    obtain ⟨o, ho⟩ : ∃ o, o = Agg.qOk k l := ⟨_, rfl⟩
    rw [← hS, ← ho] at h1 h2
    have H1 := Lib.hid h1
    have H2 := Lib.hid h2
    have HS := Lib.hid hS
    have HO := Lib.hid ho
    clear h1 h2 hS ho hll
    go_wp2_with fail
    refine H1.out.mono ?_
    rintro e w2 ⟨v2, n2, rfl, r2, hb2⟩
    have R2 := Lib.hid r2
    have HN2 := Lib.hid (HN.out.below hb2)
    have HW2 := Lib.hid (HW1.out.trans (hb2.mono hs1))
    clear r2 hb2 H1 HN HW1
    go_wp2_with fail
    refine (H2.out _ HN2.out).mono ?_
    rintro e w3 ⟨v3, n3, rfl, r3, hb3⟩
    obtain ⟨a2, c2, rfl, hp2, hl2⟩ := (R2.out.below hb3).nums
    obtain ⟨a3, c3, rfl, hp3, hl3⟩ := r3.nums
    have P2 := Lib.hid hp2
    have P3 := Lib.hid hp3
    have HL2 := Lib.hid hl2
    have HN3 := Lib.hid (HN2.out.below hb3)
    have HW3 := Lib.hid (HW2.out.trans (hb3.mono HW2.out.size))
    have hc2 : c2 ≤ 9223372036854775807 := by have := hp2.2.2.1; unfold maxLen at this; omega
    have hnc2 : n2 ≤ c2 := hp2.2.1
    clear r3 hb3 H2 HN2 HW2 R2 hp2 hp3 hl2 hl3
    go_wp2_with fail
    refine (waInts_same _ _ _ _ _ _ S _ P2.out P3.out).mono ?_
    rintro e w4 ⟨rfl, hb4⟩
    have Q2 := Lib.hid (P2.out.below hb4)
    have Q3 := Lib.hid (P3.out.below hb4)
    have HN4 := Lib.hid (HN3.out.below hb4)
    have HW4 := Lib.hid (HW3.out.trans (hb4.mono HW3.out.size))
    clear hb4 P2 P3 HN3 HW3
    cases o
    · go_wp2_with fail
      refine (waInts_same _ _ _ _ _ _ S _ Q2.out Q3.out).mono ?_
      rintro e w5 ⟨rfl, hb5⟩
      have HW5 := Lib.hid (HW4.out.trans (hb5.mono HW4.out.size))
      clear hb5
      go_wp2_with fail
      go_returns
      exact ⟨rfl, HW5.out⟩
    · have hok := HO.out.symm
      have hSS : S = Agg.qs k l := by rw [HS.out, Agg.qOut, ← HO.out, if_pos rfl]
      simp only [Agg.qOk, Bool.and_eq_true] at hok
      obtain ⟨hk, hoo⟩ := hok
      have hn2 : n2 = m := by have := HL2.out; rw [hSS, Agg.qs_len, HLL.out] at this; omega
      subst hn2
      by_cases hm0 : n2 = 0
      · subst hm0
        clear hSS hk hoo
        go_wp2_with fail
        refine (waInts_same _ _ _ _ _ _ S _ Q2.out Q3.out).mono ?_
        rintro e w5 ⟨rfl, hb5⟩
        have HW5 := Lib.hid (HW4.out.trans (hb5.mono HW4.out.size))
        clear hb5
        go_wp2_with fail
        go_returns
        exact ⟨rfl, HW5.out⟩
      · have hwo : Agg.winOut l = Agg.winAt l n2 := by rw [Agg.winOut, if_pos hoo, HLL.out]
        have hio := Agg.win_ok hoo n2 (by rw [HLL.out]; omega)
        have hlast : S[n2 - 1]?.getD 0 = Agg.number k (Agg.winAt l n2) := by
          rw [hSS, Agg.qs_at k l (by rw [HLL.out]; omega), Nat.sub_add_cancel (by omega)]
        have h5 := fun w h => windowAfter_any oa n2 oc l w h
        rw [hwo, hoo] at h5
        obtain ⟨L, hL⟩ : ∃ L, L = Agg.winAt l n2 := ⟨_, rfl⟩
        rw [← hL] at h5 hio hlast
        have h6 := fun a n cap w h => foldItems_any k a n cap L w h
        rw [Agg.aFold_of hk hio] at h6
        obtain ⟨⟨x, y, z⟩, hV⟩ : ∃ V, V = Agg.fold k L := ⟨_, rfl⟩
        rw [← hV] at h6
        have h7 := fun w => lowerValue_any k x y z w
        obtain ⟨⟨N, b⟩, hN⟩ : ∃ P, P = Agg.aLow k ⟨x, y, z⟩ := ⟨_, rfl⟩
        rw [← hN] at h7
        have hnum : S[n2 - 1]?.getD 0 = if b then N else -1 := by rw [hlast, Agg.number, Agg.num, ← hV, ← hN]
        have H5 := Lib.hid h5
        have H6 := Lib.hid h6
        have H7 := Lib.hid h7
        have HNU := Lib.hid hnum
        clear h5 h6 h7 hnum hN hV hL hlast hio hwo hoo hSS hk HS HO
        have hn0 : ¬ ((n2 : Int) = 0) := by omega
        have hn1 : (1 : Int) ≤ (n2 : Int) := by omega
        have hnt : ((n2 : Int) - 1).toNat = n2 - 1 := by omega
        have hn4 : n2 - 1 < n2 := by omega
        go_wp2_with fail
        refine (H5.out _ HN4.out).mono ?_
        rintro e w5 ⟨v5, n5, rfl, r5, hb5⟩
        obtain ⟨a5, c5, rfl, hp5, -⟩ := r5.nums
        have P5 := Lib.hid hp5
        have R2 := Lib.hid (Q2.out.below hb5)
        have HW5 := Lib.hid (HW4.out.trans (hb5.mono HW4.out.size))
        clear r5 hp5 hb5 H5 HN4 Q2 Q3
        go_wp2_with fail
        refine (H6.out _ _ _ _ P5.out).mono ?_
        rintro e w6 ⟨rfl, hb6⟩
        have T2 := Lib.hid (R2.out.below hb6)
        have HW6 := Lib.hid (HW5.out.trans (hb6.mono HW5.out.size))
        clear hb6 H6 P5 R2
        go_wp2_with fail
        refine (H7.out _).mono ?_
        rintro e w7 ⟨rfl, hb7⟩
        have U2 := Lib.hid ((T2.out.below ((Below.refl _ _).alloc (Nat.le_refl _) (.cells #[.int .i64 x, .int .i64 y, .int .i64 z] 24))).below hb7)
        have HW7 := Lib.hid ((HW6.out.alloc HW6.out.size _).trans (hb7.mono (HW6.out.alloc HW6.out.size _).size))
        clear hb7 H7 T2
        rcases U2.out.2.2.2 with h0 | ⟨lb, lo, rfl, hlb, hcs⟩
        · omega
        · have hck := hcs (n2 - 1) (by omega)
          rw [HNU.out] at hck
          clear hcs
          cases b
          · simp only [Bool.false_eq_true, if_false] at hck
            go_wp2_with fail
            go_returns
            exact ⟨by simp, HW7.out⟩
          · simp only [if_true] at hck
            go_wp2_with fail
            go_returns
            exact ⟨by simp, HW7.out⟩
  · go_enter Tryz.func4, Tryz.ntmps4
    go_wp2
    go_returns
    exact ⟨rfl, Below.refl _ _⟩
set_option maxRecDepth 8000 in
set_option maxHeartbeats 2000000 in
theorem law_FnWindowCount (a : Option Addr) (n cap : Nat) (zs : List Int) (w : World) (hrow : IsRow .u8 w a n cap zs) :
    Calls Tryz.prog 6 #[.slice a n cap] w fun e w' => e = .returned (.bool true) ∧ Below w.heap.size w w' := by
  have HB := Lib.hid (Bytes.of_row hrow)
  have hm : cap ≤ 9223372036854775807 := HB.out.2.1
  have hnc : n ≤ cap := HB.out.1
  clear hrow
  by_cases hn : n ≤ 1048576
  · go_enter Tryz.func6, Tryz.ntmps6
    go_wp2_with fail
    refine (drawQueriesOf_any _ _ _ _ _ HB.out).mono ?_
    rintro e w1 ⟨k, v0, m, l, rfl, hO, hm100, -, -, hb1⟩
    obtain ⟨oa, oc, rfl, hOp⟩ := hO.ops
    clear hO
    have hs1 := hb1.size
    have hml : m ≤ oc := hOp.2.1
    have hmc : oc ≤ 9223372036854775807 := by have := hOp.2.2.1; unfold maxLen at this; omega
    have hll : l.length = m := hOp.1
    have HLL := Lib.hid hll
    have HN := Lib.hid hOp
    have HW1 := Lib.hid hb1
    clear hOp hb1
    have h1 := queriesOf_any 2 oa m oc l w1 HN.out
    have h2 := fun w h => s_queriesOf_any 2 oa m oc l w h
    obtain ⟨S, hS⟩ : ∃ S, S = Agg.qOut 2 l := ⟨_, rfl⟩
    obtain ⟨o, ho⟩ : ∃ o, o = Agg.qOk 2 l := ⟨_, rfl⟩
    rw [← hS, ← ho] at h1 h2
    have H1 := Lib.hid h1
    have H2 := Lib.hid h2
    have HS := Lib.hid hS
    have HO := Lib.hid ho
    clear h1 h2 hS ho hll
    go_wp2_with fail
    refine H1.out.mono ?_
    rintro e w2 ⟨v2, n2, rfl, r2, hb2⟩
    have R2 := Lib.hid r2
    have HN2 := Lib.hid (HN.out.below hb2)
    have HW2 := Lib.hid (HW1.out.trans (hb2.mono hs1))
    clear r2 hb2 H1 HN HW1
    go_wp2_with fail
    refine (H2.out _ HN2.out).mono ?_
    rintro e w3 ⟨v3, n3, rfl, r3, hb3⟩
    obtain ⟨a2, c2, rfl, hp2, hl2⟩ := (R2.out.below hb3).nums
    obtain ⟨a3, c3, rfl, hp3, hl3⟩ := r3.nums
    have P2 := Lib.hid hp2
    have P3 := Lib.hid hp3
    have HL2 := Lib.hid hl2
    have HN3 := Lib.hid (HN2.out.below hb3)
    have HW3 := Lib.hid (HW2.out.trans (hb3.mono HW2.out.size))
    have hc2 : c2 ≤ 9223372036854775807 := by have := hp2.2.2.1; unfold maxLen at this; omega
    have hnc2 : n2 ≤ c2 := hp2.2.1
    clear r3 hb3 H2 HN2 HW2 R2 hp2 hp3 hl2 hl3
    go_wp2_with fail
    refine (waInts_same _ _ _ _ _ _ S _ P2.out P3.out).mono ?_
    rintro e w4 ⟨rfl, hb4⟩
    have Q2 := Lib.hid (P2.out.below hb4)
    have Q3 := Lib.hid (P3.out.below hb4)
    have HN4 := Lib.hid (HN3.out.below hb4)
    have HW4 := Lib.hid (HW3.out.trans (hb4.mono HW3.out.size))
    clear hb4 P2 P3 HN3 HW3
    cases o
    · go_wp2_with fail
      refine (waInts_same _ _ _ _ _ _ S _ Q2.out Q3.out).mono ?_
      rintro e w5 ⟨rfl, hb5⟩
      have HW5 := Lib.hid (HW4.out.trans (hb5.mono HW4.out.size))
      clear hb5
      go_wp2_with fail
      go_returns
      exact ⟨rfl, HW5.out⟩
    · have hok := HO.out.symm
      have hSS : S = Agg.qs 2 l := by rw [HS.out, Agg.qOut, ← HO.out, if_pos rfl]
      simp only [Agg.qOk, Bool.and_eq_true] at hok
      obtain ⟨hk, hoo⟩ := hok
      have hn2 : n2 = m := by have := HL2.out; rw [hSS, Agg.qs_len, HLL.out] at this; omega
      subst hn2
      have HOO := Lib.hid hoo
      have HSS := Lib.hid hSS
      clear hk hoo hSS HS HO
      go_wp2_with fail
      go_loopw [9] (fun i wr => ∃ j : Nat, j ≤ n2 ∧ i = .int .i64 j ∧ Hid (Below w4.heap.size w4 wr)) (fun i _ => n2 - (intOf i).toNat)
      case atStart => exact ⟨0, Nat.zero_le _, rfl, Below.refl _ _⟩
      case round =>
        obtain ⟨j, hj, rfl, hw⟩ := hrel
        have hwr := hw.out.size
        by_cases hlt : j < n2
        · have hl1 : (l.take (j + 1)).length = j + 1 := by have := HLL.out; simp; omega
          have hoj := Agg.opsOk_take HOO.out (i := j + 1) (by rw [HLL.out]; omega)
          have hwo : Agg.winOut (l.take (j + 1)) = Agg.winAt l (j + 1) := by rw [Agg.winOut, if_pos hoj, hl1, Agg.winAt_take l (j + 1) (j + 1) (Nat.le_refl _)]
          have h5 := fun w h => windowAfter_any oa (j + 1) oc (l.take (j + 1)) w h
          rw [hwo, hoj] at h5
          have hat : S[j]?.getD 0 = (Agg.winAt l (j + 1)).length := by
            rw [HSS.out, Agg.qs_at 2 l (by rw [HLL.out]; omega), Agg.number_count (Agg.win_ok HOO.out (j + 1) (by rw [HLL.out]; omega))]
          obtain ⟨L, hL⟩ : ∃ L, L = Agg.winAt l (j + 1) := ⟨_, rfl⟩
          rw [← hL] at h5 hat
          have H5 := Lib.hid h5
          have HAT := Lib.hid hat
          clear h5 hat hL hwo hoj hl1
          have hj0 : (0 : Int) ≤ (j : Int) := by omega
          have hjn : (j : Int) < (n2 : Int) := by omega
          have hj1 : (0 : Int) ≤ (j : Int) + 1 := by omega
          have hj2 : (j : Int) + 1 ≤ (oc : Int) := by omega
          have hj3 : ((j : Int) + 1).toNat = j + 1 := by omega
          obtain ⟨gb, go, rfl⟩ : ∃ gb go, oa = some ⟨gb, go, none⟩ := by
            rcases HN4.out.2.2.2 with h0 | ⟨b, off, ha, -⟩
            · omega
            · exact ⟨b, off, ha⟩
          go_wp2_with fail
          refine (H5.out _ ((HN4.out.below hw.out).pre (by omega))).mono ?_
          rintro e w5 ⟨v5, n5, rfl, r5, hb5⟩
          obtain ⟨a5, c5, rfl, hp5, hl5⟩ := r5.nums
          have hn5 : L.length = n5 := hl5
          have HW5 := Lib.hid (hw.out.trans (hb5.mono hwr))
          have hU := Q2.out.below HW5.out
          rcases hU.2.2.2 with h0 | ⟨lb, lo, rfl, hlb, hcs⟩
          · omega
          · have hck := hcs j hlt
            rw [HAT.out, hn5] at hck
            clear hcs hU hl5 hn5 hp5 r5 hb5 HAT H5
            go_wp2_with fail
            go_roundw
            case rel => exact ⟨j + 1, by omega, by go_num, HW5⟩
            case measure => simp [intOf]; omega
        · obtain rfl : j = n2 := by omega
          have HBB := Lib.hid (HW4.out.trans (hw.out.mono HW4.out.size))
          go_wp2
          go_returns
          exact ⟨rfl, HBB.out⟩
  · go_enter Tryz.func6, Tryz.ntmps6
    go_wp2
    go_returns
    exact ⟨rfl, Below.refl _ _⟩
set_option maxRecDepth 8000 in
set_option maxHeartbeats 2000000 in
theorem law_FnQueriesPrefix (a : Option Addr) (n cap : Nat) (zs : List Int) (a' : Option Addr) (n' cap' : Nat) (zs' : List Int) (w : World) (hrow : IsRow .u8 w a n cap zs) (hrow' : IsRow .u8 w a' n' cap' zs') :
    Calls Tryz.prog 5 #[.slice a n cap, .slice a' n' cap'] w fun e w' => e = .returned (.bool true) ∧ Below w.heap.size w w' := by
  have HB := Lib.hid (Bytes.of_row hrow)
  have hm : cap ≤ 9223372036854775807 := HB.out.2.1
  have hnc : n ≤ cap := HB.out.1
  have hm' : cap' ≤ 9223372036854775807 := (Bytes.of_row hrow').2.1
  have hnc' : n' ≤ cap' := (Bytes.of_row hrow').1
  clear hrow hrow'
  by_cases hn : n ≤ 1048576 ∧ n' ≤ 1048576
  · obtain ⟨hn, hn'⟩ := hn
    have hnI : ¬ ((1048576 : Int) < (n : Int)) := by omega
    have hnI' : ¬ ((1048576 : Int) < (n' : Int)) := by omega
    go_enter Tryz.func5, Tryz.ntmps5
    go_wp2_with fail
    refine (drawQueriesOf_any _ _ _ _ _ HB.out).mono ?_
    rintro e w1 ⟨k, v0, m, l, rfl, hO, hm100, -, -, hb1⟩
    obtain ⟨oa, oc, rfl, hOp⟩ := hO.ops
    clear hO
    have hs1 := hb1.size
    have hml : m ≤ oc := hOp.2.1
    have hmc : oc ≤ 9223372036854775807 := by have := hOp.2.2.1; unfold maxLen at this; omega
    have hll : l.length = m := hOp.1
    have HLL := Lib.hid hll
    have HN := Lib.hid hOp
    have HW1 := Lib.hid hb1
    clear hOp hb1
    have h1 := queriesOf_any k oa m oc l w1 HN.out
    have h2 := fun w h => s_queriesOf_any k oa m oc l w h
    obtain ⟨S, hS⟩ : ∃ S, S = Agg.qOut k l := ⟨_, rfl⟩
    obtain ⟨o, ho⟩ : ∃ o, o = Agg.qOk k l := ⟨_, rfl⟩
    rw [← hS, ← ho] at h1 h2
    have H1 := Lib.hid h1
    have H2 := Lib.hid h2
    have HS := Lib.hid hS
    have HO := Lib.hid ho
    clear h1 h2 hS ho hll
    go_wp2_with fail
    refine H1.out.mono ?_
    rintro e w2 ⟨v2, n2, rfl, r2, hb2⟩
    have R2 := Lib.hid r2
    have HN2 := Lib.hid (HN.out.below hb2)
    have HW2 := Lib.hid (HW1.out.trans (hb2.mono hs1))
    clear r2 hb2 H1 HN HW1
    go_wp2_with fail
    refine (H2.out _ HN2.out).mono ?_
    rintro e w3 ⟨v3, n3, rfl, r3, hb3⟩
    obtain ⟨a2, c2, rfl, hp2, hl2⟩ := (R2.out.below hb3).nums
    obtain ⟨a3, c3, rfl, hp3, hl3⟩ := r3.nums
    have P2 := Lib.hid hp2
    have P3 := Lib.hid hp3
    have HL2 := Lib.hid hl2
    have HN3 := Lib.hid (HN2.out.below hb3)
    have HW3 := Lib.hid (HW2.out.trans (hb3.mono HW2.out.size))
    have hc2 : c2 ≤ 9223372036854775807 := by have := hp2.2.2.1; unfold maxLen at this; omega
    have hnc2 : n2 ≤ c2 := hp2.2.1
    clear r3 hb3 H2 HN2 HW2 R2 hp2 hp3 hl2 hl3
    go_wp2_with fail
    refine (waInts_same _ _ _ _ _ _ S _ P2.out P3.out).mono ?_
    rintro e w4 ⟨rfl, hb4⟩
    have Q2 := Lib.hid (P2.out.below hb4)
    have Q3 := Lib.hid (P3.out.below hb4)
    have HN4 := Lib.hid (HN3.out.below hb4)
    have HW4 := Lib.hid (HW3.out.trans (hb4.mono HW3.out.size))
    clear hb4 P2 P3 HN3 HW3
    cases o
    · go_wp2_with fail
      refine (waInts_same _ _ _ _ _ _ S _ Q2.out Q3.out).mono ?_
      rintro e w5 ⟨rfl, hb5⟩
      have HW5 := Lib.hid (HW4.out.trans (hb5.mono HW4.out.size))
      clear hb5
      go_wp2_with fail
      go_returns
      exact ⟨rfl, HW5.out⟩
    · have hok := HO.out.symm
      have hSS : S = Agg.qs k l := by rw [HS.out, Agg.qOut, ← HO.out, if_pos rfl]
      simp only [Agg.qOk, Bool.and_eq_true] at hok
      obtain ⟨hk, hoo⟩ := hok
      have hn2 : n2 = m := by have := HL2.out; rw [hSS, Agg.qs_len, HLL.out] at this; omega
      subst hn2
      by_cases hm0 : n2 = 0
      · subst hm0
        clear hSS hk hoo
        go_wp2_with fail
        refine (waInts_same _ _ _ _ _ _ S _ Q2.out Q3.out).mono ?_
        rintro e w5 ⟨rfl, hb5⟩
        have HW5 := Lib.hid (HW4.out.trans (hb5.mono HW4.out.size))
        clear hb5
        go_wp2_with fail
        go_returns
        exact ⟨rfl, HW5.out⟩
      · have hmod : n' % n2 < n2 := Nat.mod_lt _ (by omega)
        obtain ⟨cut, hcut⟩ : ∃ cut, cut = n' % n2 := ⟨_, rfl⟩
        rw [← hcut] at hmod
        have hlc : cut ≤ l.length := by rw [HLL.out]; omega
        have hoj := Agg.opsOk_take hoo hlc
        have h5 := fun w h => queriesOf_any k oa cut oc (l.take cut) w h
        have hqo : Agg.qOut k (l.take cut) = S.take cut := by rw [Agg.qOut, Agg.qOk, hk, hoj, hSS, Agg.qs_take k l hlc]; rfl
        have hqk : Agg.qOk k (l.take cut) = true := by rw [Agg.qOk, hk, hoj]; rfl
        rw [hqo, hqk] at h5
        have H5 := Lib.hid h5
        have hrem : (n' : Int) % (n2 : Int) = (cut : Int) := by rw [hcut]; omega
        have hremt : (n' : Int).tmod (n2 : Int) = (cut : Int) := by rw [hcut]; rfl
        have HC := Lib.hid hcut
        clear h5 hqo hqk hoj hlc hSS hk hoo HS HO hcut
        have hn0 : ¬ ((n2 : Int) = 0) := by omega
        have hc0 : (0 : Int) ≤ (cut : Int) := by omega
        have hc1 : (cut : Int) ≤ (oc : Int) := by omega
        have hc3 : (cut : Int) ≤ (c2 : Int) := by omega
        obtain ⟨gb, go, rfl⟩ : ∃ gb go, oa = some ⟨gb, go, none⟩ := by
          rcases HN4.out.2.2.2 with h0 | ⟨b, off, ha, -⟩
          · omega
          · exact ⟨b, off, ha⟩
        obtain ⟨hb2, ho2, rfl⟩ : ∃ gb go, a2 = some ⟨gb, go, none⟩ := by
          rcases Q2.out.2.2.2 with h0 | ⟨b, off, ha, -⟩
          · omega
          · exact ⟨b, off, ha⟩
        have hnn0 : (0 : Int) ≤ (n' : Int) := by omega
        have hnp0 : (0 : Int) < (n2 : Int) := by omega
        go_wp2_with fail
        refine (H5.out _ (HN4.out.pre (by omega))).mono ?_
        rintro e w5 ⟨v5, n5, rfl, r5, hb5⟩
        obtain ⟨a5, c5, rfl, hp5, hl5⟩ := r5.nums
        have P5 := Lib.hid hp5
        have R2 := Lib.hid ((Q2.out.below hb5).pre (i := cut) (by omega))
        have HW5 := Lib.hid (HW4.out.trans (hb5.mono HW4.out.size))
        clear r5 hp5 hb5 hl5 H5 HN4 Q2 Q3
        go_wp2_with fail
        refine (waInts_same _ _ _ _ _ _ (S.take cut) _ P5.out R2.out).mono ?_
        rintro e w6 ⟨rfl, hb6⟩
        have HW6 := Lib.hid (HW5.out.trans (hb6.mono HW5.out.size))
        clear hb6
        go_wp2_with fail
        go_returns
        exact ⟨rfl, HW6.out⟩
  · by_cases hn1 : n ≤ 1048576
    · have hnI : ¬ ((1048576 : Int) < (n : Int)) := by omega
      have hnI' : (1048576 : Int) < (n' : Int) := by omega
      go_enter Tryz.func5, Tryz.ntmps5
      go_wp2
      go_returns
      exact ⟨rfl, Below.refl _ _⟩
    · have hnI : (1048576 : Int) < (n : Int) := by omega
      go_enter Tryz.func5, Tryz.ntmps5
      go_wp2
      go_returns
      exact ⟨rfl, Below.refl _ _⟩
end Go.Proofs.YtfmkjpbmaogjpaaGreat
