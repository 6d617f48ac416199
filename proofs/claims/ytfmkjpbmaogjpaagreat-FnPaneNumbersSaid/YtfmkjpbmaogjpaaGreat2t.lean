/-
  Draws of windows, rows compared, the law that rows are windows.
-/
import Derived.Test.YtfmkjpbmaogjpaaGreatDw
import Derived.Test.YtfmkjpbmaogjpaaGreat2s
namespace Go.Proofs.YtfmkjpbmaogjpaaGreat
set_option linter.unusedSimpArgs false
set_option linter.unusedVariables false
open Go.RowKit
theorem Agg.low_step {k n : Int} {v : Agg.V} (hk : Agg.isKind k = true) (hn : Agg.isItem n = true) (h : Agg.ok k v = true) : (Agg.low k (Agg.comb k v (Agg.lift k n))).2 = true := by
  simp only [Agg.isItem, decide_eq_true_eq] at hn
  rcases Agg.kinds hk with rfl | rfl | rfl | rfl | rfl | rfl | rfl | rfl | rfl | rfl <;> simp [Agg.ok, Agg.comb, Agg.lift, Agg.low] at * <;> (repeat' split) <;> first | omega | (simp_all; done) | (simp_all <;> omega)
/-- Some items have a number. -/
theorem Agg.aLow_number {k : Int} {l : List Int} (hk : Agg.isKind k = true) (h : Agg.itemsOk l = true) (hne : l ≠ []) : Agg.aLow k (Agg.fold k l) = (Agg.number k l, true) := by
  have hs : (Agg.aLow k (Agg.fold k l)).2 = true := by
    rw [Agg.aLow_of hk (Agg.ok_fold_all hk h)]
    obtain ⟨l3, x, rfl⟩ : ∃ l3 x, l = l3 ++ [x] := ⟨l.dropLast, l.getLast hne, (List.dropLast_concat_getLast hne).symm⟩
    have h3 : Agg.itemsOk l3 = true := by have := Agg.items_take h l3.length; simpa using this
    rw [Agg.fold_snoc]
    exact Agg.low_step hk (Agg.items_mem h x (by simp)) (Agg.ok_fold_all hk h3)
  obtain ⟨⟨n, b⟩, hb⟩ : ∃ p, p = Agg.aLow k (Agg.fold k l) := ⟨_, rfl⟩
  rw [← hb] at hs ⊢
  simp only at hs
  subst hs
  simp [Agg.number, Agg.num, ← hb]
theorem Agg.slides_at (k : Int) (l : List Int) (s j : Nat) (h : j < l.length + 1 - s) : (Agg.slides k l s)[j]?.getD 0 = Agg.number k ((l.drop j).take s) := by
  simp [Agg.slides, h]
set_option maxHeartbeats 1000000 in
theorem waInts_same (a1 : Option Addr) (n1 cap1 : Nat) (a2 : Option Addr) (n2 cap2 : Nat) (l : List Int) (w : World) (h1 : Nums .i64 w a1 n1 cap1 l) (h2 : Nums .i64 w a2 n2 cap2 l) :
    Calls Tryz.prog 23 #[.slice a1 n1 cap1, .slice a2 n2 cap2] w fun e w' => e = .returned (.bool true) ∧ Below w.heap.size w w' := by
  obtain ⟨hl1, hcap1, hm1, h41⟩ := h1
  obtain ⟨hl2, hcap2, hm2, h42⟩ := h2
  obtain rfl : n1 = n2 := by omega
  unfold maxLen at hm1
  have HL := Lib.hid hl1; clear hl1 hl2 hm2 hcap2
  have H1 := Lib.hid h41; clear h41
  have H2 := Lib.hid h42; clear h42
  go_enter Tryz.func23, Tryz.ntmps23
  go_wp2
  go_loopw [5] (fun i wr => ∃ k : Nat, k ≤ n1 ∧ i = .int .i64 k ∧ Hid (Below w.heap.size w wr)) (fun i _ => n1 - (intOf i).toNat)
  case atStart => exact ⟨0, Nat.zero_le _, rfl, Below.refl _ _⟩
  case round =>
    obtain ⟨k, hk, rfl, HW⟩ := hrel
    by_cases hlt : k < n1
    · rcases H1.out with h4 | ⟨b, off, rfl, hb, hcs⟩
      · omega
      · rcases H2.out with h4 | ⟨b', off', rfl, hb', hcs'⟩
        · omega
        · have hck := (HW.out.cell (p := ⟨b, off + k, none⟩) hb).trans (hcs k hlt)
          have hck' := (HW.out.cell (p := ⟨b', off' + k, none⟩) hb').trans (hcs' k hlt)
          clear hcs hcs'
          obtain ⟨x, hx⟩ : ∃ x, x = l[k]?.getD 0 := ⟨_, rfl⟩
          rw [← hx] at hck hck'
          clear hx
          have hk0 : (0 : Int) ≤ (k : Int) := Int.natCast_nonneg _
          have hkn : (k : Int) < (n1 : Int) := by omega
          go_wp2
          go_quiet (fail)
          go_wp2
          go_roundw
          case rel => exact ⟨k + 1, by omega, by go_num, below_drewN HW.out _⟩
          case measure => simp [intOf]; omega
    · have hlt' : n1 ≤ k := by omega
      clear hlt
      go_wp2
      go_returns
      exact ⟨rfl, HW.out⟩
/-- A kind, a list and a size in new memory. -/
def DrawnSlide (w : World) (e : Ending) (w' : World) : Prop :=
  ∃ (k s : Int) (b n cap : Nat) (l : List Int), e = .returned (.tuple #[.int .i64 k, .slice (some ⟨b, 0, none⟩) n cap, .int .i64 s]) ∧ Nums .i64 w' (some ⟨b, 0, none⟩) n cap l ∧ n ≤ 1000 ∧ Below w.heap.size w w'
set_option maxRecDepth 4000 in
set_option maxHeartbeats 2000000 in
theorem drawSlideNumbers_any (a : Option Addr) (n cap : Nat) (l : List Int) (w : World) (h : Bytes w a n cap l) :
    Calls Tryz.prog 27 #[.slice a n cap] w (DrawnSlide w) := by
  have HB := Lib.hid h; clear h
  go_enter Tryz.func27, Tryz.ntmps27
  go_wp2_with fail
  refine (drawFoldItems_any _ _ _ l _ HB.out).mono ?_
  rintro e w1 ⟨k, b, m, mc, l', rfl, hN, hm1000, hb1⟩
  have hs1 := hb1.size
  have HN := Lib.hid hN; clear hN
  have HW1 := Lib.hid hb1
  have HB1 := Lib.hid (HB.out.below hb1)
  clear hb1
  go_wp2_with fail
  refine (open_any _ _ _ l _ HB1.out).mono ?_
  rintro e w2 ⟨c, rfl, hr, hb2⟩
  have hs2 := hb2.size
  have hBc := hr.1
  have HR := Lib.hid hr; clear hr
  have HV2 := Lib.hid hb2
  clear hb2
  go_wp2_with fail
  refine (num_any w2.heap.size 7 [3, 1, 2, 5, 8, 0, 61] _ c _ _ (HR.out.kept (World.grownBy_alloc _ _ _)) (by omega) (ListAt.new w2 [3, 1, 2, 5, 8, 0, 61] _) (by have := HR.out.2.1; omega) (by decide) (by decide)).mono ?_
  rintro e w3 ⟨x, rfl, -, hr3, hg3⟩
  have hs3 := hg3.size
  simp at hs3
  have HV3 := Lib.hid ((HV2.out.alloc hs2 (.cells (([3, 1, 2, 5, 8, 0, 61] : List Int).map (Value.int .i64)).toArray 3)).trans (grown_below hg3 (by simp; omega) hBc))
  clear hr3 hg3
  go_wp2_with fail
  go_returns
  exact ⟨k, x, b, m, mc, l', rfl, HN.out.below HV3.out, hm1000, HW1.out.trans (HV3.out.mono hs1)⟩
set_option maxRecDepth 8000 in
set_option maxHeartbeats 1000000 in
theorem law_FnSlideNumbers (a : Option Addr) (n cap : Nat) (zs : List Int) (w : World) (hrow : IsRow .u8 w a n cap zs) :
    Calls Tryz.prog 8 #[.slice a n cap] w fun e w' => e = .returned (.bool true) ∧ Below w.heap.size w w' := by
  have HB := Lib.hid (Bytes.of_row hrow)
  have hm : cap ≤ 9223372036854775807 := HB.out.2.1
  have hnc : n ≤ cap := HB.out.1
  clear hrow
  by_cases hn : n ≤ 1048576
  · go_enter Tryz.func8, Tryz.ntmps8
    go_wp2_with fail
    refine (drawSlideNumbers_any _ _ _ _ _ HB.out).mono ?_
    rintro e w1 ⟨k, s, b, m, mc, l, rfl, hN, hm1000, hb1⟩
    have hs1 := hb1.size
    have hml : m ≤ mc := hN.2.1
    have hmc : mc ≤ 9223372036854775807 := by have := hN.2.2.1; unfold maxLen at this; omega
    have hll : l.length = m := hN.1
    have HN := Lib.hid hN
    have HW1 := Lib.hid hb1
    clear hN hb1
    have h1 := slideNumbers_any k (some ⟨b, 0, none⟩) m mc l s w1 HN.out
    have h2 := fun w h => s_slideNumbers_any k (some ⟨b, 0, none⟩) m mc l s w h
    obtain ⟨S, hS⟩ : ∃ S, S = Agg.slideOut k l s := ⟨_, rfl⟩
    obtain ⟨o, ho⟩ : ∃ o, o = Agg.slideOk k l s := ⟨_, rfl⟩
    rw [← hS, ← ho] at h1 h2
    have H1 := Lib.hid h1
    have H2 := Lib.hid h2
    have HS := Lib.hid hS
    have HO := Lib.hid ho
    clear h1 h2 hS ho
    go_wp2_with fail
    refine H1.out.mono ?_
    rintro e w2 ⟨v2, n2, rfl, r2, hb2⟩
    have hs2 := hb2.size
    have R2 := Lib.hid r2
    have HN2 := Lib.hid (HN.out.below hb2)
    have HW2 := Lib.hid (HW1.out.trans (hb2.mono hs1))
    clear r2 hb2 H1 HN HW1
    go_wp2_with fail
    refine (H2.out _ HN2.out).mono ?_
    rintro e w3 ⟨v3, n3, rfl, r3, hb3⟩
    have hs3 := hb3.size
    obtain ⟨a2, c2, rfl, hp2, hl2⟩ := (R2.out.below hb3).nums
    obtain ⟨a3, c3, rfl, hp3, hl3⟩ := r3.nums
    have P2 := Lib.hid hp2
    have P3 := Lib.hid hp3
    have HN3 := Lib.hid (HN2.out.below hb3)
    have HW3 := Lib.hid (HW2.out.trans (hb3.mono HW2.out.size))
    have hc2 : c2 ≤ 9223372036854775807 := by have := hp2.2.2.1; unfold maxLen at this; omega
    have hnc2 : n2 ≤ c2 := hp2.2.1
    clear r3 hb3 H2 HN2 HW2 R2 hp2 hp3
    go_wp2_with fail
    refine (waInts_same _ _ _ _ _ _ S _ P2.out P3.out).mono ?_
    rintro e w4 ⟨rfl, hb4⟩
    have hs4 := hb4.size
    have Q2 := Lib.hid (P2.out.below hb4)
    have Q3 := Lib.hid (P3.out.below hb4)
    have HN4 := Lib.hid (HN3.out.below hb4)
    have HW4 := Lib.hid (HW3.out.trans (hb4.mono HW3.out.size))
    clear hb4 P2 P3 HN3 HW3
    cases o
    · go_wp2_with fail
      refine (waInts_same _ _ _ _ _ _ S _ Q2.out Q3.out).mono ?_
      rintro e w5 ⟨rfl, hb5⟩
      have HW5 := Lib.hid (HW4.out.trans (hb5.mono HW4.out.size))
      clear hb5
      go_wp2_with fail
      go_returns
      exact ⟨rfl, HW5.out⟩
    · have hok := HO.out.symm
      simp only [Agg.slideOk, Bool.and_eq_true, decide_eq_true_eq] at hok
      obtain ⟨⟨hk, hi⟩, hsz1, hsz2⟩ := hok
      obtain ⟨sn, rfl⟩ := Int.eq_ofNat_of_zero_le (show 0 ≤ s by omega)
      have hSS : S = Agg.slides k l sn := by rw [HS.out, Agg.slideOut, ← HO.out, if_pos rfl, Int.toNat_natCast]
      have hSl : n2 = m + 1 - sn := by rw [← hl2, hSS, Agg.slides_len, hll]
      have HSL := Lib.hid hSl
      have HSS := Lib.hid hSS
      have HI := Lib.hid hi
      clear HS HO hSS hi hl3 hl2 hSl Q3
      go_wp2_with fail
      go_loopw [10] (fun i wr => ∃ j : Nat, j ≤ n2 ∧ i = .int .i64 j ∧ Hid (Below w4.heap.size w4 wr)) (fun i _ => n2 - (intOf i).toNat)
      case atStart => exact ⟨0, Nat.zero_le _, rfl, Below.refl _ _⟩
      case round =>
        obtain ⟨j, hj, rfl, hw⟩ := hrel
        have hwr := hw.out.size
        by_cases hlt : j < n2
        · have hSl := HSL.out
          have hP := Nums.part (i := j) (s := sn) (HN4.out.below hw.out) (by omega)
          rw [Nat.zero_add] at hP
          have hpi := part_ok HI.out j sn
          have hne : (l.drop j).take sn ≠ [] := by intro e; have := congrArg List.length e; simp at this; omega
          have hlow := Agg.aLow_number hk hpi hne
          have hat := Agg.slides_at k l sn j (by omega)
          rw [← HSS.out] at hat
          obtain ⟨X, hX⟩ : ∃ X, X = Agg.number k ((l.drop j).take sn) := ⟨_, rfl⟩
          have hF := fun w h => foldItems_any k (some ⟨b, j, none⟩) sn (mc - j) ((l.drop j).take sn) w h
          rw [Agg.aFold_of hk hpi] at hF
          obtain ⟨⟨x, y, z⟩, hV⟩ : ∃ V, V = Agg.fold k ((l.drop j).take sn) := ⟨_, rfl⟩
          rw [← hV] at hF hlow
          have hG := fun w => lowerValue_any k x y z w
          rw [hlow, ← hX] at hG
          rw [← hX] at hat
          have HP := Lib.hid hP
          have HF := Lib.hid hF
          have HG := Lib.hid hG
          have HAT := Lib.hid hat
          clear hP hpi hne hlow hat hX hF hV hG
          have hj0 : (0 : Int) ≤ (j : Int) := by omega
          have hjn : (j : Int) < (n2 : Int) := by omega
          have hj2 : (j : Int) + sn ≤ (m : Int) := by omega
          have hj4 : (j : Int) + (sn : Int) - (j : Int) = (sn : Int) := by omega
          have hj5 : (j : Int) ≤ (j : Int) + (sn : Int) := by omega
          have hj6 : ¬ (mc - j = 0) := by omega
          have hj7 : (j : Int) < (mc : Int) := by omega
          have hj8 : (j : Int) + sn ≤ (mc : Int) := by omega
          clear hSl
          go_wp2_with fail
          refine (HF.out _ HP.out).mono ?_
          rintro e w5 ⟨rfl, hb5⟩
          have hs5 := hb5.size
          have HW5 := Lib.hid (hw.out.trans (hb5.mono hwr))
          clear hb5 HP HF
          go_wp2_with fail
          refine (HG.out _).mono ?_
          rintro e w6 ⟨rfl, hb6⟩
          have hs6 := hb6.size
          simp at hs6
          have HW6 := Lib.hid ((HW5.out.alloc HW5.out.size (.cells #[.int .i64 x, .int .i64 y, .int .i64 z] 24)).trans (hb6.mono (by have := HW5.out.size; simp; omega)))
          clear hb6 HG
          have hQ := Q2.out.below HW6.out
          rcases hQ.2.2.2 with h0 | ⟨b', off, rfl, hbw, hcs⟩
          · omega
          · have hck := hcs j hlt
            rw [HAT.out] at hck
            clear hcs hQ
            go_wp2
            go_roundw
            case rel => exact ⟨j + 1, by omega, by go_num, HW6⟩
            case measure => simp [intOf]; omega
        · obtain rfl : j = n2 := by omega
          have hB : Below w.heap.size w wr := HW4.out.trans (hw.out.mono HW4.out.size)
          have HBB := Lib.hid hB
          clear hB
          by_cases h0 : j = 0
          · subst h0
            clear HSL
            go_wp2
            go_returns
            exact ⟨rfl, HBB.out⟩
          · have hSl := HSL.out
            have hz : ¬ ((j : Int) = 0) := by omega
            have he : (j : Int) + sn = (m : Int) + 1 := by omega
            clear hSl
            go_wp2
            go_returns
            exact ⟨rfl, HBB.out⟩
  · go_enter Tryz.func8, Tryz.ntmps8
    go_wp2
    go_returns
    exact ⟨rfl, Below.refl _ _⟩
set_option maxRecDepth 8000 in
set_option maxHeartbeats 1000000 in
theorem law_FnSlideOne (a : Option Addr) (n cap : Nat) (zs : List Int) (w : World) (hrow : IsRow .u8 w a n cap zs) :
    Calls Tryz.prog 9 #[.slice a n cap] w fun e w' => e = .returned (.bool true) ∧ Below w.heap.size w w' := by
  have HB := Lib.hid (Bytes.of_row hrow)
  have hm : cap ≤ 9223372036854775807 := HB.out.2.1
  have hnc : n ≤ cap := HB.out.1
  clear hrow
  by_cases hn : n ≤ 1048576
  · go_enter Tryz.func9, Tryz.ntmps9
    go_wp2_with fail
    refine (drawSlideNumbers_any _ _ _ _ _ HB.out).mono ?_
    rintro e w1 ⟨k, s0, b, m, mc, l, rfl, hN, hm1000, hb1⟩
    have hs1 := hb1.size
    have hml : m ≤ mc := hN.2.1
    have hmc : mc ≤ 9223372036854775807 := by have := hN.2.2.1; unfold maxLen at this; omega
    have hll : l.length = m := hN.1
    have HN := Lib.hid hN
    have HW1 := Lib.hid hb1
    clear hN hb1
    have h1 := slideNumbers_any k (some ⟨b, 0, none⟩) m mc l 1 w1 HN.out
    have h2 := fun w h => s_slideNumbers_any k (some ⟨b, 0, none⟩) m mc l 1 w h
    obtain ⟨S, hS⟩ : ∃ S, S = Agg.slideOut k l 1 := ⟨_, rfl⟩
    obtain ⟨o, ho⟩ : ∃ o, o = Agg.slideOk k l 1 := ⟨_, rfl⟩
    rw [← hS, ← ho] at h1 h2
    have H1 := Lib.hid h1
    have H2 := Lib.hid h2
    have HS := Lib.hid hS
    have HO := Lib.hid ho
    clear h1 h2 hS ho
    go_wp2_with fail
    refine H1.out.mono ?_
    rintro e w2 ⟨v2, n2, rfl, r2, hb2⟩
    have hs2 := hb2.size
    have R2 := Lib.hid r2
    have HN2 := Lib.hid (HN.out.below hb2)
    have HW2 := Lib.hid (HW1.out.trans (hb2.mono hs1))
    clear r2 hb2 H1 HN HW1
    go_wp2_with fail
    refine (H2.out _ HN2.out).mono ?_
    rintro e w3 ⟨v3, n3, rfl, r3, hb3⟩
    have hs3 := hb3.size
    obtain ⟨a2, c2, rfl, hp2, hl2⟩ := (R2.out.below hb3).nums
    obtain ⟨a3, c3, rfl, hp3, hl3⟩ := r3.nums
    have P2 := Lib.hid hp2
    have P3 := Lib.hid hp3
    have HN3 := Lib.hid (HN2.out.below hb3)
    have HW3 := Lib.hid (HW2.out.trans (hb3.mono HW2.out.size))
    have hc2 : c2 ≤ 9223372036854775807 := by have := hp2.2.2.1; unfold maxLen at this; omega
    have hnc2 : n2 ≤ c2 := hp2.2.1
    clear r3 hb3 H2 HN2 HW2 R2 hp2 hp3
    go_wp2_with fail
    refine (waInts_same _ _ _ _ _ _ S _ P2.out P3.out).mono ?_
    rintro e w4 ⟨rfl, hb4⟩
    have hs4 := hb4.size
    have Q2 := Lib.hid (P2.out.below hb4)
    have Q3 := Lib.hid (P3.out.below hb4)
    have HN4 := Lib.hid (HN3.out.below hb4)
    have HW4 := Lib.hid (HW3.out.trans (hb4.mono HW3.out.size))
    clear hb4 P2 P3 HN3 HW3
    cases o
    · go_wp2_with fail
      refine (waInts_same _ _ _ _ _ _ S _ Q2.out Q3.out).mono ?_
      rintro e w5 ⟨rfl, hb5⟩
      have HW5 := Lib.hid (HW4.out.trans (hb5.mono HW4.out.size))
      clear hb5
      go_wp2_with fail
      go_returns
      exact ⟨rfl, HW5.out⟩
    · have hok := HO.out.symm
      simp only [Agg.slideOk, Bool.and_eq_true, decide_eq_true_eq] at hok
      obtain ⟨⟨hk, hi⟩, -⟩ := hok
      have hSS : S = Agg.slides k l 1 := by rw [HS.out, Agg.slideOut, ← HO.out, if_pos rfl] <;> rfl
      have hSl : n2 = m := by rw [← hl2, hSS, Agg.slides_len, hll] <;> omega
      subst hSl
      have HSS := Lib.hid hSS
      have HI := Lib.hid hi
      clear HS HO hSS hi hl3 hl2 Q3
      go_wp2_with fail
      go_loopw [10] (fun i wr => ∃ j : Nat, j ≤ n2 ∧ i = .int .i64 j ∧ Hid (Below w4.heap.size w4 wr)) (fun i _ => n2 - (intOf i).toNat)
      case atStart => exact ⟨0, Nat.zero_le _, rfl, Below.refl _ _⟩
      case round =>
        obtain ⟨j, hj, rfl, hw⟩ := hrel
        have hwr := hw.out.size
        by_cases hlt : j < n2
        · have hat := Agg.slides_at k l 1 j (by omega)
          rw [← HSS.out] at hat
          have hN5 := HN4.out.below hw.out
          rcases hN5.2.2.2 with h0 | ⟨b', off, hbo, hbw, hcs⟩
          · omega
          · simp only [Option.some.injEq, Addr.mk.injEq, and_true] at hbo
            obtain ⟨rfl, rfl⟩ := hbo
            have hcx := hcs j hlt
            rw [Nat.zero_add] at hcx
            have hxi := Agg.item_at HI.out (i := j) (by omega)
            have hone : (l.drop j).take 1 = [l[j]?.getD 0] := by
              rw [List.getElem?_eq_getElem (show j < l.length by omega), List.drop_eq_getElem_cons (show j < l.length by omega)]
              rfl
            have hnum : Agg.aLow k (Agg.lift k (l[j]?.getD 0)) = (Agg.number k ((l.drop j).take 1), true) := by
              rw [hone, ← Agg.fold_one hk hxi]
              exact Agg.aLow_number hk (Agg.items_of (by simp) (fun u hu => by rw [List.mem_singleton.1 hu]; exact hxi)) (by simp)
            obtain ⟨x0, hx0⟩ : ∃ x0, x0 = l[j]?.getD 0 := ⟨_, rfl⟩
            rw [← hx0] at hcx hxi hnum
            obtain ⟨X, hX⟩ : ∃ X, X = Agg.number k ((l.drop j).take 1) := ⟨_, rfl⟩
            rw [← hX] at hat hnum
            have hF := fun w => liftItem_any k x0 w
            rw [show Agg.aLift k x0 = (Agg.lift k x0, true) by simp [Agg.aLift, Agg.give, hk, hxi]] at hF
            obtain ⟨⟨x, y, z⟩, hV⟩ : ∃ V, V = Agg.lift k x0 := ⟨_, rfl⟩
            rw [← hV] at hF hnum
            have hG := fun w => lowerValue_any k x y z w
            rw [hnum] at hG
            have HF := Lib.hid hF
            have HG := Lib.hid hG
            have HAT := Lib.hid hat
            clear hat hX hF hV hG hnum hone hxi hx0 hcs hN5
            have hj0 : (0 : Int) ≤ (j : Int) := by omega
            have hjn : (j : Int) < (n2 : Int) := by omega
            go_wp2_with fail
            refine (HF.out _).mono ?_
            rintro e w5 ⟨rfl, hb5⟩
            have hs5 := hb5.size
            have HW5 := Lib.hid (hw.out.trans (hb5.mono hwr))
            clear hb5 HF
            go_wp2_with fail
            refine (HG.out _).mono ?_
            rintro e w6 ⟨rfl, hb6⟩
            have hs6 := hb6.size
            simp at hs6
            have HW6 := Lib.hid ((HW5.out.alloc HW5.out.size (.cells #[.int .i64 x, .int .i64 y, .int .i64 z] 24)).trans (hb6.mono (by have := HW5.out.size; simp; omega)))
            clear hb6 HG
            have hQ := Q2.out.below HW6.out
            rcases hQ.2.2.2 with h0 | ⟨b2, off2, rfl, hbw2, hcs2⟩
            · omega
            · have hck := hcs2 j hlt
              rw [HAT.out] at hck
              clear hcs2 hQ
              go_wp2
              go_roundw
              case rel => exact ⟨j + 1, by omega, by go_num, HW6⟩
              case measure => simp [intOf]; omega
        · obtain rfl : j = n2 := by omega
          have hB : Below w.heap.size w wr := HW4.out.trans (hw.out.mono HW4.out.size)
          have HBB := Lib.hid hB
          clear hB
          go_wp2
          go_returns
          exact ⟨rfl, HBB.out⟩
  · go_enter Tryz.func9, Tryz.ntmps9
    go_wp2
    go_returns
    exact ⟨rfl, Below.refl _ _⟩
end Go.Proofs.YtfmkjpbmaogjpaaGreat
