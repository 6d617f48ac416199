/-
  The law FnWindowAfter, walked.
-/
import Derived.Test.YtccimldchfekeaaDq
import Derived.Test.YtccimldchfekeaaWa
import Derived.Test.Ytccimldchfekeaa2b
namespace Go.Proofs.Ytccimldchfekeaa
set_option linter.unusedSimpArgs false
set_option linter.unusedVariables false
open Go.RowKit
namespace Agg
/-- The items that the first j changes push, and how many they take. -/
def cameAt (l : List (Bool × Int)) : Nat → List Int
  | 0 => []
  | j + 1 => if (opAt l j).1 then cameAt l j ++ [(opAt l j).2] else cameAt l j
def goneAt (l : List (Bool × Int)) : Nat → Nat
  | 0 => 0
  | j + 1 => if (opAt l j).1 then goneAt l j else goneAt l j + 1
theorem came_le (l : List (Bool × Int)) : ∀ j, (cameAt l j).length + goneAt l j = j
  | 0 => rfl
  | j + 1 => by have := came_le l j; simp only [cameAt, goneAt]; split <;> (try simp) <;> omega
theorem win_came {l : List (Bool × Int)} : ∀ j, fitTo l j = true → goneAt l j ≤ (cameAt l j).length ∧ winAt l j = (cameAt l j).drop (goneAt l j)
  | 0, _ => by simp [goneAt, cameAt, winAt]
  | j + 1, h => by
    simp only [fitTo, Bool.and_eq_true] at h
    obtain ⟨h1, h2⟩ := win_came j h.1
    have hf := h.2
    simp only [fits] at hf
    simp only [winAt, stepW, cameAt, goneAt]
    split
    · refine ⟨by simp; omega, ?_⟩
      rw [h2, List.drop_append_of_le_length h1]
    · rename_i hp
      rw [if_neg hp] at hf
      simp only [decide_eq_true_eq, h2, List.length_drop] at hf
      refine ⟨by omega, ?_⟩
      rw [h2, List.tail_drop]
end Agg
/-- Changes that were drawn. -/
def OpsMade (w : World) (e : Ending) (w' : World) : Prop :=
  ∃ (v : Value) (n : Nat) (l : List (Bool × Int)), e = .returned v ∧ OwnO w' w.heap.size w'.heap.size v n l ∧ n ≤ 100 ∧ Below w.heap.size w w'
set_option maxRecDepth 8000 in
set_option maxHeartbeats 2000000 in
theorem drawOpsValid_any (a : Option Addr) (n cap : Nat) (l : List Int) (w : World) (h : Bytes w a n cap l) :
    Calls Try.prog 16 #[.slice a n cap] w (OpsMade w) := by
  have HH := Lib.hid h; clear h
  go_enter Try.func16, Try.ntmps16
  go_wp2_with fail
  refine (open_any _ _ _ l _ HH.out).mono ?_
  rintro e w1 ⟨c, rfl, hr1, hb1⟩
  have HR1 := Lib.hid hr1
  have HB1 := Lib.hid hb1
  have hc1 := hr1.1
  have hc2 := hr1.2.1
  clear hr1 hb1
  go_wp2_with fail
  refine (l2Draw_any 12 _ c 0 _ HR1.out (by omega) (by omega)).mono ?_
  rintro e w5 ⟨v5, n5, l5, p5, rfl, ho5, hn5, hp5, hq5, hr5, hg5⟩
  have HR5 := Lib.hid hr5
  have HO5 := Lib.hid ho5
  have HB5 := Lib.hid (HB1.out.grown hg5 HB1.out.size (fun j hj => by have := Option.some.inj hj; omega))
  clear hr5 hg5 ho5 HR1 HB1
  go_wp2_with fail
  refine (l2Wrong_any _ c p5 _ n5 v5 l5 _ HR5.out (by omega) HO5.out (by omega)).mono ?_
  rintro e w6 ⟨v6, n6, l6, p6, rfl, ho6, hn6, hp6, hq6, hr6, hg6⟩
  have HR6 := Lib.hid hr6
  have HB6 := Lib.hid (HB5.out.grown hg6 HB5.out.size (fun j hj => by have := Option.some.inj hj; omega))
  have HO6 := Lib.hid ho6
  clear hr6 hg6 ho6 HR5 HB5 HO5
  go_wp2_with fail
  refine (l2Wrong_any _ c p6 _ n6 v6 l6 _ HR6.out (by omega) HO6.out hn6).mono ?_
  rintro e w7 ⟨v7, n7, l7, p7, rfl, ho7, hn7, hp7, hq7, hr7, hg7⟩
  have HB7 := Lib.hid (HB6.out.grown hg7 HB6.out.size (fun j hj => by have := Option.some.inj hj; omega))
  have HO7 := Lib.hid ho7
  clear hr7 hg7 ho7
  go_wp2_with fail
  go_returns
  exact ⟨v7, n7, l7, rfl, ⟨owns_lower HO7.out HB6.out.size, HB7.out.size, Nat.le_refl _, fun g hg => (HO7.out.lt g hg).2⟩, hn7, HB7.out⟩
theorem drawWindowAfter_any (a : Option Addr) (n cap : Nat) (l : List Int) (w : World) (h : Bytes w a n cap l) :
    Calls Try.prog 5 #[.slice a n cap] w (OpsMade w) := by
  have HB := Lib.hid h; clear h
  go_enter Try.func5, Try.ntmps5
  go_wp2_with fail
  refine (drawOpsValid_any _ _ _ l _ HB.out).mono ?_
  rintro e w1 ⟨v, m, l1, rfl, ho, hm, hb1⟩
  have HO := Lib.hid ho
  have HB1 := Lib.hid hb1
  clear ho hb1
  go_wp2_with fail
  go_returns
  exact ⟨v, m, l1, rfl, HO.out, hm, HB1.out⟩
set_option maxRecDepth 8000 in
set_option maxHeartbeats 40000000 in
theorem law_FnWindowAfter (a : Option Addr) (n cap : Nat) (zs : List Int) (w : World) (hrow : IsRow .u8 w a n cap zs) :
    Calls Try.prog 3 #[.slice a n cap] w fun e w' => e = .returned (.bool true) ∧ Below w.heap.size w w' := by
  obtain ⟨i0, hi, hz0, hz1, hz2⟩ := info_parts infoInt
  have HB := Lib.hid (Bytes.of_row hrow)
  have hm : cap ≤ 9223372036854775807 := HB.out.2.1
  have hnc : n ≤ cap := HB.out.1
  clear hrow
  by_cases hn : n ≤ 1048576
  · go_enter Try.func3, Try.ntmps3
    go_wp2_with fail
    refine (drawWindowAfter_any _ _ _ _ _ HB.out).mono ?_
    rintro e w1 ⟨v0, m, l, rfl, hO, hm100, hb1⟩
    obtain ⟨oa, oc, rfl, hOp⟩ := hO.ops
    clear hO
    have hs1 := hb1.size
    have hml : m ≤ oc := hOp.2.1
    have hmc : oc ≤ 9223372036854775807 := by have := hOp.2.2.1; unfold maxLen at this; omega
    have hll : l.length = m := hOp.1
    have HLL := Lib.hid hll
    have HN := Lib.hid hOp
    have HW1 := Lib.hid hb1
    clear hOp hb1
    have h1 := windowAfter_any oa m oc l w1 HN.out
    have h2 := fun w h => s_windowAfter_any oa m oc l w h
    have h3 := fun w h => opsValid_any oa m oc l w h
    have h4 := fun w h => s_opsValid_any oa m oc l w h
    obtain ⟨S, hS⟩ : ∃ S, S = Agg.winOut l := ⟨_, rfl⟩
    obtain ⟨o, ho⟩ : ∃ o, o = Agg.opsOk l := ⟨_, rfl⟩
    rw [← hS, ← ho] at h1 h2
    rw [← ho] at h3 h4
    have H1 := Lib.hid h1
    have H2 := Lib.hid h2
    have H3 := Lib.hid h3
    have H4 := Lib.hid h4
    have HS := Lib.hid hS
    have HO := Lib.hid ho
    clear h1 h2 h3 h4 hS ho hll
    go_wp2_with fail
    refine H1.out.mono ?_
    rintro e w2 ⟨v2, n2, rfl, r2, hb2⟩
    have R2 := Lib.hid r2
    have HN2 := Lib.hid (HN.out.below hb2)
    have HW2 := Lib.hid (HW1.out.trans (hb2.mono hs1))
    clear r2 hb2 H1 HN HW1
    go_wp2_with fail
    refine (H2.out _ HN2.out).mono ?_
    rintro e w3 ⟨v3, n3, rfl, r3, hb3⟩
    obtain ⟨a2, c2, rfl, hp2, hl2⟩ := (R2.out.below hb3).nums
    obtain ⟨a3, c3, rfl, hp3, hl3⟩ := r3.nums
    have P2 := Lib.hid hp2
    have P3 := Lib.hid hp3
    have HL2 := Lib.hid hl2
    have HN3 := Lib.hid (HN2.out.below hb3)
    have HW3 := Lib.hid (HW2.out.trans (hb3.mono HW2.out.size))
    have hc2 : c2 ≤ 9223372036854775807 := by have := hp2.2.2.1; unfold maxLen at this; omega
    have hnc2 : n2 ≤ c2 := hp2.2.1
    clear r3 hb3 H2 HN2 HW2 R2 hp2 hp3 hl2 hl3
    go_wp2_with fail
    refine (waInts_w _ _ _ _ _ _ S _ P2.out P3.out).mono ?_
    rintro e w4 ⟨rfl, hb4⟩
    have Q2 := Lib.hid (P2.out.below hb4)
    have Q3 := Lib.hid (P3.out.below hb4)
    have HN4 := Lib.hid (HN3.out.below hb4)
    have HW4 := Lib.hid (HW3.out.trans (hb4.mono HW3.out.size))
    clear hb4 P2 P3 HN3 HW3
    cases o
    · go_wp2_with fail
      refine (H3.out _ HN4.out).mono ?_
      rintro e w5 ⟨rfl, hb5⟩
      have HN5 := Lib.hid (HN4.out.below hb5)
      have Q25 := Lib.hid (Q2.out.below hb5)
      have Q35 := Lib.hid (Q3.out.below hb5)
      have HW5 := Lib.hid (HW4.out.trans (hb5.mono HW4.out.size))
      clear hb5 HN4 Q2 Q3 HW4
      go_wp2_with fail
      refine (H4.out _ HN5.out).mono ?_
      rintro e w6 ⟨rfl, hb6⟩
      have HN6 := Lib.hid (HN5.out.below hb6)
      have Q26 := Lib.hid (Q25.out.below hb6)
      have Q36 := Lib.hid (Q35.out.below hb6)
      have HW6 := Lib.hid (HW5.out.trans (hb6.mono HW5.out.size))
      clear hb6 HN5 Q25 Q35 HW5
      go_wp2_with fail
      refine (waInts_w _ _ _ _ _ _ S _ Q26.out Q36.out).mono ?_
      rintro e w7 ⟨rfl, hb7⟩
      have HN7 := Lib.hid (HN6.out.below hb7)
      have HW7 := Lib.hid (HW6.out.trans (hb7.mono HW6.out.size))
      clear hb7 HN6 Q26 Q36 HW6
      go_wp2_with fail
      refine (H3.out _ HN7.out).mono ?_
      rintro e w8 ⟨rfl, hb8⟩
      have HN8 := Lib.hid (HN7.out.below hb8)
      have HW8 := Lib.hid (HW7.out.trans (hb8.mono HW7.out.size))
      clear hb8 HN7 HW7
      go_wp2_with fail
      refine (H4.out _ HN8.out).mono ?_
      rintro e w9 ⟨rfl, hb9⟩
      have HW9 := Lib.hid (HW8.out.trans (hb9.mono HW8.out.size))
      clear hb9 HN8 HW8
      go_wp2_with fail
      go_returns
      exact ⟨by first | rfl | simp, HW9.out⟩
    · have hoo := HO.out.symm
      obtain ⟨-, -, hfit⟩ := Agg.opsOk_parts hoo
      have hwc := Agg.win_came l.length hfit
      have hSS : S = (Agg.cameAt l m).drop (Agg.goneAt l m) := by
        rw [HS.out, Agg.winOut, if_pos hoo, hwc.2, HLL.out]
      have hgl : Agg.goneAt l m ≤ (Agg.cameAt l m).length := by have := hwc.1; rw [HLL.out] at this; exact this
      have HSS := Lib.hid hSS
      have HGL := Lib.hid hgl
      clear HS HO hoo hfit hwc hSS hgl
      go_wp2_with fail
      refine (H3.out _ HN4.out).mono ?_
      rintro e w5 ⟨rfl, hb5⟩
      have HN5 := Lib.hid (HN4.out.below hb5)
      have Q25 := Lib.hid (Q2.out.below hb5)
      have HW5 := Lib.hid (HW4.out.trans (hb5.mono HW4.out.size))
      clear hb5 HN4 Q2 Q3 HW4
      go_wp2_with fail
      refine (H4.out _ HN5.out).mono ?_
      rintro e w6 ⟨rfl, hb6⟩
      have HN6 := Lib.hid (HN5.out.below hb6)
      have Q26 := Lib.hid (Q25.out.below hb6)
      have HW6 := Lib.hid (HW5.out.trans (hb6.mono HW5.out.size))
      clear hb6 HN5 Q25 HW5
      have hE : (w6.alloc (.cells #[] 3)).ownsRow w6.heap.size 3 1 (.slice (some ⟨w6.heap.size, 0, none⟩) 0 0) 0 (([] : List Int).map (Value.int .i64)) := ⟨rfl, .inr ⟨w6.heap.size, 0, _, rfl, Nat.le_refl _, heap_alloc_new w6 _, Nat.le_refl _, by simp, rfl, rfl⟩⟩
      have HE := Lib.hid hE
      have HX := Lib.hid ((Below.refl w6.heap.size w6).alloc (Nat.le_refl _) (.cells #[] 3))
      clear hE
      go_wp2_with fail
      go_loopw [8, 9, 10] (fun ov gv i wr => ∃ (j : Nat) (ga : Nat) (gc : Nat), j ≤ m ∧ i = .int .i64 j ∧ gv = .int .i64 (Agg.goneAt l j) ∧ ov = .slice (some ⟨ga, 0, none⟩) (Agg.cameAt l j).length gc ∧ Hid (wr.ownsRow w6.heap.size 3 1 (.slice (some ⟨ga, 0, none⟩) (Agg.cameAt l j).length gc) (Agg.cameAt l j).length ((Agg.cameAt l j).map (Value.int .i64))) ∧ Hid (Below w6.heap.size w6 wr)) (fun _ _ i _ => m - (intOf i).toNat)
      case atStart => exact ⟨0, _, _, Nat.zero_le _, rfl, rfl, rfl, HE, HX⟩
      case round =>
        obtain ⟨j, ga, gc, hj, rfl, rfl, rfl, ho, hw⟩ := hrel
        clear HE HX
        have hwr := hw.out.size
        have hcl := Agg.came_le l j
        obtain ⟨C, hC⟩ : ∃ C, C = Agg.cameAt l j := ⟨_, rfl⟩
        obtain ⟨G, hG⟩ : ∃ G, G = Agg.goneAt l j := ⟨_, rfl⟩
        rw [← hC, ← hG] at hcl
        rw [← hC] at ho
        have hcj : C.length ≤ j := by omega
        have hgj : G ≤ j := by omega
        have HCL0 := Lib.hid hcl
        clear hcl
        by_cases hlt : j < m
        · rcases (HN6.out.below hw.out).2.2.2 with h0 | ⟨b, off, rfl, hb, hcs⟩
          · omega
          · have hck := (hcs j hlt).1
            have hcn := (hcs j hlt).2
            have hca : Agg.cameAt l (j + 1) = if (l[j]?.getD (false, 0)).1 then C ++ [(l[j]?.getD (false, 0)).2] else C := by rw [hC]; rfl
            have hga : Agg.goneAt l (j + 1) = if (l[j]?.getD (false, 0)).1 then G else G + 1 := by rw [hG]; rfl
            obtain ⟨⟨p, x⟩, hx⟩ : ∃ x, x = l[j]?.getD (false, 0) := ⟨_, rfl⟩
            rw [← hx] at hck hcn hca hga
            simp only [← hC, ← hG]
            have hlt' : ∀ k, (Value.slice (some ⟨ga, 0, none⟩) C.length gc).ownBlock = some k → w6.heap.size ≤ k := fun k hk => (ho.out.lt k hk).1
            clear hcs hx hC hG
            have hj0 : (0 : Int) ≤ (j : Int) := by omega
            have hjn : (j : Int) < (m : Int) := by omega
            cases p
            · simp only [Bool.false_eq_true, if_false] at hca hga
              have HCA := Lib.hid hca
              have HGA := Lib.hid hga
              clear hca hga
              go_wp2
              go_roundw
              case rel => exact ⟨j + 1, ga, gc, by omega, by go_num, by rw [HGA.out]; go_num, by rw [HCA.out], by rw [HCA.out]; exact ho, hw⟩
              case measure => simp [intOf]; omega
            · simp only [if_true] at hca hga
              have HCA := Lib.hid hca
              have HGA := Lib.hid hga
              clear hca hga
              go_wp2_with (at_builtin; refine wpList_append_own _ rfl (.tmp 83) (.tmp 89) 25 rfl w6.heap.size 3 i0 (.int .i64 0) 1 8 Try.underlying25 hi hz0 hz1 hz2 rfl (by decide) _ _ _ rfl (ho.out.alloc _) ⟨wr.heap.size, 0, none⟩ 1 1 [.int .i64 x] rfl rfl (cell_one_new _ _ _) (ints_oneCell .i64 [x]) (by unfold maxLen; omega) (by omega) (by simp; omega) ?_; intro v3 w7 hown3 hgrow3 hnil3)
              go_roundw
              case rel =>
                obtain ⟨a3, c3, e3⟩ : ∃ a c, v3 = .slice (some ⟨a, 0, none⟩) (C.length + 1) c := by
                  rcases hown3.2 with ⟨e, e2⟩ | ⟨g, cap, cur, e, -⟩
                  · omega
                  · exact ⟨g, cap, e⟩
                subst e3
                refine ⟨j + 1, a3, c3, by omega, by go_num, by rw [HGA.out], by rw [HCA.out]; simp, ?_, ?_⟩
                · rw [HCA.out]; exact Lib.hid (by simpa using hown3)
                · exact Lib.hid ((hw.out.alloc hwr _).grown hgrow3 (by simp; omega) hlt')
              case measure => simp [intOf]; omega
        · obtain rfl : j = m := by omega
          have hSS := HSS.out
          have hgl := HGL.out
          rw [← hC, ← hG] at hSS
          rw [← hC, ← hG] at hgl
          simp only [← hC, ← hG]
          have R26 := Lib.hid (Q26.out.below hw.out)
          have HWF := Lib.hid (HW6.out.trans (hw.out.mono HW6.out.size))
          have hcap := ho.out.2
          obtain ⟨hgcm, hgcl⟩ : gc ≤ 9223372036854775807 ∧ C.length ≤ gc := by
            rcases hcap with ⟨e, -⟩ | ⟨g, cap, cur, e, -, -, h1, h2, -⟩
            · simp at e
            · simp only [Value.slice.injEq] at e
              unfold maxLen at h2
              omega
          have hNc := Nums.of_owns (g := ga) ho.out
          have hpart := Nums.part (i := G) (s := C.length - G) hNc (by omega)
          rw [Nat.zero_add, show (C.drop G).take (C.length - G) = S by rw [hSS, List.take_of_length_le (by simp)]] at hpart
          have HP := Lib.hid hpart
          have HSS2 := Lib.hid hSS
          have hG0 : (0 : Int) ≤ (G : Int) := Int.natCast_nonneg _
          have hG1 : (G : Int) ≤ (C.length : Int) := by omega
          have hG2 : (C.length : Int) ≤ (gc : Int) := by omega
          have HC0 := Lib.hid hC
          have HG0 := Lib.hid hG
          clear hpart hSS hNc hcap hC hG hgl
          by_cases hcg : gc = G
          · have HZ := Lib.hid (show C.length - G = 0 by omega)
            have hS0 : S = [] := by rw [HSS2.out]; exact List.drop_of_length_le (by omega)
            have HS0 := Lib.hid hS0
            have hcl2 : C.length = G := by omega
            have HCL2 := Lib.hid hcl2
            clear hS0 hcl2 HSS2 HP
            subst hcg
            go_wp2_with fail
            refine (waInts_w _ _ _ _ _ _ S _ R26.out (by rw [HS0.out]; first | exact ⟨rfl, Nat.le_refl _, by simp [maxLen], .inl rfl⟩ | exact ⟨by simp; omega, by omega, by unfold maxLen; omega, .inl (by omega)⟩)).mono ?_
            rintro e w8 ⟨rfl, hb8⟩
            have HW8 := Lib.hid (HWF.out.trans (hb8.mono HWF.out.size))
            clear hb8
            go_wp2_with fail
            go_returns
            exact ⟨rfl, HW8.out⟩
          · have hg3 : (G : Int) < (gc : Int) := by omega
            have hg4 : ¬ (gc - G = 0) := by omega
            have hg5 : ¬ (gc = G) := hcg
            go_wp2_with fail
            refine (waInts_w _ _ _ _ _ _ S _ R26.out HP.out).mono ?_
            rintro e w8 ⟨rfl, hb8⟩
            have HW8 := Lib.hid (HWF.out.trans (hb8.mono HWF.out.size))
            clear hb8
            go_wp2_with fail
            go_returns
            exact ⟨rfl, HW8.out⟩
  · go_enter Try.func3, Try.ntmps3
    go_wp2
    go_returns
    exact ⟨rfl, Below.refl _ _⟩
end Go.Proofs.Ytccimldchfekeaa
