/-
  Queries and a number of items that the model draws; the law FnSharedCosts, walked.
-/
import Derived.Test.Ytofpnmjadflebaa9v
import Derived.Test.Ytofpnmjadflebaa9p
import Derived.Test.Ytofpnmjadflebaa9s
import Derived.Test.Ytofpnmjadflebaa5a
namespace Go.Proofs.Ytofpnmjadflebaa
set_option linter.unusedSimpArgs false
set_option linter.unusedVariables false
open Go.RowKit
/-- A kind, queries and items are drawn. -/
def CaseQ (w : World) (e : Ending) (w' : World) : Prop :=
  ∃ (k : Int) (v u : Value) (n m : Nat) (l : List (Int × Int)) (xs : List Int), e = .returned (.tuple #[.int .i64 k, v, u]) ∧ OwnQy w' w.heap.size w'.heap.size v n l ∧ n ≤ 9 ∧ OwnR w' w.heap.size w'.heap.size u m xs ∧ m ≤ 24 ∧ Below w.heap.size w w'
set_option maxHeartbeats 1000000 in
theorem l9Case_any (a : Option Addr) (n cap : Nat) (l : List Int) (w : World) (h : Bytes w a n cap l) :
    Calls Try.prog 34 #[.slice a n cap] w (CaseQ w) := by
  have HB := Lib.hid h; clear h
  go_enter Try.func34, Try.ntmps34
  go_wp2_with fail
  refine (open_any _ _ _ l _ HB.out).mono ?_
  rintro e w1 ⟨c, rfl, hr, hb⟩
  have hs1 := hb.size
  have hc1 := hr.1
  have hc2 := hr.2.1
  have HR := Lib.hid hr
  have HW1 := Lib.hid hb
  clear hr hb
  go_wp2_with fail
  refine (l1Kind_any _ c _ _ HR.out (by omega)).mono ?_
  rintro e w2 ⟨k2, p2, rfl, -, hp2, hq2, hr2, hg2⟩
  have HR2 := Lib.hid hr2
  have HG2 := Lib.hid hg2
  clear hr2 hg2
  go_wp2_with fail
  refine (l1Wrong_any _ _ c _ _ HR2.out (by omega)).mono ?_
  rintro e w3 ⟨k3, p3, rfl, -, hp3, hq3, hr3, hg3⟩
  have HR3 := Lib.hid hr3
  have HG3 := Lib.hid (grown_trans HG2.out hg3)
  have hs3 := HG3.out.size
  have hc3 := hr3.2.1
  clear hr3 hg3
  go_wp2_with fail
  refine (l9Draw_any _ c _ _ HR3.out (by omega)).mono ?_
  rintro e w4 ⟨v4, n4, L, p4, rfl, ho4, hn4, hp4, hq4, hr4, hg4⟩
  have HO4 := Lib.hid ho4
  have HR4 := Lib.hid hr4
  have HG4 := Lib.hid (grown_trans HG3.out hg4)
  have hs4 := hg4.size
  have hc4 := hr4.2.1
  clear hr4 hg4 ho4
  go_wp2_with fail
  refine (l1List_any 24 _ c _ _ HR4.out (by omega) (by omega) (by omega)).mono ?_
  rintro e w5 ⟨v5, n5, xs, p5, rfl, -, ho5, hn5, -, hp5, hq5, hr5, hg5⟩
  have HG5 := Lib.hid (grown_trans HG4.out hg5)
  have hs5 := hg5.size
  have HO5 := Lib.hid (HO4.out.kept hg5 (fun j hj => .inl (by have := Option.some.inj hj; omega)))
  have HOR := Lib.hid (OwnR.made ho5 hs5)
  have HW5 := Lib.hid (HW1.out.trans (grown_below HG5.out hs1 hc1))
  clear hr5 hg5 ho5
  go_wp2_with fail
  go_returns
  exact ⟨_, _, _, n4, n5, L, xs, rfl, HO5.out.wide (by omega) hs5 (Nat.le_refl _), hn4, ⟨owns_lower HOR.out.1 (by omega), HW5.out.size, Nat.le_refl _, HOR.out.2.2.2⟩, by omega, HW5.out⟩
/-- Queries and a number of items are drawn. -/
def CutsDrawn (w : World) (e : Ending) (w' : World) : Prop :=
  ∃ (v : Value) (n : Nat) (l : List (Int × Int)) (m : Int), e = .returned (.tuple #[v, .int .i64 m]) ∧ OwnQy w' w.heap.size w'.heap.size v n l ∧ n ≤ 9 ∧ Below w.heap.size w w'
theorem CutsDrawn.of {w w1 w2 : World} {v : Value} {n : Nat} {l : List (Int × Int)} {m : Int} (h : OwnQy w1 w.heap.size w1.heap.size v n l) (hn : n ≤ 9) (h1 : Below w.heap.size w w1) (h2 : Below w1.heap.size w1 w2) : CutsDrawn w (.returned (.tuple #[v, .int .i64 m])) w2 :=
  ⟨v, n, l, m, rfl, (h.below h2).wide (Nat.le_refl _) h2.size (Nat.le_refl _), hn, h1.trans (h2.mono h1.size)⟩
set_option maxHeartbeats 1000000 in
theorem drawCutsOf_any (a : Option Addr) (n cap : Nat) (l : List Int) (w : World) (h : Bytes w a n cap l) :
    Calls Try.prog 15 #[.slice a n cap] w (CutsDrawn w) := by
  have HB := Lib.hid h; clear h
  have HBY := Lib.hid (fun X (hX : Below w.heap.size w X) => (show Bytes X a n cap l from by
    obtain ⟨h1, h2, h4⟩ := HB.out
    refine ⟨h1, h2, ?_⟩
    rcases h4 with h4 | ⟨b, off, ha, hb, hc⟩
    · exact .inl h4
    · exact .inr ⟨b, off, ha, Nat.lt_of_lt_of_le hb hX.size, fun i hi => ⟨(hX.cell (p := ⟨b, off + i, none⟩) hb).trans (hc i hi).1, (hc i hi).2⟩⟩))
  go_enter Try.func15, Try.ntmps15
  go_wp2_with fail
  refine (l9Case_any _ _ _ l _ HB.out).mono ?_
  rintro e w1 ⟨k, v, u, n1, m1, L, xs, rfl, ho, hn9, hor, hm24, hb⟩
  obtain ⟨ua, uc, rfl, -, -⟩ := hor.nums
  have hm0 : (m1 : Int) ≤ 24 := by omega
  have HO := Lib.hid ho
  have HW1 := Lib.hid hb
  clear ho hor hb
  go_wp2_with fail
  refine (open_any _ _ _ l _ (HBY.out _ HW1.out)).mono ?_
  rintro e w2 ⟨c, rfl, hr, hb⟩
  have hs2 := hb.size
  have hc1 := hr.1
  have HR := Lib.hid hr
  have HW2 := Lib.hid hb
  clear hr hb
  go_wp2_with fail
  refine (pick_any _ _ c _ _ HR.out (by omega) (by omega)).mono ?_
  rintro e w3 ⟨x, rfl, hx0, hx1, -, hr, hg⟩
  have HW3 := Lib.hid (HW2.out.trans (grown_below hg hs2 hc1))
  have hs3 := HW3.out.size
  clear hr hg hx1
  by_cases hx : x = 0
  · subst hx
    go_wp2_with fail
    refine (open_any _ _ _ l _ (HBY.out _ (HW1.out.trans (HW3.out.mono HW1.out.size)))).mono ?_
    rintro e w4 ⟨c4, rfl, hr, hb⟩
    have hs4 := hb.size
    have hc4 := hr.1
    have hc5 := hr.2.1
    have HR4 := Lib.hid hr
    have HW4 := Lib.hid hb
    clear hr hb
    go_wp2_with fail
    refine (num_any w4.heap.size 3 [-1, 61, 60] _ c4 _ _ (HR4.out.kept (World.grownBy_alloc _ _ _)) (by omega) (ListAt.new w4 [-1, 61, 60] _) (by omega) (by decide) (by decide)).mono ?_
    rintro e w5 ⟨y, rfl, -, hr5, hg5⟩
    have HG5 := Lib.hid (grown_trans (grown_alloc (grown_refl w4 c4) _) hg5)
    clear hr5 hg5
    have HW5 := Lib.hid (HW3.out.trans ((HW4.out.trans (grown_below HG5.out hs4 hc4)).mono hs3))
    go_wp2_with fail
    go_returns
    exact CutsDrawn.of HO.out hn9 HW1.out HW5.out
  · go_wp2_with fail
    go_returns
    exact CutsDrawn.of HO.out hn9 HW1.out HW3.out
set_option maxHeartbeats 1000000 in
theorem drawSharedCosts_any (a : Option Addr) (n cap : Nat) (l : List Int) (w : World) (h : Bytes w a n cap l) :
    Calls Try.prog 21 #[.slice a n cap] w (CutsDrawn w) := by
  have HB := Lib.hid h; clear h
  go_enter Try.func21, Try.ntmps21
  go_wp2_with fail
  refine (drawCutsOf_any _ _ _ l _ HB.out).mono ?_
  rintro e w1 ⟨v, n1, L, m, rfl, ho, hn9, hb⟩
  have HO := Lib.hid ho
  have HW1 := Lib.hid hb
  clear ho hb
  go_wp2_with fail
  go_returns
  exact ⟨v, n1, L, m, rfl, HO.out, hn9, HW1.out⟩
namespace Agg
theorem cutsTo_grow (n : Nat) (l : List (Int × Int)) (x : Nat) : ∀ d, (cutsTo n l (x + d)).length ≤ (cutsTo n l x).length + d
  | 0 => Nat.le_refl _
  | d + 1 => by
    have := cutsTo_grow n l x d
    rw [show x + (d + 1) = (x + d) + 1 by omega, cutsTo_succ]
    split
    · rw [List.length_append, List.length_singleton]; omega
    · omega
theorem sliceSum_le {n : Nat} {l : List (Int × Int)} {q : Int × Int} (h : qryOk q = true) : ∀ i : Nat, sliceSum n l q i ≤ i * q.1
  | 0 => by simp [sliceSum]
  | i + 1 => by
    have ih := sliceSum_le (n := n) (l := l) h i
    have hg := cutsTo_grow n l (i * qH q) (qS q)
    obtain ⟨h1, -⟩ := q_cast h
    simp only [sliceSum, cutIx]
    have e : (((i + 1 : Nat) : Int)) * q.1 = (i : Int) * q.1 + q.1 := by rw [Int.natCast_add, Int.add_mul]; simp
    rw [e]
    omega
theorem aloneTo_add (n : Nat) (l : List (Int × Int)) (j i : Nat) : aloneTo n l j i = aloneTo n l j 0 + i * (qryAt l j).1 := by
  cases j <;> simp [aloneTo]
theorem sharedTo_add (n : Nat) (l : List (Int × Int)) (j i : Nat) : sharedTo n l j i = sharedTo n l j 0 + sliceSum n l (qryAt l j) i := by
  cases j <;> simp [sharedTo, sliceSum]
theorem shared_le {n : Nat} {l : List (Int × Int)} (h : qrysOk l = true) : ∀ j, j ≤ l.length → sharedTo n l j 0 ≤ aloneTo n l j 0
  | 0, _ => by simp [sharedTo, aloneTo, sliceSum]
  | j + 1, hj => by
    have ih := shared_le (n := n) h j (by omega)
    rw [aloneTo_next, sharedTo_next, aloneTo_add, sharedTo_add]
    have := sliceSum_le (n := n) (l := l) (qrysOk_at h hj) (winsN n (qryAt l j))
    omega
theorem alone_bd0 {n : Nat} {l : List (Int × Int)} (h : qrysOk l = true) (hn : n ≤ 60) : ∀ j, j ≤ l.length → 0 ≤ aloneTo n l j 0 ∧ aloneTo n l j 0 ≤ 3600 * j
  | 0, _ => by simp [aloneTo]
  | j + 1, hj => by
    obtain ⟨i1, i2⟩ := alone_bd0 h hn j (by omega)
    have hq := qrysOk_at h hj
    obtain ⟨q1, q2, -, -⟩ := qryOk_parts hq
    obtain ⟨-, hw⟩ := wins_cast hq hn
    rw [aloneTo_next, aloneTo_add]
    have hp0 : 0 ≤ (winsN n (qryAt l j) : Int) * (qryAt l j).1 := Int.mul_nonneg (by omega) (by omega)
    have hp1 : (winsN n (qryAt l j) : Int) * (qryAt l j).1 ≤ 60 * 60 := Int.mul_le_mul (by omega) q2 (by omega) (by omega)
    omega
theorem cutsN_mem {n : Nat} {l : List (Int × Int)} {x : Int} (h : x ∈ cutsN n l) : 0 ≤ x ∧ x ≤ n := by
  simp only [cutsN, List.mem_map] at h
  obtain ⟨y, hy, rfl⟩ := h
  have := (cutsTo_mem.1 hy).1
  simp only [Int.ofNat_eq_natCast]
  omega
theorem cutsSpan_le (n : Nat) (l : List (Int × Int)) : cutsSpan (cutsN n l) ≤ n := by
  unfold cutsSpan
  split
  · omega
  · rename_i h0
    have e1 : (cutsN n l)[(cutsN n l).length - 1]? = some (cutsN n l)[(cutsN n l).length - 1] := List.getElem?_eq_getElem (by omega)
    have e2 : (cutsN n l)[0]? = some (cutsN n l)[0] := List.getElem?_eq_getElem (by omega)
    rw [e1, e2]
    have h1 := cutsN_mem (List.getElem_mem (l := cutsN n l) (show (cutsN n l).length - 1 < (cutsN n l).length by omega))
    have h2 := cutsN_mem (List.getElem_mem (l := cutsN n l) (show 0 < (cutsN n l).length by omega))
    simp only [Option.getD_some]
    omega
end Agg
set_option maxRecDepth 8000 in
set_option maxHeartbeats 2000000 in
theorem law_FnSharedCosts (a : Option Addr) (n cap : Nat) (zs : List Int) (w : World) (hrow : IsRow .u8 w a n cap zs) :
    Calls Try.prog 7 #[.slice a n cap] w fun e w' => e = .returned (.bool true) ∧ Below w.heap.size w w' := by
  have HB := Lib.hid (Bytes.of_row hrow)
  have hm : cap ≤ 9223372036854775807 := HB.out.2.1
  have hnc : n ≤ cap := HB.out.1
  clear hrow
  by_cases hn : n ≤ 1048576
  · go_enter Try.func7, Try.ntmps7
    go_wp2_with fail
    refine (drawSharedCosts_any _ _ _ _ _ HB.out).mono ?_
    rintro e w1 ⟨v, m, L, M, rfl, ho, hm9, hb1⟩
    obtain ⟨la, lc, rfl, hq⟩ := ho.ops
    have hll : L.length = m := hq.1
    have hqn : m ≤ lc := hq.2.1
    have hqm : lc ≤ 9223372036854775807 := by have := hq.2.2.1; unfold maxLen at this; omega
    have HQ := Lib.hid hq
    have HW1 := Lib.hid hb1
    obtain ⟨b, hb⟩ : ∃ b, b = Agg.cutsOk M L := ⟨_, rfl⟩
    obtain ⟨A, hA⟩ : ∃ A, A = (Agg.sharedA M L).1 := ⟨_, rfl⟩
    obtain ⟨C, hC⟩ : ∃ C, C = (Agg.sharedA M L).2 := ⟨_, rfl⟩
    have H1 := Lib.hid (fun X (hX : Below w1.heap.size w1 X) => sharedCosts_any la m lc L M X (HQ.out.below hX))
    have H2 := Lib.hid (fun X (hX : Below w1.heap.size w1 X) => s_sharedCosts_any la m lc L M X (HQ.out.below hX))
    rw [← hb, ← hA, ← hC] at H1 H2
    have HBB := Lib.hid hb
    have HAA := Lib.hid hA
    have HCC := Lib.hid hC
    clear hb hq ho hb1 hA hC
    go_wp2_with fail
    refine (H1.out _ (Below.refl _ _)).mono ?_
    rintro e w2 ⟨rfl, hb2⟩
    have HT2 := Lib.hid hb2
    clear hb2
    go_wp2_with fail
    refine (H2.out _ HT2.out).mono ?_
    rintro e w3 ⟨rfl, hb3⟩
    have HT3 := Lib.hid (HT2.out.trans (hb3.mono HT2.out.size))
    clear hb3 HT2 H1 H2
    cases b
    · have HW4 := Lib.hid (HW1.out.trans (HT3.out.mono HW1.out.size))
      go_wp2_with fail
      go_returns
      exact ⟨rfl, HW4.out⟩
    · have hok := HBB.out.symm
      simp only [Agg.cutsOk, Bool.and_eq_true, decide_eq_true_eq] at hok
      obtain ⟨hql, hM0, hM1⟩ := hok
      have hsh : Agg.sharedA M L = (Agg.aloneTo M.toNat L L.length 0, Agg.cutsSpan (Agg.cutsN M.toNat L) + Agg.sharedTo M.toNat L L.length 0) := by
        rw [Agg.sharedA, ← HBB.out]; rfl
      obtain ⟨N, rfl⟩ := Int.eq_ofNat_of_zero_le hM0
      have hN : N ≤ 60 := by omega
      rw [Int.toNat_natCast] at hsh
      have hA : A = Agg.aloneTo N L m 0 := by rw [HAA.out, hsh, hll]
      have hC : C = Agg.cutsSpan (Agg.cutsN N L) + Agg.sharedTo N L m 0 := by rw [HCC.out, hsh, hll]
      have hbd := Agg.alone_bd0 hql hN m (by omega)
      have hle := Agg.shared_le (n := N) hql m (by omega)
      have hsp := Agg.cutsSpan_le N L
      have hCA : C ≤ A + N := by rw [hC, hA]; omega
      have hA0 : 0 ≤ A := by rw [hA]; exact hbd.1
      have hA1 : A ≤ 40000 := by rw [hA]; omega
      have HA := Lib.hid hA
      have HQL := Lib.hid hql
      have HLL := Lib.hid hll
      clear hsh hC hbd hle hsp hA hql HAA HCC HBB hM0 hM1
      go_wp2_with fail
      go_loopw [11, 12] (fun s i wr => ∃ (j : Nat) (t : Int), j ≤ m ∧ i = .int .i64 j ∧ s = .int .i64 t ∧ Hid (t = Agg.aloneTo N L j 0) ∧ Hid (Below w1.heap.size w1 wr)) (fun _ i _ => m - (intOf i).toNat)
      case atStart => exact ⟨0, 0, Nat.zero_le _, rfl, rfl, Lib.hid (by simp [Agg.aloneTo]), HT3⟩
      case round =>
        obtain ⟨j, t, hj, rfl, rfl, ht, hw⟩ := hrel
        clear HT3
        have hk0 : (0 : Int) ≤ (j : Int) := Int.natCast_nonneg _
        by_cases hlt : j < m
        · rcases id HQ.out.2.2.2 with h4 | ⟨bk, off, rfl, hbl, hcs⟩
          · omega
          · have hck := (hw.out.cell (p := ⟨bk, off + j * 2, none⟩) hbl).trans (hcs j hlt).1
            have hcl := (hw.out.cell (p := ⟨bk, off + j * 2 + 1, none⟩) hbl).trans (hcs j hlt).2
            clear hcs
            have hqo := Agg.qrysOk_at HQL.out (show j < L.length by have := HLL.out; omega)
            obtain ⟨hwc, hwb⟩ := Agg.wins_cast hqo hN
            obtain ⟨hq1, hq2, hq3, hq4⟩ := Agg.qryOk_parts hqo
            have hbd := Agg.alone_bd0 HQL.out hN j (by have := HLL.out; omega)
            have hnx : Agg.aloneTo N L (j + 1) 0 = Agg.aloneTo N L j 0 + (Agg.winsN N (qryAt L j) : Int) * (qryAt L j).1 := by rw [Agg.aloneTo_next, Agg.aloneTo_add]
            rw [← ht.out] at hbd hnx
            have hp0 : 0 ≤ (Agg.winsN N (qryAt L j) : Int) * (qryAt L j).1 := Int.mul_nonneg (by omega) (by omega)
            have hp1 : (Agg.winsN N (qryAt L j) : Int) * (qryAt L j).1 ≤ 60 * 60 := Int.mul_le_mul (by omega) hq2 (by omega) (by omega)
            have hha : Agg.hopA N (qryAt L j).1 (qryAt L j).2 = (Agg.winsN N (qryAt L j) : Int) ∧ Agg.hopOk N (qryAt L j).1 (qryAt L j).2 = true := by
              have e : Agg.hopOk N (qryAt L j).1 (qryAt L j).2 = true := by
                simp only [Agg.hopOk, Bool.and_eq_true, decide_eq_true_eq]
                exact ⟨by omega, hqo⟩
              exact ⟨by rw [hwc]; simp [Agg.hopA, e], e⟩
            have hHC := fun w => hopCount_any N (qryAt L j).1 (qryAt L j).2 w
            rw [hha.1, hha.2] at hHC
            rw [show L[j]?.getD (0, 0) = qryAt L j from rfl] at hck hcl
            obtain ⟨W, hW⟩ : ∃ W : Int, W = (Agg.winsN N (qryAt L j) : Int) := ⟨_, rfl⟩
            obtain ⟨⟨x, y⟩, hxy⟩ : ∃ q, q = qryAt L j := ⟨_, rfl⟩
            rw [← hxy] at hck hcl hHC hp0 hp1 hnx hq1 hq2 hq3 hq4 hW
            rw [← hW] at hHC hp0 hp1 hnx
            have hW0 : 0 ≤ W := by omega
            have hW1 : W ≤ 60 := by rw [hW, hxy]; omega
            have HHC := Lib.hid hHC
            have HNX := Lib.hid hnx
            simp only at hck hcl hp0 hp1 hq1 hq2
            have HP : Hid (0 ≤ W * x ∧ W * x ≤ 3600) := Lib.hid ⟨hp0, by omega⟩
            clear hha hHC hwc hnx hqo hxy hW hwb hp1 hp0
            have hkn : (j : Int) < (m : Int) := by omega
            obtain ⟨hp0, hp1⟩ := HP.out
            obtain ⟨hb0, hb1⟩ := hbd
            have ht1 : t ≤ 40000 := by omega
            go_wp2_with fail
            refine wp_region_held_drew (S := (fun X => (X.cell? ⟨bk, off + j * 2, none⟩ = some (.int .i64 x) ∧ X.cell? ⟨bk, off + j * 2 + 1, none⟩ = some (.int .i64 y)))) (by kernel_rfl) (by exact ⟨hck, hcl⟩) (fun hHeld => ?_)
            first | (refine wpAnyH_take (i := 0) (v := ?_) rfl (by kernel_rfl) (by kernel_rfl) (by kernel_rfl) (fun _ _ _ h => h) (Or.inl ⟨by rfl, ?_⟩) (by assumption) ?_; rotate_left; (intro X hSw; (try dsimp only at hSw); go_simp; (try with_reducible rfl)); (try simp only [Act.put, List.setIfInBounds_toArray, List.set_cons_zero, List.set_cons_succ, List.getElem_toArray, List.getElem_cons_zero, List.getElem_cons_succ])) | fail "take 0"
            first | (refine wpAnyH_take (i := 1) (v := ?_) rfl (by kernel_rfl) (by kernel_rfl) (by kernel_rfl) (fun _ _ _ h => h) (Or.inl ⟨by rfl, ?_⟩) (by assumption) ?_; rotate_left; (intro X hSw; (try dsimp only at hSw); go_simp; (try with_reducible rfl)); (try simp only [Act.put, List.setIfInBounds_toArray, List.set_cons_zero, List.set_cons_succ, List.getElem_toArray, List.getElem_cons_zero, List.getElem_cons_succ])) | fail "take 1"
            first | (refine wpAnyH_take (i := 2) (v := ?_) rfl (by kernel_rfl) (by kernel_rfl) (by kernel_rfl) (fun _ _ _ h => h) (Or.inl ⟨by rfl, ?_⟩) (by assumption) ?_; rotate_left; (intro X hSw; (try dsimp only at hSw); go_simp; (try with_reducible rfl)); (try simp only [Act.put, List.setIfInBounds_toArray, List.set_cons_zero, List.set_cons_succ, List.getElem_toArray, List.getElem_cons_zero, List.getElem_cons_succ])) | fail "take 2"
            first | (refine wpAnyH_take (i := 3) (v := ?_) rfl (by kernel_rfl) (by kernel_rfl) (by kernel_rfl) (fun _ _ _ h => h) (Or.inl ⟨by rfl, ?_⟩) (by assumption) ?_; rotate_left; (intro X hSw; (try dsimp only at hSw); go_simp; (try with_reducible rfl)); (try simp only [Act.put, List.setIfInBounds_toArray, List.set_cons_zero, List.set_cons_succ, List.getElem_toArray, List.getElem_cons_zero, List.getElem_cons_succ])) | fail "take 3"
            first | (refine wpAnyH_take (i := 4) (v := ?_) rfl (by kernel_rfl) (by kernel_rfl) (by kernel_rfl) (fun _ _ _ h => h) (Or.inl ⟨by rfl, ?_⟩) (by assumption) ?_; rotate_left; (intro X hSw; (try dsimp only at hSw); go_simp; (try with_reducible rfl)); (try simp only [Act.put, List.setIfInBounds_toArray, List.set_cons_zero, List.set_cons_succ, List.getElem_toArray, List.getElem_cons_zero, List.getElem_cons_succ])) | fail "take 4"
            first | (refine wpAnyH_take (i := 5) (v := ?_) rfl (by kernel_rfl) (by kernel_rfl) (by kernel_rfl) (fun _ _ _ h => h) (Or.inl ⟨by rfl, ?_⟩) (by assumption) ?_; rotate_left; (intro X hSw; (try dsimp only at hSw); go_simp; (try with_reducible rfl)); (try simp only [Act.put, List.setIfInBounds_toArray, List.set_cons_zero, List.set_cons_succ, List.getElem_toArray, List.getElem_cons_zero, List.getElem_cons_succ])) | fail "take 5"
            first | (refine wpAnyH_take (i := 6) (v := ?_) rfl (by kernel_rfl) (by kernel_rfl) (by kernel_rfl) (fun _ _ _ h => h) (Or.inl ⟨by rfl, ?_⟩) (by assumption) ?_; rotate_left; (intro X hSw; (try dsimp only at hSw); go_simp; (try with_reducible rfl)); (try simp only [Act.put, List.setIfInBounds_toArray, List.set_cons_zero, List.set_cons_succ, List.getElem_toArray, List.getElem_cons_zero, List.getElem_cons_succ])) | fail "take 6"
            first | (refine wpAnyH_take (i := 7) (v := ?_) rfl (by kernel_rfl) (by kernel_rfl) (by kernel_rfl) (fun _ _ _ h => h) (Or.inl ⟨by rfl, ?_⟩) (by assumption) ?_; rotate_left; (intro X hSw; (try dsimp only at hSw); go_simp; (try with_reducible rfl)); (try simp only [Act.put, List.setIfInBounds_toArray, List.set_cons_zero, List.set_cons_succ, List.getElem_toArray, List.getElem_cons_zero, List.getElem_cons_succ])) | fail "take 7"
            first | (refine wpAnyH_take (i := 8) (v := ?_) rfl (by kernel_rfl) (by kernel_rfl) (by kernel_rfl) (fun _ _ _ h => h) (Or.inl ⟨by rfl, ?_⟩) (by assumption) ?_; rotate_left; (intro X hSw; (try dsimp only at hSw); go_simp; (try with_reducible rfl)); (try simp only [Act.put, List.setIfInBounds_toArray, List.set_cons_zero, List.set_cons_succ, List.getElem_toArray, List.getElem_cons_zero, List.getElem_cons_succ])) | fail "take 8"
            first | (refine wpAnyH_take (i := 9) (v := ?_) rfl (by kernel_rfl) (by kernel_rfl) (by kernel_rfl) (fun _ _ _ h => h) (Or.inl ⟨by rfl, ?_⟩) (by assumption) ?_; rotate_left; (intro X hSw; (try dsimp only at hSw); go_simp; (try with_reducible rfl)); (try simp only [Act.put, List.setIfInBounds_toArray, List.set_cons_zero, List.set_cons_succ, List.getElem_toArray, List.getElem_cons_zero, List.getElem_cons_succ])) | fail "take 9"
            first | (refine wpAnyH_take (i := 10) (v := ?_) rfl (by kernel_rfl) (by kernel_rfl) (by kernel_rfl) (fun _ _ _ h => h) (Or.inl ⟨by rfl, ?_⟩) (by assumption) ?_; rotate_left; (intro X hSw; (try dsimp only at hSw); go_simp; (try with_reducible rfl)); (try simp only [Act.put, List.setIfInBounds_toArray, List.set_cons_zero, List.set_cons_succ, List.getElem_toArray, List.getElem_cons_zero, List.getElem_cons_succ])) | fail "take 10"
            refine wpAnyH_ready (rs := [11]) (by kernel_rfl) (by simp) ?_
            refine AllReadyH.cons rfl (fun K hK => ?_) AllReadyH.nil
            go_simp
            refine (HHC.out _).mono ?_
            rintro e w5 ⟨rfl, rfl⟩
            (try dsimp only)
            refine hK.out _ _ (by exact ⟨hck, hcl⟩) (fun hHeld => ?_)
            clear hK K
            (try simp only [Act.put, List.setIfInBounds_toArray, List.set_cons_zero, List.set_cons_succ, List.getElem_toArray, List.getElem_cons_zero, List.getElem_cons_succ])
            first | (refine wpAnyH_take (i := 12) (v := ?_) rfl (by kernel_rfl) (by kernel_rfl) (by kernel_rfl) (fun _ _ _ h => h) (Or.inl ⟨by rfl, ?_⟩) (by assumption) ?_; rotate_left; (intro X hSw; (try dsimp only at hSw); go_simp; (try with_reducible rfl)); (try simp only [Act.put, List.setIfInBounds_toArray, List.set_cons_zero, List.set_cons_succ, List.getElem_toArray, List.getElem_cons_zero, List.getElem_cons_succ])) | fail "take 12"
            first | (refine wpAnyH_take (i := 13) (v := ?_) rfl (by kernel_rfl) (by kernel_rfl) (by kernel_rfl) (fun _ _ _ h => h) (Or.inl ⟨by rfl, ?_⟩) (by assumption) ?_; rotate_left; (intro X hSw; (try dsimp only at hSw); go_simp; (try with_reducible rfl)); (try simp only [Act.put, List.setIfInBounds_toArray, List.set_cons_zero, List.set_cons_succ, List.getElem_toArray, List.getElem_cons_zero, List.getElem_cons_succ])) | fail "take 13"
            first | (refine wpAnyH_take (i := 14) (v := ?_) rfl (by kernel_rfl) (by kernel_rfl) (by kernel_rfl) (fun _ _ _ h => h) (Or.inl ⟨by rfl, ?_⟩) (by assumption) ?_; rotate_left; (intro X hSw; (try dsimp only at hSw); go_simp; (try with_reducible rfl)); (try simp only [Act.put, List.setIfInBounds_toArray, List.set_cons_zero, List.set_cons_succ, List.getElem_toArray, List.getElem_cons_zero, List.getElem_cons_succ])) | fail "take 14"
            first | (refine wpAnyH_take (i := 15) (v := ?_) rfl (by kernel_rfl) (by kernel_rfl) (by kernel_rfl) (fun _ _ _ h => h) (Or.inl ⟨by rfl, ?_⟩) (by assumption) ?_; rotate_left; (intro X hSw; (try dsimp only at hSw); go_simp; (try with_reducible rfl)); (try simp only [Act.put, List.setIfInBounds_toArray, List.set_cons_zero, List.set_cons_succ, List.getElem_toArray, List.getElem_cons_zero, List.getElem_cons_succ])) | fail "take 15"
            first | (refine wpAnyH_take (i := 16) (v := ?_) rfl (by kernel_rfl) (by kernel_rfl) (by kernel_rfl) (fun _ _ _ h => h) (Or.inl ⟨by rfl, ?_⟩) (by assumption) ?_; rotate_left; (intro X hSw; (try dsimp only at hSw); go_simp; (try with_reducible rfl)); (try simp only [Act.put, List.setIfInBounds_toArray, List.set_cons_zero, List.set_cons_succ, List.getElem_toArray, List.getElem_cons_zero, List.getElem_cons_succ])) | fail "take 16"
            refine wpAnyH_done (by kernel_rfl) ?_ _
            have HW5 := Lib.hid hw.out.drew
            go_wp2_with fail
            go_roundw
            case rel => exact ⟨j + 1, t + W * x, by omega, by go_num, by go_num, Lib.hid (by rw [HNX.out]), HW5⟩
            case measure => simp [intOf]; omega
        · have hjm : j = m := by omega
          subst hjm
          have htA : t = A := by rw [ht.out, HA.out]
          subst htA
          have HW4 := Lib.hid (HW1.out.trans (hw.out.mono HW1.out.size))
          go_wp2_with fail
          go_returns
          exact ⟨rfl, HW4.out⟩
  · go_enter Try.func7, Try.ntmps7
    go_wp2
    go_returns
    exact ⟨rfl, Below.refl _ _⟩
end Go.Proofs.Ytofpnmjadflebaa
