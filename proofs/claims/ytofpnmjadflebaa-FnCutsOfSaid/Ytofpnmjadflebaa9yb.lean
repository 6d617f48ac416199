/-
  The law FnCutsOf, walked.
-/
import Derived.Test.Ytofpnmjadflebaa9y
namespace Go.Proofs.Ytofpnmjadflebaa
set_option linter.unusedSimpArgs false
set_option linter.unusedVariables false
open Go.RowKit
set_option maxHeartbeats 1000000 in
theorem waIn_not (a1 : Option Addr) (n1 cap1 : Nat) (l : List Int) (x : Int) (w : World) (h1 : Nums .i64 w a1 n1 cap1 l) (hx : x ∉ l) :
    Calls Try.prog 20 #[.slice a1 n1 cap1, .int .i64 x] w fun e w' => e = .returned (.bool false) ∧ Below w.heap.size w w' := by
  obtain ⟨hl1, hcap1, hm1, h41⟩ := h1
  unfold maxLen at hm1
  have HNOT := Lib.hid (fun k (hk : k < n1) => show l[k]?.getD 0 ≠ x from by
    rw [List.getElem?_eq_getElem (by omega)]
    exact fun e => hx (e ▸ List.getElem_mem _))
  have H1 := Lib.hid h41
  clear h41 hx hl1
  go_enter Try.func20, Try.ntmps20
  go_wp2
  go_loopw [5] (fun i wr => ∃ k : Nat, k ≤ n1 ∧ i = .int .i64 k ∧ Hid (Below w.heap.size w wr)) (fun i _ => n1 - (intOf i).toNat)
  case atStart => exact ⟨0, Nat.zero_le _, rfl, Below.refl _ _⟩
  case round =>
    obtain ⟨k, hk, rfl, HW⟩ := hrel
    have hk0 : (0 : Int) ≤ (k : Int) := Int.natCast_nonneg _
    by_cases hlt : k < n1
    · rcases H1.out with h4 | ⟨b, off, rfl, hb, hcs⟩
      · omega
      · have hck := (HW.out.cell (p := ⟨b, off + k, none⟩) hb).trans (hcs k hlt)
        have hyx := HNOT.out k hlt
        clear hcs
        obtain ⟨y, hy⟩ : ∃ y, y = l[k]?.getD 0 := ⟨_, rfl⟩
        rw [← hy] at hck hyx
        clear hy
        have hkn : (k : Int) < (n1 : Int) := by omega
        go_wp2
        go_roundw
        case rel => exact ⟨k + 1, by omega, by go_num, HW⟩
        case measure => simp [intOf]; omega
    · have hlt' : n1 ≤ k := by omega
      clear hlt
      go_wp2
      go_returns
      exact ⟨rfl, HW.out⟩
theorem Agg.cutsN_iff {n : Nat} {l : List (Int × Int)} {p : Nat} (hp : p ≤ n) : (p : Int) ∈ Agg.cutsN n l ↔ Agg.cutSet n l p = true := by
  simp only [Agg.cutsN, List.mem_map]
  constructor
  · rintro ⟨y, hy, e⟩
    have : y = p := Int.ofNat.inj e
    subst this
    exact (Agg.cutsTo_mem.1 hy).2
  · intro h
    exact ⟨p, Agg.cutsTo_mem.2 ⟨by omega, h⟩, rfl⟩
set_option maxRecDepth 8000 in
set_option maxHeartbeats 4000000 in
theorem law_FnCutsOf (a : Option Addr) (n cap : Nat) (zs : List Int) (w : World) (hrow : IsRow .u8 w a n cap zs) :
    Calls Try.prog 5 #[.slice a n cap] w fun e w' => e = .returned (.bool true) ∧ Below w.heap.size w w' := by
  obtain ⟨b0, hb0, hy0, hy1, hy2⟩ := info_parts infoBool
  have HB := Lib.hid (Bytes.of_row hrow)
  have hm : cap ≤ 9223372036854775807 := HB.out.2.1
  have hnc : n ≤ cap := HB.out.1
  clear hrow
  by_cases hn : n ≤ 1048576
  · go_enter Try.func5, Try.ntmps5
    go_wp2_with fail
    refine (drawCutsOf_any _ _ _ _ _ HB.out).mono ?_
    rintro e w1 ⟨v, m, L, Q, rfl, ho, hm9, hb1⟩
    obtain ⟨la, lc, rfl, hq⟩ := ho.ops
    have hll : L.length = m := hq.1
    have hqn : m ≤ lc := hq.2.1
    have hqm : lc ≤ 9223372036854775807 := by have := hq.2.2.1; unfold maxLen at this; omega
    have HQ := Lib.hid hq
    have HW1 := Lib.hid hb1
    obtain ⟨b, hb⟩ : ∃ b, b = Agg.cutsOk Q L := ⟨_, rfl⟩
    obtain ⟨C, hC⟩ : ∃ C, C = Agg.cutsOut Q L := ⟨_, rfl⟩
    have H1 := Lib.hid (fun X (hX : Below w1.heap.size w1 X) => cutsOf_any la m lc L Q X (HQ.out.below hX))
    have H2 := Lib.hid (fun X (hX : Below w1.heap.size w1 X) => s_cutsOf_any la m lc L Q X (HQ.out.below hX))
    rw [← hb, ← hC] at H1 H2
    have HBB := Lib.hid hb
    have HCC := Lib.hid hC
    have HLL := Lib.hid hll
    clear hb hq ho hb1 hC hll
    go_wp2_with fail
    refine (H1.out _ (Below.refl _ _)).mono ?_
    rintro e w2 ⟨v2, n2, rfl, r2, hb2⟩
    obtain ⟨ca, cc, rfl, N2, hl2⟩ := r2.nums
    have HN2 := Lib.hid (fun X (hX : Below w2.heap.size w2 X) => N2.below hX)
    have HT2 := Lib.hid hb2
    clear r2 hb2 N2
    go_wp2_with fail
    refine (H2.out _ HT2.out).mono ?_
    rintro e w3 ⟨v3, n3, rfl, r3, hb3⟩
    obtain ⟨da, dc, rfl, N3, -⟩ := r3.nums
    have HN3 := Lib.hid (fun X (hX : Below w3.heap.size w3 X) => N3.below hX)
    have HT3 := Lib.hid (HT2.out.trans (hb3.mono HT2.out.size))
    have HU3 := Lib.hid (show Below w2.heap.size w2 w3 from hb3)
    clear r3 hb3 N3 HT2
    go_wp2_with fail
    refine (waInts_9 _ _ _ _ _ _ C _ (HN2.out _ HU3.out) (HN3.out _ (Below.refl _ _))).mono ?_
    rintro e w5 ⟨rfl, hb5⟩
    have HT5 := Lib.hid (HT3.out.trans (hb5.mono HT3.out.size))
    have HU5 := Lib.hid (HU3.out.trans (hb5.mono HU3.out.size))
    have HV5 := Lib.hid hb5
    clear hb5 HT3 HU3
    cases b
    · go_wp2_with fail
      refine (waInts_9 _ _ _ _ _ _ C _ (HN2.out _ HU5.out) (HN3.out _ HV5.out)).mono ?_
      rintro e w7 ⟨rfl, hb7⟩
      have HW7 := Lib.hid (HW1.out.trans ((HT5.out.trans (hb7.mono HT5.out.size)).mono HW1.out.size))
      clear hb7
      go_wp2_with fail
      go_returns
      exact ⟨rfl, HW7.out⟩
    · have hok := HBB.out.symm
      simp only [Agg.cutsOk, Bool.and_eq_true, decide_eq_true_eq] at hok
      obtain ⟨hql, hM0, hM1⟩ := hok
      have hCo : C = Agg.cutsN Q.toNat L := by rw [HCC.out, Agg.cutsOut, ← HBB.out]; rfl
      obtain ⟨nn, rfl⟩ := Int.eq_ofNat_of_zero_le hM0
      rw [Int.toNat_natCast] at hCo
      subst hCo
      have hnn : nn ≤ 60 := by omega
      have HQL := Lib.hid hql
      have HNS := Lib.hid (fun X (hX : Below w5.heap.size w5 X) => HN2.out X (HU5.out.trans (hX.mono HU5.out.size)))
      have HQS := Lib.hid (fun X (hX : Below w5.heap.size w5 X) => HQ.out.below (HT5.out.trans (hX.mono HT5.out.size)))
      have HWS := Lib.hid (HW1.out.trans (HT5.out.mono HW1.out.size))
      obtain ⟨N, hN⟩ : ∃ N, N = nn + 1 := ⟨_, rfl⟩
      have HN := Lib.hid hN
      have hNI : (nn : Int) + 1 = (N : Int) := by omega
      have hw0 : IntKind.i64.wrap ((nn : Int) + 1) = (N : Int) := by rw [hNI]; exact IntWalk.i64_in _ ⟨by omega, by omega⟩
      have hN61 : N ≤ 61 := by omega
      obtain ⟨g, hg⟩ : ∃ g, g = w5.heap.size := ⟨_, rfl⟩
      clear hql hM0 hM1 hN hNI HBB HCC H1 H2 HN2 HN3 HU5 HV5 HT5 HW1 HQ
      go_wp2_with (at_make; go_must (refine wpList_make_full _ rfl _ _ 39 rfl w5.heap.size 4 b0 (.bool false) 1 Try.underlying39 hb0 hy0 hy1 .i64 .i64 _ _ N rfl rfl rfl rfl ?b1 ?b2 ?b3 ?_))
      case b1 => rw [hy2]; omega
      case b2 => unfold maxLen; omega
      case b3 => exact Nat.le_refl _
      intro w6 hown hgrow
      have HF := Lib.hid (show w6.ownsRow g 4 1 (.slice (some ⟨g, 0, none⟩) N N) N (flagRow (Agg.cutTo nn L 0 0) N) from by
        rw [← flagRow_congr (F := fun _ => false) N (fun x => Agg.cutTo_zero nn L x), ← made_flags, hg]
        exact hown)
      have HB6 := Lib.hid (show Below g w5 w6 from by rw [hg]; exact (Below.refl w5.heap.size w5).grown hgrow (Nat.le_refl _) (fun k hk => by simp at hk))
      have HG := Lib.hid hg
      rw [← hg]
      rw [← hg] at HNS HQS
      clear hown hgrow hw0 hg
      go_wp2_with fail
      go_loopw [10] (fun i wr => ∃ j : Nat, j ≤ m ∧ i = .int .i64 j ∧ Hid (wr.ownsRow g 4 1 (.slice (some ⟨g, 0, none⟩) N N) N (flagRow (Agg.cutTo nn L j 0) N)) ∧ Hid (Below g w5 wr)) (fun i _ => m - (intOf i).toNat)
      case atStart => exact ⟨0, Nat.zero_le _, rfl, HF, HB6⟩
      case round =>
        obtain ⟨j, hj, rfl, hf, hw⟩ := hrel
        clear HF HB6
        have hk0 : (0 : Int) ≤ (j : Int) := Int.natCast_nonneg _
        by_cases hlt : j < m
        · rcases id (HQS.out w5 (Below.refl _ _)).2.2.2 with h4 | ⟨bk, off, rfl, hbl, hcs⟩
          · omega
          have hcs2 := hcs j hlt
          clear hcs
          have hqo := Agg.qrysOk_at HQL.out (show j < L.length by have := HLL.out; omega)
          have HNEXT := Lib.hid (fun x => (Agg.cutTo_next (n := nn) (l := L) (show j < L.length by have := HLL.out; omega) x).symm)
          have HSTEP := Lib.hid (fun i x => Agg.cutTo_step nn L j i x)
          have hwlt := Agg.wins_lt (n := nn) hqo
          obtain ⟨hwc, hwb⟩ := Agg.wins_cast hqo hnn
          obtain ⟨hqx, hqy, hS1, hS2, hH1, hH2⟩ := Agg.q_cast hqo
          have hHC := fun w => hopCount_any nn (qryAt L j).1 (qryAt L j).2 w
          have hha : Agg.hopA nn (qryAt L j).1 (qryAt L j).2 = (Agg.winsN nn (qryAt L j) : Int) ∧ Agg.hopOk nn (qryAt L j).1 (qryAt L j).2 = true := by
            have e : Agg.hopOk nn (qryAt L j).1 (qryAt L j).2 = true := by
              simp only [Agg.hopOk, Bool.and_eq_true, decide_eq_true_eq]
              exact ⟨by omega, hqo⟩
            exact ⟨by rw [hwc]; simp [Agg.hopA, e], e⟩
          rw [hha.1, hha.2] at hHC
          obtain ⟨S, hS⟩ : ∃ S, S = Agg.qS (qryAt L j) := ⟨_, rfl⟩
          obtain ⟨H, hH⟩ : ∃ H, H = Agg.qH (qryAt L j) := ⟨_, rfl⟩
          rw [← hS, ← hH] at HSTEP hwlt
          rw [← hS] at hqx hS1 hS2
          rw [← hH] at hqy hH1 hH2
          rw [← hqx, ← hqy] at hHC
          have hqe : qryAt L j = ((S : Int), (H : Int)) := Prod.ext hqx.symm hqy.symm
          have hel : L[j]?.getD (0, 0) = ((S : Int), (H : Int)) := hqe
          rw [hel] at hcs2
          simp only at hcs2
          have HCS := Lib.hid (fun X (hX : Below g w5 X) => And.intro ((hX.cell (p := ⟨bk, off + j * 2, none⟩) (by show bk < g; rw [HG.out]; exact hbl)).trans hcs2.1) ((hX.cell (p := ⟨bk, off + j * 2 + 1, none⟩) (by show bk < g; rw [HG.out]; exact hbl)).trans hcs2.2))
          obtain ⟨M, hM⟩ : ∃ M, M = Agg.winsN nn (qryAt L j) := ⟨_, rfl⟩
          rw [← hM] at HNEXT hwlt hHC hwb
          have HWL := Lib.hid hwlt
          have HHC := Lib.hid hHC
          have hkn : (j : Int) < (m : Int) := by omega
          clear hqx hqy hqe hel hqo hwlt hM hS hH hcs2 hHC hha hwc
          obtain ⟨hck, hcl⟩ := HCS.out _ hw.out
          go_wp2_with fail
          refine wp_region_held_drew (S := (fun X => (X.cell? ⟨bk, off + j * 2, none⟩ = some (.int .i64 (S : Int)) ∧ X.cell? ⟨bk, off + j * 2 + 1, none⟩ = some (.int .i64 (H : Int))))) (by kernel_rfl) (by exact ⟨hck, hcl⟩) (fun hHeld => ?_)
          first | (refine wpAnyH_take (i := 0) (v := ?_) rfl (by kernel_rfl) (by kernel_rfl) (by kernel_rfl) (fun _ _ _ h => h) (Or.inl ⟨by rfl, ?_⟩) (by assumption) ?_; rotate_left; (intro X hSw; (try dsimp only at hSw); go_simp; (try with_reducible rfl)); (try simp only [Act.put, List.setIfInBounds_toArray, List.set_cons_zero, List.set_cons_succ, List.getElem_toArray, List.getElem_cons_zero, List.getElem_cons_succ])) | fail "take 0"
          first | (refine wpAnyH_take (i := 1) (v := ?_) rfl (by kernel_rfl) (by kernel_rfl) (by kernel_rfl) (fun _ _ _ h => h) (Or.inl ⟨by rfl, ?_⟩) (by assumption) ?_; rotate_left; (intro X hSw; (try dsimp only at hSw); go_simp; (try with_reducible rfl)); (try simp only [Act.put, List.setIfInBounds_toArray, List.set_cons_zero, List.set_cons_succ, List.getElem_toArray, List.getElem_cons_zero, List.getElem_cons_succ])) | fail "take 1"
          first | (refine wpAnyH_take (i := 2) (v := ?_) rfl (by kernel_rfl) (by kernel_rfl) (by kernel_rfl) (fun _ _ _ h => h) (Or.inl ⟨by rfl, ?_⟩) (by assumption) ?_; rotate_left; (intro X hSw; (try dsimp only at hSw); go_simp; (try with_reducible rfl)); (try simp only [Act.put, List.setIfInBounds_toArray, List.set_cons_zero, List.set_cons_succ, List.getElem_toArray, List.getElem_cons_zero, List.getElem_cons_succ])) | fail "take 2"
          first | (refine wpAnyH_take (i := 3) (v := ?_) rfl (by kernel_rfl) (by kernel_rfl) (by kernel_rfl) (fun _ _ _ h => h) (Or.inl ⟨by rfl, ?_⟩) (by assumption) ?_; rotate_left; (intro X hSw; (try dsimp only at hSw); go_simp; (try with_reducible rfl)); (try simp only [Act.put, List.setIfInBounds_toArray, List.set_cons_zero, List.set_cons_succ, List.getElem_toArray, List.getElem_cons_zero, List.getElem_cons_succ])) | fail "take 3"
          first | (refine wpAnyH_take (i := 4) (v := ?_) rfl (by kernel_rfl) (by kernel_rfl) (by kernel_rfl) (fun _ _ _ h => h) (Or.inl ⟨by rfl, ?_⟩) (by assumption) ?_; rotate_left; (intro X hSw; (try dsimp only at hSw); go_simp; (try with_reducible rfl)); (try simp only [Act.put, List.setIfInBounds_toArray, List.set_cons_zero, List.set_cons_succ, List.getElem_toArray, List.getElem_cons_zero, List.getElem_cons_succ])) | fail "take 4"
          first | (refine wpAnyH_take (i := 5) (v := ?_) rfl (by kernel_rfl) (by kernel_rfl) (by kernel_rfl) (fun _ _ _ h => h) (Or.inl ⟨by rfl, ?_⟩) (by assumption) ?_; rotate_left; (intro X hSw; (try dsimp only at hSw); go_simp; (try with_reducible rfl)); (try simp only [Act.put, List.setIfInBounds_toArray, List.set_cons_zero, List.set_cons_succ, List.getElem_toArray, List.getElem_cons_zero, List.getElem_cons_succ])) | fail "take 5"
          first | (refine wpAnyH_take (i := 6) (v := ?_) rfl (by kernel_rfl) (by kernel_rfl) (by kernel_rfl) (fun _ _ _ h => h) (Or.inl ⟨by rfl, ?_⟩) (by assumption) ?_; rotate_left; (intro X hSw; (try dsimp only at hSw); go_simp; (try with_reducible rfl)); (try simp only [Act.put, List.setIfInBounds_toArray, List.set_cons_zero, List.set_cons_succ, List.getElem_toArray, List.getElem_cons_zero, List.getElem_cons_succ])) | fail "take 6"
          first | (refine wpAnyH_take (i := 7) (v := ?_) rfl (by kernel_rfl) (by kernel_rfl) (by kernel_rfl) (fun _ _ _ h => h) (Or.inl ⟨by rfl, ?_⟩) (by assumption) ?_; rotate_left; (intro X hSw; (try dsimp only at hSw); go_simp; (try with_reducible rfl)); (try simp only [Act.put, List.setIfInBounds_toArray, List.set_cons_zero, List.set_cons_succ, List.getElem_toArray, List.getElem_cons_zero, List.getElem_cons_succ])) | fail "take 7"
          first | (refine wpAnyH_take (i := 8) (v := ?_) rfl (by kernel_rfl) (by kernel_rfl) (by kernel_rfl) (fun _ _ _ h => h) (Or.inl ⟨by rfl, ?_⟩) (by assumption) ?_; rotate_left; (intro X hSw; (try dsimp only at hSw); go_simp; (try with_reducible rfl)); (try simp only [Act.put, List.setIfInBounds_toArray, List.set_cons_zero, List.set_cons_succ, List.getElem_toArray, List.getElem_cons_zero, List.getElem_cons_succ])) | fail "take 8"
          first | (refine wpAnyH_take (i := 9) (v := ?_) rfl (by kernel_rfl) (by kernel_rfl) (by kernel_rfl) (fun _ _ _ h => h) (Or.inl ⟨by rfl, ?_⟩) (by assumption) ?_; rotate_left; (intro X hSw; (try dsimp only at hSw); go_simp; (try with_reducible rfl)); (try simp only [Act.put, List.setIfInBounds_toArray, List.set_cons_zero, List.set_cons_succ, List.getElem_toArray, List.getElem_cons_zero, List.getElem_cons_succ])) | fail "take 9"
          first | (refine wpAnyH_take (i := 10) (v := ?_) rfl (by kernel_rfl) (by kernel_rfl) (by kernel_rfl) (fun _ _ _ h => h) (Or.inl ⟨by rfl, ?_⟩) (by assumption) ?_; rotate_left; (intro X hSw; (try dsimp only at hSw); go_simp; (try with_reducible rfl)); (try simp only [Act.put, List.setIfInBounds_toArray, List.set_cons_zero, List.set_cons_succ, List.getElem_toArray, List.getElem_cons_zero, List.getElem_cons_succ])) | fail "take 10"
          refine wpAnyH_ready (rs := [11]) (by kernel_rfl) (by simp) ?_
          refine AllReadyH.cons rfl (fun K hK => ?_) AllReadyH.nil
          go_simp
          refine (HHC.out _).mono ?_
          rintro e w7 ⟨rfl, rfl⟩
          (try dsimp only)
          refine hK.out _ _ (by exact ⟨hck, hcl⟩) (fun hHeld => ?_)
          clear hK K
          (try simp only [Act.put, List.setIfInBounds_toArray, List.set_cons_zero, List.set_cons_succ, List.getElem_toArray, List.getElem_cons_zero, List.getElem_cons_succ])
          first | (refine wpAnyH_take (i := 12) (v := ?_) rfl (by kernel_rfl) (by kernel_rfl) (by kernel_rfl) (fun _ _ _ h => h) (Or.inl ⟨by rfl, ?_⟩) (by assumption) ?_; rotate_left; (intro X hSw; (try dsimp only at hSw); go_simp; (try with_reducible rfl)); (try simp only [Act.put, List.setIfInBounds_toArray, List.set_cons_zero, List.set_cons_succ, List.getElem_toArray, List.getElem_cons_zero, List.getElem_cons_succ])) | fail "take 12"
          first | (refine wpAnyH_take (i := 13) (v := ?_) rfl (by kernel_rfl) (by kernel_rfl) (by kernel_rfl) (fun _ _ _ h => h) (Or.inl ⟨by rfl, ?_⟩) (by assumption) ?_; rotate_left; (intro X hSw; (try dsimp only at hSw); go_simp; (try with_reducible rfl)); (try simp only [Act.put, List.setIfInBounds_toArray, List.set_cons_zero, List.set_cons_succ, List.getElem_toArray, List.getElem_cons_zero, List.getElem_cons_succ])) | fail "take 13"
          first | (refine wpAnyH_take (i := 14) (v := ?_) rfl (by kernel_rfl) (by kernel_rfl) (by kernel_rfl) (fun _ _ _ h => h) (Or.inl ⟨by rfl, ?_⟩) (by assumption) ?_; rotate_left; (intro X hSw; (try dsimp only at hSw); go_simp; (try with_reducible rfl)); (try simp only [Act.put, List.setIfInBounds_toArray, List.set_cons_zero, List.set_cons_succ, List.getElem_toArray, List.getElem_cons_zero, List.getElem_cons_succ])) | fail "take 14"
          first | (refine wpAnyH_take (i := 15) (v := ?_) rfl (by kernel_rfl) (by kernel_rfl) (by kernel_rfl) (fun _ _ _ h => h) (Or.inl ⟨by rfl, ?_⟩) (by assumption) ?_; rotate_left; (intro X hSw; (try dsimp only at hSw); go_simp; (try with_reducible rfl)); (try simp only [Act.put, List.setIfInBounds_toArray, List.set_cons_zero, List.set_cons_succ, List.getElem_toArray, List.getElem_cons_zero, List.getElem_cons_succ])) | fail "take 15"
          first | (refine wpAnyH_take (i := 16) (v := ?_) rfl (by kernel_rfl) (by kernel_rfl) (by kernel_rfl) (fun _ _ _ h => h) (Or.inl ⟨by rfl, ?_⟩) (by assumption) ?_; rotate_left; (intro X hSw; (try dsimp only at hSw); go_simp; (try with_reducible rfl)); (try simp only [Act.put, List.setIfInBounds_toArray, List.set_cons_zero, List.set_cons_succ, List.getElem_toArray, List.getElem_cons_zero, List.getElem_cons_succ])) | fail "take 16"
          refine wpAnyH_done (by kernel_rfl) ?_ _
          have HF7 := Lib.hid (show wr.drew.ownsRow g 4 1 (.slice (some ⟨g, 0, none⟩) N N) N (flagRow (Agg.cutTo nn L j 0) N) from hf.out)
          have HB7 := Lib.hid hw.out.drew
          clear hck hcl hf hw
          go_wp2_with fail
          go_loopw [13] (fun i wx => ∃ t : Nat, t ≤ M ∧ i = .int .i64 t ∧ Hid (wx.ownsRow g 4 1 (.slice (some ⟨g, 0, none⟩) N N) N (flagRow (Agg.cutTo nn L j t) N)) ∧ Hid (Below g w5 wx)) (fun i _ => M - (intOf i).toNat)
          case atStart => exact ⟨0, Nat.zero_le _, rfl, HF7, HB7⟩
          case round =>
            obtain ⟨t, ht, rfl, hf2, hw2⟩ := hrel
            obtain ⟨hck, hcl⟩ := HCS.out _ hw2.out
            have hk3 : (0 : Int) ≤ (t : Int) := Int.natCast_nonneg _
            by_cases htm : t < M
            · have hle := (HWL.out t).1 htm
              obtain ⟨A, hA⟩ : ∃ A, A = t * H := ⟨_, rfl⟩
              rw [← hA] at hle
              have HA := Lib.hid hA
              have hAI : (t : Int) * (H : Int) = (A : Int) := by rw [hA]; simp
              have hk1 : (0 : Int) ≤ (A : Int) := Int.natCast_nonneg _
              obtain ⟨T, hT⟩ : ∃ T, T = A + S := ⟨_, rfl⟩
              have hTI : (A : Int) + (S : Int) = (T : Int) := by omega
              have hw0 : IntKind.i64.wrap ((t : Int) * (H : Int)) = (A : Int) := by rw [hAI]; exact IntWalk.i64_in _ ⟨by omega, by omega⟩
              have hw1 : IntKind.i64.wrap ((A : Int) + (S : Int)) = (T : Int) := by rw [hTI]; exact IntWalk.i64_in _ ⟨by omega, by omega⟩
              have hAN : A < N := by have := HN.out; omega
              have hTN : T < N := by have := HN.out; omega
              have hANi : (A : Int) < (N : Int) := by omega
              have hTNi : (T : Int) < (N : Int) := by omega
              have hk2 : (0 : Int) ≤ (T : Int) := Int.natCast_nonneg _
              have htmI : (t : Int) < (M : Int) := by omega
              have HT := Lib.hid hT
              have hA1 := hf2.out.frozenAt A
              obtain ⟨y1, hA2⟩ : ∃ y, wr.cell? ⟨g, A, none⟩ = some y := ⟨_, (hf2.out.cellAt A (by omega)).trans (flagRow_at _ hAN)⟩
              have hs1 := hf2.out.stored A (Value.bool true)
              rw [flagRow_set (Agg.cutTo nn L j t) (fun x => Agg.cutTo nn L j t x || A == x) N A (fun x => rfl)] at hs1
              have HF1 := Lib.hid hs1.1
              have hT1 := hs1.1.frozenAt T
              obtain ⟨y2, hT2⟩ : ∃ y, (wr.setCell ⟨g, A, none⟩ (.bool true)).cell? ⟨g, T, none⟩ = some y := ⟨_, (hs1.1.cellAt T (by omega)).trans (flagRow_at _ hTN)⟩
              have hs2 := hs1.1.stored T (Value.bool true)
              rw [flagRow_set (fun x => Agg.cutTo nn L j t x || A == x) (Agg.cutTo nn L j (t + 1)) N T (fun x => by rw [HSTEP.out, HA.out, HT.out, HA.out, Bool.or_assoc])] at hs2
              have HF2 := Lib.hid hs2.1
              have HB1 := Lib.hid (hw2.out.setCell (p := ⟨g, A, none⟩) (Nat.le_refl _) (.bool true))
              have HB2 := Lib.hid (HB1.out.drew.setCell (p := ⟨g, T, none⟩) (Nat.le_refl _) (.bool true))
              obtain ⟨Y1, hY1⟩ : ∃ Y1, Y1 = wr.setCell ⟨g, A, none⟩ (.bool true) := ⟨_, rfl⟩
              rw [← hY1] at HF1 HF2 HB1 HB2 hT1 hT2
              clear hs1 hs2 hT hTI hA hAI hle
              go_upto_region 17 with (fail)
              rw [← hY1]
              clear hY1 hA1 hA2 hck hcl
              have HCS1 := Lib.hid (HCS.out _ HB1.out)
              have HCS2 := Lib.hid (HCS.out _ HB2.out)
              refine wp_region_held_drew (S := (fun X => (X.cell? ⟨bk, off + j * 2, none⟩ = some (.int .i64 (S : Int)) ∧ X.cell? ⟨bk, off + j * 2 + 1, none⟩ = some (.int .i64 (H : Int))))) (by kernel_rfl) (by first | exact HCS1.out | exact HCS2.out) (fun hHeld => ?_)
              first | (refine wpAnyH_take (i := 0) (v := ?_) rfl (by kernel_rfl) (by kernel_rfl) (by kernel_rfl) (fun _ _ _ h => h) (Or.inl ⟨by rfl, ?_⟩) (by assumption) ?_; rotate_left; (intro X hSw; (try dsimp only at hSw); go_simp; (try with_reducible rfl)); (try simp only [Act.put, List.setIfInBounds_toArray, List.set_cons_zero, List.set_cons_succ, List.getElem_toArray, List.getElem_cons_zero, List.getElem_cons_succ])) | fail "take 0"
              first | (refine wpAnyH_take (i := 1) (v := ?_) rfl (by kernel_rfl) (by kernel_rfl) (by kernel_rfl) (fun _ _ _ h => h) (Or.inl ⟨by rfl, ?_⟩) (by assumption) ?_; rotate_left; (intro X hSw; (try dsimp only at hSw); go_simp; (try with_reducible rfl)); (try simp only [Act.put, List.setIfInBounds_toArray, List.set_cons_zero, List.set_cons_succ, List.getElem_toArray, List.getElem_cons_zero, List.getElem_cons_succ])) | fail "take 1"
              first | (refine wpAnyH_take (i := 2) (v := ?_) rfl (by kernel_rfl) (by kernel_rfl) (by kernel_rfl) (fun _ _ _ h => h) (Or.inl ⟨by rfl, ?_⟩) (by assumption) ?_; rotate_left; (intro X hSw; (try dsimp only at hSw); go_simp; (try with_reducible rfl)); (try simp only [Act.put, List.setIfInBounds_toArray, List.set_cons_zero, List.set_cons_succ, List.getElem_toArray, List.getElem_cons_zero, List.getElem_cons_succ])) | fail "take 2"
              first | (refine wpAnyH_take (i := 3) (v := ?_) rfl (by kernel_rfl) (by kernel_rfl) (by kernel_rfl) (fun _ _ _ h => h) (Or.inl ⟨by rfl, ?_⟩) (by assumption) ?_; rotate_left; (intro X hSw; (try dsimp only at hSw); go_simp; (try with_reducible rfl)); (try simp only [Act.put, List.setIfInBounds_toArray, List.set_cons_zero, List.set_cons_succ, List.getElem_toArray, List.getElem_cons_zero, List.getElem_cons_succ])) | fail "take 3"
              first | (refine wpAnyH_take (i := 4) (v := ?_) rfl (by kernel_rfl) (by kernel_rfl) (by kernel_rfl) (fun _ _ _ h => h) (Or.inl ⟨by rfl, ?_⟩) (by assumption) ?_; rotate_left; (intro X hSw; (try dsimp only at hSw); go_simp; (try with_reducible rfl)); (try simp only [Act.put, List.setIfInBounds_toArray, List.set_cons_zero, List.set_cons_succ, List.getElem_toArray, List.getElem_cons_zero, List.getElem_cons_succ])) | fail "take 4"
              first | (refine wpAnyH_take (i := 5) (v := ?_) rfl (by kernel_rfl) (by kernel_rfl) (by kernel_rfl) (fun _ _ _ h => h) (Or.inl ⟨by rfl, ?_⟩) (by assumption) ?_; rotate_left; (intro X hSw; (try dsimp only at hSw); go_simp; (try with_reducible rfl)); (try simp only [Act.put, List.setIfInBounds_toArray, List.set_cons_zero, List.set_cons_succ, List.getElem_toArray, List.getElem_cons_zero, List.getElem_cons_succ])) | fail "take 5"
              first | (refine wpAnyH_take (i := 6) (v := ?_) rfl (by kernel_rfl) (by kernel_rfl) (by kernel_rfl) (fun _ _ _ h => h) (Or.inl ⟨by rfl, ?_⟩) (by assumption) ?_; rotate_left; (intro X hSw; (try dsimp only at hSw); go_simp; (try with_reducible rfl)); (try simp only [Act.put, List.setIfInBounds_toArray, List.set_cons_zero, List.set_cons_succ, List.getElem_toArray, List.getElem_cons_zero, List.getElem_cons_succ])) | fail "take 6"
              first | (refine wpAnyH_take (i := 7) (v := ?_) rfl (by kernel_rfl) (by kernel_rfl) (by kernel_rfl) (fun _ _ _ h => h) (Or.inl ⟨by rfl, ?_⟩) (by assumption) ?_; rotate_left; (intro X hSw; (try dsimp only at hSw); go_simp; (try with_reducible rfl)); (try simp only [Act.put, List.setIfInBounds_toArray, List.set_cons_zero, List.set_cons_succ, List.getElem_toArray, List.getElem_cons_zero, List.getElem_cons_succ])) | fail "take 7"
              first | (refine wpAnyH_take (i := 8) (v := ?_) rfl (by kernel_rfl) (by kernel_rfl) (by kernel_rfl) (fun _ _ _ h => h) (Or.inl ⟨by rfl, ?_⟩) (by assumption) ?_; rotate_left; (intro X hSw; (try dsimp only at hSw); go_simp; (try with_reducible rfl)); (try simp only [Act.put, List.setIfInBounds_toArray, List.set_cons_zero, List.set_cons_succ, List.getElem_toArray, List.getElem_cons_zero, List.getElem_cons_succ])) | fail "take 8"
              first | (refine wpAnyH_take (i := 9) (v := ?_) rfl (by kernel_rfl) (by kernel_rfl) (by kernel_rfl) (fun _ _ _ h => h) (Or.inl ⟨by rfl, ?_⟩) (by assumption) ?_; rotate_left; (intro X hSw; (try dsimp only at hSw); go_simp; (try with_reducible rfl)); (try simp only [Act.put, List.setIfInBounds_toArray, List.set_cons_zero, List.set_cons_succ, List.getElem_toArray, List.getElem_cons_zero, List.getElem_cons_succ])) | fail "take 9"
              first | (refine wpAnyH_take (i := 10) (v := ?_) rfl (by kernel_rfl) (by kernel_rfl) (by kernel_rfl) (fun _ _ _ h => h) (Or.inl ⟨by rfl, ?_⟩) (by assumption) ?_; rotate_left; (intro X hSw; (try dsimp only at hSw); go_simp; (try with_reducible rfl)); (try simp only [Act.put, List.setIfInBounds_toArray, List.set_cons_zero, List.set_cons_succ, List.getElem_toArray, List.getElem_cons_zero, List.getElem_cons_succ])) | fail "take 10"
              first | (refine wpAnyH_take (i := 11) (v := ?_) rfl (by kernel_rfl) (by kernel_rfl) (by kernel_rfl) (fun _ _ _ h => h) (Or.inl ⟨by rfl, ?_⟩) (by assumption) ?_; rotate_left; (intro X hSw; (try dsimp only at hSw); go_simp; (try with_reducible rfl)); (try simp only [Act.put, List.setIfInBounds_toArray, List.set_cons_zero, List.set_cons_succ, List.getElem_toArray, List.getElem_cons_zero, List.getElem_cons_succ])) | fail "take 11"
              first | (refine wpAnyH_take (i := 12) (v := ?_) rfl (by kernel_rfl) (by kernel_rfl) (by kernel_rfl) (fun _ _ _ h => h) (Or.inl ⟨by rfl, ?_⟩) (by assumption) ?_; rotate_left; (intro X hSw; (try dsimp only at hSw); go_simp; (try with_reducible rfl)); (try simp only [Act.put, List.setIfInBounds_toArray, List.set_cons_zero, List.set_cons_succ, List.getElem_toArray, List.getElem_cons_zero, List.getElem_cons_succ])) | fail "take 12"
              first | (refine wpAnyH_take (i := 13) (v := ?_) rfl (by kernel_rfl) (by kernel_rfl) (by kernel_rfl) (fun _ _ _ h => h) (Or.inl ⟨by rfl, ?_⟩) (by assumption) ?_; rotate_left; (intro X hSw; (try dsimp only at hSw); go_simp; (try with_reducible rfl)); (try simp only [Act.put, List.setIfInBounds_toArray, List.set_cons_zero, List.set_cons_succ, List.getElem_toArray, List.getElem_cons_zero, List.getElem_cons_succ])) | fail "take 13"
              first | (refine wpAnyH_take (i := 14) (v := ?_) rfl (by kernel_rfl) (by kernel_rfl) (by kernel_rfl) (fun _ _ _ h => h) (Or.inl ⟨by rfl, ?_⟩) (by assumption) ?_; rotate_left; (intro X hSw; (try dsimp only at hSw); go_simp; (try with_reducible rfl)); (try simp only [Act.put, List.setIfInBounds_toArray, List.set_cons_zero, List.set_cons_succ, List.getElem_toArray, List.getElem_cons_zero, List.getElem_cons_succ])) | fail "take 14"
              refine wpAnyH_ready (rs := [15]) (by kernel_rfl) (by simp) ?_
              refine AllReadyH.cons rfl (fun K hK => ?_) AllReadyH.nil
              go_simp
              (try dsimp only)
              refine hK.out _ _ (by exact HCS2.out) (fun hHeld => ?_)
              clear hK K
              (try simp only [Act.put, List.setIfInBounds_toArray, List.set_cons_zero, List.set_cons_succ, List.getElem_toArray, List.getElem_cons_zero, List.getElem_cons_succ])
              refine wpAnyH_done (by kernel_rfl) ?_ _
              have HF3 := Lib.hid (show (Y1.drew.setCell ⟨g, T, none⟩ (.bool true)).ownsRow g 4 1 (.slice (some ⟨g, 0, none⟩) N N) N (flagRow (Agg.cutTo nn L j (t + 1)) N) from HF2.out)
              clear hT1 hT2
              go_wp2_with fail
              go_roundw
              case rel => exact ⟨t + 1, by omega, by go_num, HF3, HB2⟩
              case measure => simp [intOf]; omega
            · obtain rfl : t = M := by omega
              clear htm
              have HFN := Lib.hid (show wr.ownsRow g 4 1 (.slice (some ⟨g, 0, none⟩) N N) N (flagRow (Agg.cutTo nn L (j + 1) 0) N) from by rw [← flagRow_congr N HNEXT.out]; exact hf2.out)
              go_wp2_with fail
              go_roundw
              case rel => exact ⟨j + 1, by omega, by go_num, HFN, hw2⟩
              case measure => simp [intOf]; omega
        · have hjn : j = m := by omega
          have hfa := hf.out
          rw [hjn, ← HLL.out, flagRow_congr (G := Agg.cutSet nn L) N (fun x => (Agg.cutTo_all nn L x).symm)] at hfa
          have HFA := Lib.hid hfa
          have hlt' : ¬ (j : Int) < (m : Int) := by omega
          clear hfa hjn hf
          go_wp2_with fail
          go_loopw [14] (fun i wx => ∃ p : Nat, p ≤ N ∧ i = .int .i64 p ∧ Hid (wx.ownsRow g 4 1 (.slice (some ⟨g, 0, none⟩) N N) N (flagRow (Agg.cutSet nn L) N)) ∧ Hid (Below g w5 wx)) (fun i _ => N - (intOf i).toNat)
          case atStart => exact ⟨0, Nat.zero_le _, rfl, HFA, hw⟩
          case round =>
            obtain ⟨p, hp, rfl, hf3, hw3⟩ := hrel
            clear HFA hw
            have hk1 : (0 : Int) ≤ (p : Int) := Int.natCast_nonneg _
            by_cases hpl : p < N
            · have hcell := (hf3.out.cellAt p (by omega)).trans (flagRow_at _ hpl)
              have hpn : p ≤ nn := by have := HN.out; omega
              have hiff := Agg.cutsN_iff (l := L) hpn
              have HNC := Lib.hid (HNS.out _ hw3.out.drew)
              have hpI : (p : Int) < (N : Int) := by omega
              have hkle : (p : Int) ≤ (nn : Int) := by omega
              obtain ⟨fp, hfp⟩ : ∃ fp, fp = Agg.cutSet nn L p := ⟨_, rfl⟩
              rw [← hfp] at hcell hiff
              have HIN : Hid (Calls Try.prog 20 #[.slice ca n2 cc, .int .i64 (p : Int)] wr.drew fun e w' => e = .returned (.bool fp) ∧ Below wr.drew.heap.size wr.drew w') := by
                cases fp
                · exact Lib.hid (waIn_not ca n2 cc _ (p : Int) wr.drew HNC.out (fun hh => by have := hiff.1 hh; cases this))
                · exact Lib.hid (waIn_has ca n2 cc _ (p : Int) wr.drew HNC.out (hiff.2 rfl))
              have HCELL := Lib.hid (fun X (hX : Below wr.drew.heap.size wr.drew X) => (hX.cell (p := ⟨g, p, none⟩) (by have := (hf3.out.lt g rfl).2; exact this)).trans hcell)
              have HZ := Lib.hid (Below.refl wr.drew.heap.size wr.drew)
              clear hfp hiff hcell
              have hcell := HCELL.out _ (Below.refl _ _)
              go_wp2_with fail
              refine wp_region_held_drew (S := (fun X => X.cell? ⟨g, p, none⟩ = some (.bool fp))) (by kernel_rfl) (by exact HCELL.out _ HZ.out) (fun hHeld => ?_)
              first | (refine wpAnyH_take (i := 0) (v := ?_) rfl (by kernel_rfl) (by kernel_rfl) (by kernel_rfl) (fun _ _ _ h => h) (Or.inl ⟨by rfl, ?_⟩) (by assumption) ?_; rotate_left; (intro X hSw; (try dsimp only at hSw); go_simp; (try with_reducible rfl)); (try simp only [Act.put, List.setIfInBounds_toArray, List.set_cons_zero, List.set_cons_succ, List.getElem_toArray, List.getElem_cons_zero, List.getElem_cons_succ])) | fail "take 0"
              first | (refine wpAnyH_take (i := 1) (v := ?_) rfl (by kernel_rfl) (by kernel_rfl) (by kernel_rfl) (fun _ _ _ h => h) (Or.inl ⟨by rfl, ?_⟩) (by assumption) ?_; rotate_left; (intro X hSw; (try dsimp only at hSw); go_simp; (try with_reducible rfl)); (try simp only [Act.put, List.setIfInBounds_toArray, List.set_cons_zero, List.set_cons_succ, List.getElem_toArray, List.getElem_cons_zero, List.getElem_cons_succ])) | fail "take 1"
              first | (refine wpAnyH_take (i := 2) (v := ?_) rfl (by kernel_rfl) (by kernel_rfl) (by kernel_rfl) (fun _ _ _ h => h) (Or.inl ⟨by rfl, ?_⟩) (by assumption) ?_; rotate_left; (intro X hSw; (try dsimp only at hSw); go_simp; (try with_reducible rfl)); (try simp only [Act.put, List.setIfInBounds_toArray, List.set_cons_zero, List.set_cons_succ, List.getElem_toArray, List.getElem_cons_zero, List.getElem_cons_succ])) | fail "take 2"
              first | (refine wpAnyH_take (i := 3) (v := ?_) rfl (by kernel_rfl) (by kernel_rfl) (by kernel_rfl) (fun _ _ _ h => h) (Or.inl ⟨by rfl, ?_⟩) (by assumption) ?_; rotate_left; (intro X hSw; (try dsimp only at hSw); go_simp; (try with_reducible rfl)); (try simp only [Act.put, List.setIfInBounds_toArray, List.set_cons_zero, List.set_cons_succ, List.getElem_toArray, List.getElem_cons_zero, List.getElem_cons_succ])) | fail "take 3"
              first | (refine wpAnyH_take (i := 4) (v := ?_) rfl (by kernel_rfl) (by kernel_rfl) (by kernel_rfl) (fun _ _ _ h => h) (Or.inl ⟨by rfl, ?_⟩) (by assumption) ?_; rotate_left; (intro X hSw; (try dsimp only at hSw); go_simp; (try with_reducible rfl)); (try simp only [Act.put, List.setIfInBounds_toArray, List.set_cons_zero, List.set_cons_succ, List.getElem_toArray, List.getElem_cons_zero, List.getElem_cons_succ])) | fail "take 4"
              first | (refine wpAnyH_take (i := 5) (v := ?_) rfl (by kernel_rfl) (by kernel_rfl) (by kernel_rfl) (fun _ _ _ h => h) (Or.inl ⟨by rfl, ?_⟩) (by assumption) ?_; rotate_left; (intro X hSw; (try dsimp only at hSw); go_simp; (try with_reducible rfl)); (try simp only [Act.put, List.setIfInBounds_toArray, List.set_cons_zero, List.set_cons_succ, List.getElem_toArray, List.getElem_cons_zero, List.getElem_cons_succ])) | fail "take 5"
              refine wpAnyH_ready (rs := [6]) (by kernel_rfl) (by simp) ?_
              refine AllReadyH.cons rfl (fun K hK => ?_) AllReadyH.nil
              go_simp
              refine (HIN.out).mono ?_
              rintro e w8 ⟨rfl, hb8⟩
              have HZ := Lib.hid hb8
              (try dsimp only)
              refine hK.out _ _ (by exact HCELL.out _ HZ.out) (fun hHeld => ?_)
              clear hK K
              (try simp only [Act.put, List.setIfInBounds_toArray, List.set_cons_zero, List.set_cons_succ, List.getElem_toArray, List.getElem_cons_zero, List.getElem_cons_succ])
              first | (refine wpAnyH_take (i := 7) (v := ?_) rfl (by kernel_rfl) (by kernel_rfl) (by kernel_rfl) (fun _ _ _ h => h) (Or.inl ⟨by rfl, ?_⟩) (by assumption) ?_; rotate_left; (intro X hSw; (try dsimp only at hSw); go_simp; (try with_reducible rfl)); (try simp only [Act.put, List.setIfInBounds_toArray, List.set_cons_zero, List.set_cons_succ, List.getElem_toArray, List.getElem_cons_zero, List.getElem_cons_succ])) | fail "take 7"
              refine wpAnyH_done (by kernel_rfl) ?_ _
              have HF8 := Lib.hid (World.ownsRow.kept (show wr.drew.ownsRow g 4 1 (.slice (some ⟨g, 0, none⟩) N N) N (flagRow (Agg.cutSet nn L) N) from hf3.out) (Below.grownNone HZ.out none) (Classical.em _))
              have HB8 := Lib.hid (hw3.out.drew.trans (HZ.out.mono (by have := hw3.out.drew.size; have := HG.out; omega)))
              clear hcell
              cases fp
              · go_wp2_with fail
                go_roundw
                case rel => exact ⟨p + 1, by omega, by go_num, HF8, HB8⟩
                case measure => simp [intOf]; omega
              · go_wp2_with fail
                go_roundw
                case rel => exact ⟨p + 1, by omega, by go_num, HF8, HB8⟩
                case measure => simp [intOf]; omega
            · have hnle : ¬ (p : Int) ≤ (nn : Int) := by have := HN.out; omega
              have hwe := hw3.out
              rw [HG.out] at hwe
              have HWE := Lib.hid (HWS.out.trans (hwe.mono HWS.out.size))
              clear hwe
              go_wp2_with fail
              go_returns
              exact ⟨rfl, HWE.out⟩
  · go_enter Try.func5, Try.ntmps5
    go_wp2
    go_returns
    exact ⟨rfl, Below.refl _ _⟩
end Go.Proofs.Ytofpnmjadflebaa
