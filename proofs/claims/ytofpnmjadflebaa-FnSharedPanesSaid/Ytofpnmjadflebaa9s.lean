/-
  The costs of shared windows, in the model.
-/
import Derived.Test.Ytofpnmjadflebaa9n
import Derived.Test.Ytofpnmjadflebaa9o
import Derived.Test.Ytofpnmjadflebaa9r
import Derived.Deep.DeepMust
namespace Go.Proofs.Ytofpnmjadflebaa
set_option linter.unusedSimpArgs false
set_option linter.unusedVariables false
open Go.RowKit
set_option maxRecDepth 8000 in
set_option maxHeartbeats 4000000 in
theorem s_sharedCosts_any (a : Option Addr) (n cap : Nat) (l : List (Int × Int)) (m : Int) (w : World) (h : Qrs w a n cap l) :
    Calls Try.prog 23 #[.slice a n cap, .int .i64 m] w fun e w' => e = .returned (.tuple #[.int .i64 (Agg.sharedA m l).1, .int .i64 (Agg.sharedA m l).2, .bool (Agg.cutsOk m l)]) ∧ Below w.heap.size w w' := by
  have hll : l.length = n := h.1
  have hnc : n ≤ cap := h.2.1
  have hcm : cap ≤ 9223372036854775807 := by have := h.2.2.1; unfold maxLen at this; omega
  have H0 := Lib.hid h
  have HLL := Lib.hid hll
  have HC := Lib.hid (s_cutsOf_any a n cap l m w h)
  obtain ⟨ok, hok⟩ : ∃ ok, ok = Agg.cutsOk m l := ⟨_, rfl⟩
  obtain ⟨C, hC⟩ : ∃ C, C = Agg.cutsOut m l := ⟨_, rfl⟩
  obtain ⟨⟨r1, r2⟩, hr⟩ : ∃ r, r = Agg.sharedA m l := ⟨_, rfl⟩
  rw [← hok, ← hC] at HC
  rw [← hok, ← hr]
  have HOK := Lib.hid hok
  have HCC := Lib.hid hC
  have HRR := Lib.hid hr
  clear h hll hok hC hr
  go_enter Try.func23, Try.ntmps23
  go_wp2_with fail
  refine HC.out.mono ?_
  rintro e w1 ⟨v1, cn, rfl, ho1, hb1⟩
  obtain ⟨ca, cc, rfl, hN1, hlc⟩ := ho1.nums
  have HN1 := Lib.hid hN1
  have HB1 := Lib.hid hb1
  clear ho1 hb1 HC
  cases ok
  · have hrz := HRR.out
    rw [Agg.sharedA, ← HOK.out] at hrz
    simp only [Bool.false_eq_true, if_false, Prod.mk.injEq] at hrz
    obtain ⟨rfl, rfl⟩ := hrz
    go_wp2_with fail
    go_returns
    exact ⟨rfl, HB1.out⟩
  · have hok2 := HOK.out.symm
    simp only [Agg.cutsOk, Bool.and_eq_true, decide_eq_true_eq] at hok2
    obtain ⟨hql, hm0, hm60⟩ := hok2
    obtain ⟨nn, rfl⟩ := Int.eq_ofNat_of_zero_le hm0
    have hnn : nn ≤ 60 := by omega
    have hCe : C = Agg.cutsN nn l := by rw [HCC.out, Agg.cutsOut, ← HOK.out]; rfl
    have hre := HRR.out
    rw [Agg.sharedA, ← HOK.out] at hre
    simp only [if_true, Int.toNat_natCast, Prod.mk.injEq] at hre
    rw [← hCe] at hre
    obtain ⟨hr1, hr2⟩ := hre
    have HQL := Lib.hid hql
    have hcn : C.length = cn := hN1.1
    have hcnc : cn ≤ cc := hN1.2.1
    have hccm : cc ≤ 9223372036854775807 := by have := hN1.2.2.1; unfold maxLen at this; omega
    have hcn61 : cn ≤ 61 := by rw [← hcn, hCe]; have := Agg.cutsN_len nn l; omega
    have HCE := Lib.hid hCe
    by_cases hc0 : cn = 0
    · obtain ⟨sp, hspv⟩ : ∃ sp : Int, sp = 0 := ⟨_, rfl⟩
      have hcs0 : Agg.cutsSpan C = sp := by rw [Agg.cutsSpan, if_pos (by omega), hspv]
      rw [hcs0] at hr2
      have HSP := Lib.hid (show -60 ≤ sp ∧ sp ≤ 60 by omega)
      have HR1 := Lib.hid hr1
      have HR2 := Lib.hid hr2
      have hcI : ¬ (0 : Int) < (cn : Int) := by omega
      have hcI2 : ¬ 0 < cn := by omega
      have HN2 := HN1
      have HB2 := HB1
      clear hr1 hr2 hql hCe hcn hN1 hm0 hm60 hcs0 hc0 HN1 HB1
      have HE0 := Lib.hid (show sp + Agg.sharedTo nn l 0 0 = 0 from by rw [hspv]; simp [Agg.sharedTo, Agg.sliceSum])
      clear hspv
      go_wp2_with fail
      go_loopw [9, 10, 11] (fun av sv i wr => ∃ j : Nat, j ≤ n ∧ av = .int .i64 (Agg.aloneTo nn l j 0) ∧ sv = .int .i64 (sp + Agg.sharedTo nn l j 0) ∧ i = .int .i64 j ∧ Hid (Nums .i64 wr ca cn cc C) ∧ Hid (Below w.heap.size w wr)) (fun _ _ i _ => n - (intOf i).toNat)
      case atStart => exact ⟨0, Nat.zero_le _, by simp [Agg.aloneTo], by first | (simp [Agg.sharedTo, Agg.sliceSum]; done) | rw [HE0.out], rfl, HN2, HB2⟩
      case round =>
        obtain ⟨j, hj, rfl, rfl, rfl, hcu, hw⟩ := hrel
        clear HN2 HB2
        by_cases hlt : j < n
        · rcases id H0.out.2.2.2 with h4 | ⟨bk, off, rfl, hbl, hcs⟩
          · omega
          · have hcs2 := hcs j hlt
            clear hcs
            have hjl : j < l.length := by have := HLL.out; omega
            have hj8 : j < 8 := by have := Agg.qrysOk_len HQL.out; omega
            have hqo := Agg.qrysOk_at HQL.out hjl
            have HST1 := Lib.hid (fun t (ht : t < Agg.winsN nn (qryAt l j)) => Agg.hits_cut (n := nn) HQL.out hjl ht)
            have HAN := Lib.hid (Agg.aloneTo_next nn l j)
            have HSN := Lib.hid (Agg.sharedTo_next nn l j)
            have HAS := Lib.hid (fun i => Agg.aloneTo_step nn l j i)
            have HSS := Lib.hid (fun i => Agg.sharedTo_step nn l j i)
            have HAB := Lib.hid (fun i => Agg.alone_bound HQL.out hnn j (by omega) i)
            have HSB := Lib.hid (fun i (hi : i ≤ Agg.winsN nn (qryAt l j)) => Agg.shared_bound HQL.out hnn j (by omega) i (.inl ⟨hjl, hi⟩))
            have hwlt := Agg.wins_lt (n := nn) hqo
            have hM60 := (Agg.wins_cast hqo hnn).2
            obtain ⟨hqx, hqy, hS1, hS2, hH1, hH2⟩ := Agg.q_cast hqo
            obtain ⟨S, hS⟩ : ∃ S, S = Agg.qS (qryAt l j) := ⟨_, rfl⟩
            obtain ⟨H, hH⟩ : ∃ H, H = Agg.qH (qryAt l j) := ⟨_, rfl⟩
            rw [← hS, ← hH] at HST1 hwlt HSS
            rw [← hS] at hqx hS1 hS2
            rw [← hH] at hqy hH1 hH2
            have hqe : qryAt l j = ((S : Int), (H : Int)) := Prod.ext hqx.symm hqy.symm
            have hel : l[j]?.getD (0, 0) = ((S : Int), (H : Int)) := hqe
            rw [hel] at hcs2
            rw [← hqx] at HAS
            simp only at hcs2
            have HCS := Lib.hid (fun X (hX : Below w.heap.size w X) => And.intro ((hX.cell (p := ⟨bk, off + j * 2, none⟩) hbl).trans hcs2.1) ((hX.cell (p := ⟨bk, off + j * 2 + 1, none⟩) hbl).trans hcs2.2))
            obtain ⟨M, hM⟩ : ∃ M, M = Agg.winsN nn (qryAt l j) := ⟨_, rfl⟩
            rw [← hM] at HST1 HAN HSN HSB hwlt hM60
            have HWL := Lib.hid hwlt
            have hk0 : (0 : Int) ≤ (j : Int) := Int.natCast_nonneg _
            have hkn : (j : Int) < (n : Int) := by omega
            clear hqx hqy hqe hel hqo hwlt hM hS hH hcs2 hjl
            go_wp2_with fail
            go_loopw [9, 10, 12] (fun av sv i wx => ∃ t at_ : Nat, t ≤ M ∧ at_ = t * H ∧ at_ ≤ nn + 60 ∧ av = .int .i64 (Agg.aloneTo nn l j t) ∧ sv = .int .i64 (sp + Agg.sharedTo nn l j t) ∧ i = .int .i64 at_ ∧ Hid (Nums .i64 wx ca cn cc C) ∧ Hid (Below w.heap.size w wx)) (fun _ _ i _ => nn + 61 - (intOf i).toNat)
            case atStart => exact ⟨0, 0, Nat.zero_le _, by simp, Nat.zero_le _, rfl, rfl, rfl, hcu, hw⟩
            case round =>
              obtain ⟨t, A, ht, hA, hA60, rfl, rfl, rfl, hc2, hw2⟩ := hrel
              obtain ⟨hck, hcl⟩ := HCS.out _ hw2.out
              have HA := Lib.hid hA
              have hk1 : (0 : Int) ≤ (A : Int) := Int.natCast_nonneg _
              by_cases htm : t < M
              · have hle := (HWL.out t).1 htm
                obtain ⟨hcf, hct⟩ := HST1.out t htm
                have hs1 := Agg.cut_stands hcf (show t * H ≤ nn by omega)
                have hs2 := Agg.cut_stands hct hle
                rw [← HCE.out] at hs1 hs2
                have hss := HSS.out t
                have has := HAS.out t
                have hab := HAB.out t
                have hsb1 := HSB.out t (by omega)
                have hi1 := Agg.cutIx_le nn l (t * H)
                have hi2 := Agg.cutIx_le nn l (t * H + S)
                obtain ⟨m1, hm1⟩ : ∃ x, x = Agg.cutIx nn l (t * H) := ⟨_, rfl⟩
                obtain ⟨m2, hm2⟩ : ∃ x, x = Agg.cutIx nn l (t * H + S) := ⟨_, rfl⟩
                rw [← hm1] at hs1 hss hi1
                rw [← hm2] at hs2 hss hi2
                rw [← hA] at hle hs1 hs2 hi1 hi2
                obtain ⟨T, hT⟩ : ∃ T, T = A + S := ⟨_, rfl⟩
                rw [← hT] at hle hs2 hi2
                have hTI : (A : Int) + (S : Int) = (T : Int) := by omega
                have hw1 : IntKind.i64.wrap ((A : Int) + (S : Int)) = (T : Int) := by rw [hTI]; exact IntWalk.i64_in _ ⟨by omega, by omega⟩
                have hw6 : IntKind.i64.wrap ((A : Int) + (H : Int)) = (A : Int) + (H : Int) := IntWalk.i64_in _ ⟨by omega, by omega⟩
                have hleI : (T : Int) ≤ (nn : Int) := by omega
                have hAT : A ≤ nn := by omega
                obtain ⟨A0, hA0⟩ : ∃ x, x = Agg.aloneTo nn l j t := ⟨_, rfl⟩
                obtain ⟨B0, hB0⟩ : ∃ x, x = Agg.sharedTo nn l j t := ⟨_, rfl⟩
                rw [← hA0] at has hab ⊢
                rw [← hB0] at hss hsb1 ⊢
                have HSS1 := Lib.hid hss
                have HAS1 := Lib.hid has
                have hspb := HSP.out
                have hw3 : IntKind.i64.wrap (A0 + (S : Int)) = A0 + (S : Int) := IntWalk.i64_in _ ⟨by omega, by omega⟩
                have hw4 : IntKind.i64.wrap (sp + B0 + (m2 : Int)) = sp + B0 + (m2 : Int) := IntWalk.i64_in _ ⟨by omega, by omega⟩
                have hw5 : IntKind.i64.wrap (sp + B0 + (m2 : Int) - (m1 : Int)) = sp + B0 + (m2 : Int) - (m1 : Int) := IntWalk.i64_in _ ⟨by omega, by omega⟩
                have HX1 := Lib.hid (fun X (hX : Nums .i64 X ca cn cc C) => s_l9Index_any ca cn cc C (A : Int) m1 X hX hs1)
                have HX2 := Lib.hid (fun X (hX : Nums .i64 X ca cn cc C) => s_l9Index_any ca cn cc C (T : Int) m2 X hX hs2)
                clear hle hcf hct hs1 hs2 hss has hab hsb1 hi1 hi2 hm1 hm2 hA hT hTI hA0 hB0 hspb
                go_wp2_with fail
                refine (HX2.out _ hc2.out).mono ?_
                rintro e w10 ⟨rfl, hb10⟩
                have HC10 := Lib.hid (hc2.out.below hb10)
                have HB10 := Lib.hid (hw2.out.trans (hb10.mono hw2.out.size))
                clear hb10 hck hcl
                obtain ⟨hck, hcl⟩ := HCS.out _ HB10.out
                go_wp2_with fail
                refine (HX1.out _ HC10.out).mono ?_
                rintro e w11 ⟨rfl, hb11⟩
                have HC11 := Lib.hid (HC10.out.below hb11)
                have HB11 := Lib.hid (HB10.out.trans (hb11.mono HB10.out.size))
                clear hb11 hck hcl
                obtain ⟨hck, hcl⟩ := HCS.out _ HB11.out
                go_wp2_with fail
                go_roundw
                case rel => exact ⟨t + 1, A + H, by omega, by rw [HA.out, Nat.add_mul, Nat.one_mul], by omega, by rw [HAS1.out], by rw [HSS1.out, ← Int.add_assoc, ← Int.add_sub_assoc], by go_num, HC11, HB11⟩
                case measure => simp [intOf]; omega
              · have hle : ¬ (t * H + S ≤ nn) := fun hh => htm ((HWL.out t).2 hh)
                rw [← hA] at hle
                have hw1 : IntKind.i64.wrap ((A : Int) + (S : Int)) = (A : Int) + (S : Int) := IntWalk.i64_in _ ⟨by omega, by omega⟩
                have hleI : ¬ ((A : Int) + (S : Int) ≤ (nn : Int)) := by omega
                have htM : t = M := by omega
                have HTM := Lib.hid htM
                clear hA hle htm htM
                go_wp2_with fail
                go_roundw
                case rel => first | exact ⟨j + 1, by omega, by rw [HAN.out, HTM.out], by rw [HSN.out, HTM.out], by go_num, hc2, hw2⟩ | exact ⟨_, _, _, _, _, _, _, ⟨j + 1, by omega, by rw [HAN.out, HTM.out], by rw [HSN.out, HTM.out], by go_num⟩, rfl, rfl, rfl, rfl, rfl, rfl, rfl⟩
                case measure => simp [intOf]; omega
        · have hjn : j = n := by omega
          have HRA := Lib.hid (show r1 = Agg.aloneTo nn l j 0 from by rw [hjn, ← HLL.out]; exact HR1.out)
          have HRB := Lib.hid (show r2 = sp + Agg.sharedTo nn l j 0 from by rw [hjn, ← HLL.out]; exact HR2.out)
          have hlt' : ¬ (j : Int) < (n : Int) := by omega
          clear hjn
          go_wp2_with fail
          go_returns
          exact ⟨by rw [HRA.out, HRB.out]; rfl, hw.out⟩
    · have hpos : 0 < cn := by omega
      rcases id HN1.out.2.2.2 with h4 | ⟨cb, coff, rfl, hcb, hcs⟩
      · omega
      · obtain ⟨K, hK⟩ : ∃ K, cn = K + 1 := ⟨cn - 1, by omega⟩
        have hfirst := hcs 0 hpos
        have hlast := hcs K (by omega)
        have hbf := Agg.cutsN_items (n := nn) (l := l) 0 (by rw [← hCe]; omega)
        have hbl := Agg.cutsN_items (n := nn) (l := l) K (by rw [← hCe]; omega)
        rw [← hCe] at hbf hbl
        have hsp : Agg.cutsSpan C = C[K]?.getD 0 - C[0]?.getD 0 := by
          rw [Agg.cutsSpan, if_neg (by omega), show C.length - 1 = K by omega]
        obtain ⟨cF, hcF⟩ : ∃ x, x = C[0]?.getD 0 := ⟨_, rfl⟩
        obtain ⟨cL, hcL⟩ : ∃ x, x = C[K]?.getD 0 := ⟨_, rfl⟩
        rw [← hcF] at hfirst hbf hsp
        rw [← hcL] at hlast hbl hsp
        rw [Nat.add_zero] at hfirst
        obtain ⟨sp, hspv⟩ : ∃ sp, sp = cL - cF := ⟨_, rfl⟩
        rw [hsp, ← hspv] at hr2
        have hKI : (cn : Int) - 1 = (K : Int) := by omega
        have hw1 : IntKind.i64.wrap ((cn : Int) - 1) = (K : Int) := by rw [hKI]; exact IntWalk.i64_in _ ⟨by omega, by omega⟩
        have hw2 : IntKind.i64.wrap (cL - cF) = sp := by rw [← hspv]; exact IntWalk.i64_in _ ⟨by omega, by omega⟩
        have HSP := Lib.hid (show -60 ≤ sp ∧ sp ≤ 60 by omega)
        have hkK : (0 : Int) ≤ (K : Int) := Int.natCast_nonneg _
        have hKn : (K : Int) < (cn : Int) := by omega
        have hKn2 : K < cn := by omega
        have hposI : (0 : Int) < (cn : Int) := by omega
        have HR1 := Lib.hid hr1
        have HR2 := Lib.hid hr2
        obtain ⟨ca, hca⟩ : ∃ ca, ca = some (⟨cb, coff, none⟩ : Addr) := ⟨_, rfl⟩
        clear hr1 hr2 hql hCe hcn hN1 hcs hbf hbl hsp hcF hcL hspv hKI hK hm0 hm60
        go_wp2_with fail
        refine wp_region_held_drew (S := (fun X => X.cell? ⟨cb, coff + K, none⟩ = some (.int .i64 cL) ∧ X.cell? ⟨cb, coff, none⟩ = some (.int .i64 cF))) (by kernel_rfl) (by exact ⟨by assumption, by assumption⟩) (fun hHeld => ?_)
        first | (refine wpAnyH_take (i := 0) (v := ?_) rfl (by kernel_rfl) (by kernel_rfl) (by kernel_rfl) (fun _ _ _ h => h) (Or.inl ⟨by rfl, ?_⟩) (by assumption) ?_; rotate_left; (intro X hSw; (try dsimp only at hSw); go_simp; (try with_reducible rfl)); (try simp only [Act.put, List.setIfInBounds_toArray, List.set_cons_zero, List.set_cons_succ, List.getElem_toArray, List.getElem_cons_zero, List.getElem_cons_succ])) | fail "take 0"
        first | (refine wpAnyH_take (i := 1) (v := ?_) rfl (by kernel_rfl) (by kernel_rfl) (by kernel_rfl) (fun _ _ _ h => h) (Or.inl ⟨by rfl, ?_⟩) (by assumption) ?_; rotate_left; (intro X hSw; (try dsimp only at hSw); go_simp; (try with_reducible rfl)); (try simp only [Act.put, List.setIfInBounds_toArray, List.set_cons_zero, List.set_cons_succ, List.getElem_toArray, List.getElem_cons_zero, List.getElem_cons_succ])) | fail "take 1"
        first | (refine wpAnyH_take (i := 2) (v := ?_) rfl (by kernel_rfl) (by kernel_rfl) (by kernel_rfl) (fun _ _ _ h => h) (Or.inl ⟨by rfl, ?_⟩) (by assumption) ?_; rotate_left; (intro X hSw; (try dsimp only at hSw); go_simp; (try with_reducible rfl)); (try simp only [Act.put, List.setIfInBounds_toArray, List.set_cons_zero, List.set_cons_succ, List.getElem_toArray, List.getElem_cons_zero, List.getElem_cons_succ])) | fail "take 2"
        first | (refine wpAnyH_take (i := 3) (v := ?_) rfl (by kernel_rfl) (by kernel_rfl) (by kernel_rfl) (fun _ _ _ h => h) (Or.inl ⟨by rfl, ?_⟩) (by assumption) ?_; rotate_left; (intro X hSw; (try dsimp only at hSw); go_simp; (try with_reducible rfl)); (try simp only [Act.put, List.setIfInBounds_toArray, List.set_cons_zero, List.set_cons_succ, List.getElem_toArray, List.getElem_cons_zero, List.getElem_cons_succ])) | fail "take 3"
        first | (refine wpAnyH_take (i := 4) (v := ?_) rfl (by kernel_rfl) (by kernel_rfl) (by kernel_rfl) (fun _ _ _ h => h) (Or.inl ⟨by rfl, ?_⟩) (by assumption) ?_; rotate_left; (intro X hSw; (try dsimp only at hSw); go_simp; (try with_reducible rfl)); (try simp only [Act.put, List.setIfInBounds_toArray, List.set_cons_zero, List.set_cons_succ, List.getElem_toArray, List.getElem_cons_zero, List.getElem_cons_succ])) | fail "take 4"
        first | (refine wpAnyH_take (i := 5) (v := ?_) rfl (by kernel_rfl) (by kernel_rfl) (by kernel_rfl) (fun _ _ _ h => h) (Or.inl ⟨by rfl, ?_⟩) (by assumption) ?_; rotate_left; (intro X hSw; (try dsimp only at hSw); go_simp; (try with_reducible rfl)); (try simp only [Act.put, List.setIfInBounds_toArray, List.set_cons_zero, List.set_cons_succ, List.getElem_toArray, List.getElem_cons_zero, List.getElem_cons_succ])) | fail "take 5"
        first | (refine wpAnyH_take (i := 6) (v := ?_) rfl (by kernel_rfl) (by kernel_rfl) (by kernel_rfl) (fun _ _ _ h => h) (Or.inl ⟨by rfl, ?_⟩) (by assumption) ?_; rotate_left; (intro X hSw; (try dsimp only at hSw); go_simp; (try with_reducible rfl)); (try simp only [Act.put, List.setIfInBounds_toArray, List.set_cons_zero, List.set_cons_succ, List.getElem_toArray, List.getElem_cons_zero, List.getElem_cons_succ])) | fail "take 6"
        first | (refine wpAnyH_take (i := 7) (v := ?_) rfl (by kernel_rfl) (by kernel_rfl) (by kernel_rfl) (fun _ _ _ h => h) (Or.inl ⟨by rfl, ?_⟩) (by assumption) ?_; rotate_left; (intro X hSw; (try dsimp only at hSw); go_simp; (try with_reducible rfl)); (try simp only [Act.put, List.setIfInBounds_toArray, List.set_cons_zero, List.set_cons_succ, List.getElem_toArray, List.getElem_cons_zero, List.getElem_cons_succ])) | fail "take 7"
        first | (refine wpAnyH_take (i := 8) (v := ?_) rfl (by kernel_rfl) (by kernel_rfl) (by kernel_rfl) (fun _ _ _ h => h) (Or.inl ⟨by rfl, ?_⟩) (by assumption) ?_; rotate_left; (intro X hSw; (try dsimp only at hSw); go_simp; (try with_reducible rfl)); (try simp only [Act.put, List.setIfInBounds_toArray, List.set_cons_zero, List.set_cons_succ, List.getElem_toArray, List.getElem_cons_zero, List.getElem_cons_succ])) | fail "take 8"
        first | (refine wpAnyH_take (i := 9) (v := ?_) rfl (by kernel_rfl) (by kernel_rfl) (by kernel_rfl) (fun _ _ _ h => h) (Or.inl ⟨by rfl, ?_⟩) (by assumption) ?_; rotate_left; (intro X hSw; (try dsimp only at hSw); go_simp; (try with_reducible rfl)); (try simp only [Act.put, List.setIfInBounds_toArray, List.set_cons_zero, List.set_cons_succ, List.getElem_toArray, List.getElem_cons_zero, List.getElem_cons_succ])) | fail "take 9"
        first | (refine wpAnyH_take (i := 10) (v := ?_) rfl (by kernel_rfl) (by kernel_rfl) (by kernel_rfl) (fun _ _ _ h => h) (Or.inl ⟨by rfl, ?_⟩) (by assumption) ?_; rotate_left; (intro X hSw; (try dsimp only at hSw); go_simp; (try with_reducible rfl)); (try simp only [Act.put, List.setIfInBounds_toArray, List.set_cons_zero, List.set_cons_succ, List.getElem_toArray, List.getElem_cons_zero, List.getElem_cons_succ])) | fail "take 10"
        refine wpAnyH_done (by kernel_rfl) ?_ _
        obtain ⟨W2, hW2⟩ : ∃ W2, W2 = w1.drew := ⟨_, rfl⟩
        have HN2 := Lib.hid (show Nums .i64 W2 ca cn cc C from by rw [hW2, hca]; exact HN1.out)
        have HB2 := Lib.hid (show Below w.heap.size w W2 from by rw [hW2]; exact HB1.out.drew)
        rw [← hW2, ← hca]
        clear hW2 hca hfirst hlast hw1 hw2 hKn hKn2 hkK hHeld HN1 HB1
        go_wp2_with fail
        go_loopw [9, 10, 11] (fun av sv i wr => ∃ j : Nat, j ≤ n ∧ av = .int .i64 (Agg.aloneTo nn l j 0) ∧ sv = .int .i64 (sp + Agg.sharedTo nn l j 0) ∧ i = .int .i64 j ∧ Hid (Nums .i64 wr ca cn cc C) ∧ Hid (Below w.heap.size w wr)) (fun _ _ i _ => n - (intOf i).toNat)
        case atStart => exact ⟨0, Nat.zero_le _, by simp [Agg.aloneTo], by first | (simp [Agg.sharedTo, Agg.sliceSum]; done) | rw [HE0.out], rfl, HN2, HB2⟩
        case round =>
          obtain ⟨j, hj, rfl, rfl, rfl, hcu, hw⟩ := hrel
          clear HN2 HB2
          by_cases hlt : j < n
          · rcases id H0.out.2.2.2 with h4 | ⟨bk, off, rfl, hbl, hcs⟩
            · omega
            · have hcs2 := hcs j hlt
              clear hcs
              have hjl : j < l.length := by have := HLL.out; omega
              have hj8 : j < 8 := by have := Agg.qrysOk_len HQL.out; omega
              have hqo := Agg.qrysOk_at HQL.out hjl
              have HST1 := Lib.hid (fun t (ht : t < Agg.winsN nn (qryAt l j)) => Agg.hits_cut (n := nn) HQL.out hjl ht)
              have HAN := Lib.hid (Agg.aloneTo_next nn l j)
              have HSN := Lib.hid (Agg.sharedTo_next nn l j)
              have HAS := Lib.hid (fun i => Agg.aloneTo_step nn l j i)
              have HSS := Lib.hid (fun i => Agg.sharedTo_step nn l j i)
              have HAB := Lib.hid (fun i => Agg.alone_bound HQL.out hnn j (by omega) i)
              have HSB := Lib.hid (fun i (hi : i ≤ Agg.winsN nn (qryAt l j)) => Agg.shared_bound HQL.out hnn j (by omega) i (.inl ⟨hjl, hi⟩))
              have hwlt := Agg.wins_lt (n := nn) hqo
              have hM60 := (Agg.wins_cast hqo hnn).2
              obtain ⟨hqx, hqy, hS1, hS2, hH1, hH2⟩ := Agg.q_cast hqo
              obtain ⟨S, hS⟩ : ∃ S, S = Agg.qS (qryAt l j) := ⟨_, rfl⟩
              obtain ⟨H, hH⟩ : ∃ H, H = Agg.qH (qryAt l j) := ⟨_, rfl⟩
              rw [← hS, ← hH] at HST1 hwlt HSS
              rw [← hS] at hqx hS1 hS2
              rw [← hH] at hqy hH1 hH2
              have hqe : qryAt l j = ((S : Int), (H : Int)) := Prod.ext hqx.symm hqy.symm
              have hel : l[j]?.getD (0, 0) = ((S : Int), (H : Int)) := hqe
              rw [hel] at hcs2
              rw [← hqx] at HAS
              simp only at hcs2
              have HCS := Lib.hid (fun X (hX : Below w.heap.size w X) => And.intro ((hX.cell (p := ⟨bk, off + j * 2, none⟩) hbl).trans hcs2.1) ((hX.cell (p := ⟨bk, off + j * 2 + 1, none⟩) hbl).trans hcs2.2))
              obtain ⟨M, hM⟩ : ∃ M, M = Agg.winsN nn (qryAt l j) := ⟨_, rfl⟩
              rw [← hM] at HST1 HAN HSN HSB hwlt hM60
              have HWL := Lib.hid hwlt
              have hk0 : (0 : Int) ≤ (j : Int) := Int.natCast_nonneg _
              have hkn : (j : Int) < (n : Int) := by omega
              clear hqx hqy hqe hel hqo hwlt hM hS hH hcs2 hjl
              go_wp2_with fail
              go_loopw [9, 10, 12] (fun av sv i wx => ∃ t at_ : Nat, t ≤ M ∧ at_ = t * H ∧ at_ ≤ nn + 60 ∧ av = .int .i64 (Agg.aloneTo nn l j t) ∧ sv = .int .i64 (sp + Agg.sharedTo nn l j t) ∧ i = .int .i64 at_ ∧ Hid (Nums .i64 wx ca cn cc C) ∧ Hid (Below w.heap.size w wx)) (fun _ _ i _ => nn + 61 - (intOf i).toNat)
              case atStart => exact ⟨0, 0, Nat.zero_le _, by simp, Nat.zero_le _, rfl, rfl, rfl, hcu, hw⟩
              case round =>
                obtain ⟨t, A, ht, hA, hA60, rfl, rfl, rfl, hc2, hw2⟩ := hrel
                obtain ⟨hck, hcl⟩ := HCS.out _ hw2.out
                have HA := Lib.hid hA
                have hk1 : (0 : Int) ≤ (A : Int) := Int.natCast_nonneg _
                by_cases htm : t < M
                · have hle := (HWL.out t).1 htm
                  obtain ⟨hcf, hct⟩ := HST1.out t htm
                  have hs1 := Agg.cut_stands hcf (show t * H ≤ nn by omega)
                  have hs2 := Agg.cut_stands hct hle
                  rw [← HCE.out] at hs1 hs2
                  have hss := HSS.out t
                  have has := HAS.out t
                  have hab := HAB.out t
                  have hsb1 := HSB.out t (by omega)
                  have hi1 := Agg.cutIx_le nn l (t * H)
                  have hi2 := Agg.cutIx_le nn l (t * H + S)
                  obtain ⟨m1, hm1⟩ : ∃ x, x = Agg.cutIx nn l (t * H) := ⟨_, rfl⟩
                  obtain ⟨m2, hm2⟩ : ∃ x, x = Agg.cutIx nn l (t * H + S) := ⟨_, rfl⟩
                  rw [← hm1] at hs1 hss hi1
                  rw [← hm2] at hs2 hss hi2
                  rw [← hA] at hle hs1 hs2 hi1 hi2
                  obtain ⟨T, hT⟩ : ∃ T, T = A + S := ⟨_, rfl⟩
                  rw [← hT] at hle hs2 hi2
                  have hTI : (A : Int) + (S : Int) = (T : Int) := by omega
                  have hw1 : IntKind.i64.wrap ((A : Int) + (S : Int)) = (T : Int) := by rw [hTI]; exact IntWalk.i64_in _ ⟨by omega, by omega⟩
                  have hw6 : IntKind.i64.wrap ((A : Int) + (H : Int)) = (A : Int) + (H : Int) := IntWalk.i64_in _ ⟨by omega, by omega⟩
                  have hleI : (T : Int) ≤ (nn : Int) := by omega
                  have hAT : A ≤ nn := by omega
                  obtain ⟨A0, hA0⟩ : ∃ x, x = Agg.aloneTo nn l j t := ⟨_, rfl⟩
                  obtain ⟨B0, hB0⟩ : ∃ x, x = Agg.sharedTo nn l j t := ⟨_, rfl⟩
                  rw [← hA0] at has hab ⊢
                  rw [← hB0] at hss hsb1 ⊢
                  have HSS1 := Lib.hid hss
                  have HAS1 := Lib.hid has
                  have hspb := HSP.out
                  have hw3 : IntKind.i64.wrap (A0 + (S : Int)) = A0 + (S : Int) := IntWalk.i64_in _ ⟨by omega, by omega⟩
                  have hw4 : IntKind.i64.wrap (sp + B0 + (m2 : Int)) = sp + B0 + (m2 : Int) := IntWalk.i64_in _ ⟨by omega, by omega⟩
                  have hw5 : IntKind.i64.wrap (sp + B0 + (m2 : Int) - (m1 : Int)) = sp + B0 + (m2 : Int) - (m1 : Int) := IntWalk.i64_in _ ⟨by omega, by omega⟩
                  have HX1 := Lib.hid (fun X (hX : Nums .i64 X ca cn cc C) => s_l9Index_any ca cn cc C (A : Int) m1 X hX hs1)
                  have HX2 := Lib.hid (fun X (hX : Nums .i64 X ca cn cc C) => s_l9Index_any ca cn cc C (T : Int) m2 X hX hs2)
                  clear hle hcf hct hs1 hs2 hss has hab hsb1 hi1 hi2 hm1 hm2 hA hT hTI hA0 hB0 hspb
                  go_wp2_with fail
                  refine (HX2.out _ hc2.out).mono ?_
                  rintro e w10 ⟨rfl, hb10⟩
                  have HC10 := Lib.hid (hc2.out.below hb10)
                  have HB10 := Lib.hid (hw2.out.trans (hb10.mono hw2.out.size))
                  clear hb10 hck hcl
                  obtain ⟨hck, hcl⟩ := HCS.out _ HB10.out
                  go_wp2_with fail
                  refine (HX1.out _ HC10.out).mono ?_
                  rintro e w11 ⟨rfl, hb11⟩
                  have HC11 := Lib.hid (HC10.out.below hb11)
                  have HB11 := Lib.hid (HB10.out.trans (hb11.mono HB10.out.size))
                  clear hb11 hck hcl
                  obtain ⟨hck, hcl⟩ := HCS.out _ HB11.out
                  go_wp2_with fail
                  go_roundw
                  case rel => exact ⟨t + 1, A + H, by omega, by rw [HA.out, Nat.add_mul, Nat.one_mul], by omega, by rw [HAS1.out], by rw [HSS1.out, ← Int.add_assoc, ← Int.add_sub_assoc], by go_num, HC11, HB11⟩
                  case measure => simp [intOf]; omega
                · have hle : ¬ (t * H + S ≤ nn) := fun hh => htm ((HWL.out t).2 hh)
                  rw [← hA] at hle
                  have hw1 : IntKind.i64.wrap ((A : Int) + (S : Int)) = (A : Int) + (S : Int) := IntWalk.i64_in _ ⟨by omega, by omega⟩
                  have hleI : ¬ ((A : Int) + (S : Int) ≤ (nn : Int)) := by omega
                  have htM : t = M := by omega
                  have HTM := Lib.hid htM
                  clear hA hle htm htM
                  go_wp2_with fail
                  go_roundw
                  case rel => first | exact ⟨j + 1, by omega, by rw [HAN.out, HTM.out], by rw [HSN.out, HTM.out], by go_num, hc2, hw2⟩ | exact ⟨_, _, _, _, _, _, _, ⟨j + 1, by omega, by rw [HAN.out, HTM.out], by rw [HSN.out, HTM.out], by go_num⟩, rfl, rfl, rfl, rfl, rfl, rfl, rfl⟩
                  case measure => simp [intOf]; omega
          · have hjn : j = n := by omega
            have HRA := Lib.hid (show r1 = Agg.aloneTo nn l j 0 from by rw [hjn, ← HLL.out]; exact HR1.out)
            have HRB := Lib.hid (show r2 = sp + Agg.sharedTo nn l j 0 from by rw [hjn, ← HLL.out]; exact HR2.out)
            have hlt' : ¬ (j : Int) < (n : Int) := by omega
            clear hjn
            go_wp2_with fail
            go_returns
            exact ⟨by rw [HRA.out, HRB.out]; rfl, hw.out⟩
end Go.Proofs.Ytofpnmjadflebaa
