/-
  The costs of shared windows, in the program.
-/
import Derived.Test.Ytofpnmjadflebaa9l
import Derived.Test.Ytofpnmjadflebaa9o
import Derived.Test.Ytofpnmjadflebaa9r
import Derived.Deep.DeepMust
namespace Go.Proofs.Ytofpnmjadflebaa
set_option linter.unusedSimpArgs false
set_option linter.unusedVariables false
open Go.RowKit
set_option maxRecDepth 8000 in
set_option maxHeartbeats 4000000 in
theorem sharedCosts_any (a : Option Addr) (n cap : Nat) (l : List (Int × Int)) (m : Int) (w : World) (h : Qrs w a n cap l) :
    Calls Try.prog 22 #[.slice a n cap, .int .i64 m] w fun e w' => e = .returned (.tuple #[.int .i64 (Agg.sharedA m l).1, .int .i64 (Agg.sharedA m l).2, .bool (Agg.cutsOk m l)]) ∧ Below w.heap.size w w' := by
  have hll : l.length = n := h.1
  have hnc : n ≤ cap := h.2.1
  have hcm : cap ≤ 9223372036854775807 := by have := h.2.2.1; unfold maxLen at this; omega
  have H0 := Lib.hid h
  have HLL := Lib.hid hll
  have HC := Lib.hid (cutsOf_any a n cap l m w h)
  obtain ⟨ok, hok⟩ : ∃ ok, ok = Agg.cutsOk m l := ⟨_, rfl⟩
  obtain ⟨C, hC⟩ : ∃ C, C = Agg.cutsOut m l := ⟨_, rfl⟩
  obtain ⟨⟨r1, r2⟩, hr⟩ : ∃ r, r = Agg.sharedA m l := ⟨_, rfl⟩
  rw [← hok, ← hC] at HC
  rw [← hok, ← hr]
  have HOK := Lib.hid hok
  have HCC := Lib.hid hC
  have HRR := Lib.hid hr
  clear h hll hok hC hr
  go_enter Try.func22, Try.ntmps22
  go_wp2_with fail
  refine HC.out.mono ?_
  rintro e w1 ⟨v1, cn, rfl, ho1, hb1⟩
  obtain ⟨ca, cc, rfl, hN1, hlc⟩ := ho1.nums
  have HN1 := Lib.hid hN1
  have HB1 := Lib.hid hb1
  clear ho1 hb1 HC
  cases ok
  · have hrz := HRR.out
    rw [Agg.sharedA, ← HOK.out] at hrz
    simp only [Bool.false_eq_true, if_false, Prod.mk.injEq] at hrz
    obtain ⟨rfl, rfl⟩ := hrz
    go_wp2_with fail
    go_returns
    exact ⟨rfl, HB1.out⟩
  · have hok2 := HOK.out.symm
    simp only [Agg.cutsOk, Bool.and_eq_true, decide_eq_true_eq] at hok2
    obtain ⟨hql, hm0, hm60⟩ := hok2
    obtain ⟨nn, rfl⟩ := Int.eq_ofNat_of_zero_le hm0
    have hnn : nn ≤ 60 := by omega
    have hCe : C = Agg.cutsN nn l := by rw [HCC.out, Agg.cutsOut, ← HOK.out]; rfl
    have hre := HRR.out
    rw [Agg.sharedA, ← HOK.out] at hre
    simp only [if_true, Int.toNat_natCast, Prod.mk.injEq] at hre
    rw [← hCe] at hre
    obtain ⟨hr1, hr2⟩ := hre
    have HQL := Lib.hid hql
    have hcn : C.length = cn := hN1.1
    have hcnc : cn ≤ cc := hN1.2.1
    have hccm : cc ≤ 9223372036854775807 := by have := hN1.2.2.1; unfold maxLen at this; omega
    have hcn61 : cn ≤ 61 := by rw [← hcn, hCe]; have := Agg.cutsN_len nn l; omega
    have HCE := Lib.hid hCe
    have HCN := Lib.hid hcn
    by_cases hc0 : cn = 0
    · have hz := Agg.no_costs hql (by rw [← hCe]; omega) l.length (Nat.le_refl _)
      have e1 : r1 = 0 := by rw [hr1, hz.1]
      have e2 : r2 = 0 := by rw [hr2, hz.2, Agg.cutsSpan, if_pos (by omega)]; rfl
      subst e1 e2
      subst hc0
      clear hr1 hr2 hql hCe hcn hN1 hz hm0 hm60
      go_wp2_with fail
      go_returns
      exact ⟨rfl, HB1.out⟩
    · have hpos : 0 < cn := by omega
      rcases id HN1.out.2.2.2 with h4 | ⟨cb, coff, rfl, hcb, hcs⟩
      · omega
      · obtain ⟨K, hK⟩ : ∃ K, cn = K + 1 := ⟨cn - 1, by omega⟩
        have hfirst := hcs 0 hpos
        have hlast := hcs K (by omega)
        have hbf := Agg.cutsN_items (n := nn) (l := l) 0 (by rw [← hCe]; omega)
        have hbl := Agg.cutsN_items (n := nn) (l := l) K (by rw [← hCe]; omega)
        rw [← hCe] at hbf hbl
        have hsp : Agg.cutsSpan C = C[K]?.getD 0 - C[0]?.getD 0 := by
          rw [Agg.cutsSpan, if_neg (by omega), show C.length - 1 = K by omega]
        obtain ⟨cF, hcF⟩ : ∃ x, x = C[0]?.getD 0 := ⟨_, rfl⟩
        obtain ⟨cL, hcL⟩ : ∃ x, x = C[K]?.getD 0 := ⟨_, rfl⟩
        rw [← hcF] at hfirst hbf hsp
        rw [← hcL] at hlast hbl hsp
        rw [Nat.add_zero] at hfirst
        obtain ⟨sp, hspv⟩ : ∃ sp, sp = cL - cF := ⟨_, rfl⟩
        rw [hsp, ← hspv] at hr2
        have hspb : -60 ≤ sp ∧ sp ≤ 60 := by omega
        have hKI : (cn : Int) - 1 = (K : Int) := by omega
        have hw1 : IntKind.i64.wrap ((cn : Int) - 1) = (K : Int) := by rw [hKI]; exact IntWalk.i64_in _ ⟨by omega, by omega⟩
        have hw2 : IntKind.i64.wrap (cL - cF) = sp := by rw [← hspv]; exact IntWalk.i64_in _ ⟨by omega, by omega⟩
        have hkK : (0 : Int) ≤ (K : Int) := Int.natCast_nonneg _
        have hKn : (K : Int) < (cn : Int) := by omega
        have hKn2 : K < cn := by omega
        have hposI : (0 : Int) < (cn : Int) := by omega
        have hne0 : ¬ (cn : Int) = 0 := by omega
        have HR1 := Lib.hid hr1
        have HR2 := Lib.hid hr2
        have HSP := Lib.hid hspb
        clear hr1 hr2 hql hCe hcn hN1 hcs hbf hbl hsp hcF hcL hspv hspb hKI hK hm0 hm60
        go_wp2_with fail
        refine wp_region_held_drew (S := (fun X => X.cell? ⟨cb, coff + K, none⟩ = some (.int .i64 cL) ∧ X.cell? ⟨cb, coff, none⟩ = some (.int .i64 cF))) (by kernel_rfl) (by exact ⟨by assumption, by assumption⟩) (fun hHeld => ?_)
        first | (refine wpAnyH_take (i := 0) (v := ?_) rfl (by kernel_rfl) (by kernel_rfl) (by kernel_rfl) (fun _ _ _ h => h) (Or.inl ⟨by rfl, ?_⟩) (by assumption) ?_; rotate_left; (intro X hSw; (try dsimp only at hSw); go_simp; (try with_reducible rfl)); (try simp only [Act.put, List.setIfInBounds_toArray, List.set_cons_zero, List.set_cons_succ, List.getElem_toArray, List.getElem_cons_zero, List.getElem_cons_succ])) | fail "take 0"
        first | (refine wpAnyH_take (i := 1) (v := ?_) rfl (by kernel_rfl) (by kernel_rfl) (by kernel_rfl) (fun _ _ _ h => h) (Or.inl ⟨by rfl, ?_⟩) (by assumption) ?_; rotate_left; (intro X hSw; (try dsimp only at hSw); go_simp; (try with_reducible rfl)); (try simp only [Act.put, List.setIfInBounds_toArray, List.set_cons_zero, List.set_cons_succ, List.getElem_toArray, List.getElem_cons_zero, List.getElem_cons_succ])) | fail "take 1"
        first | (refine wpAnyH_take (i := 2) (v := ?_) rfl (by kernel_rfl) (by kernel_rfl) (by kernel_rfl) (fun _ _ _ h => h) (Or.inl ⟨by rfl, ?_⟩) (by assumption) ?_; rotate_left; (intro X hSw; (try dsimp only at hSw); go_simp; (try with_reducible rfl)); (try simp only [Act.put, List.setIfInBounds_toArray, List.set_cons_zero, List.set_cons_succ, List.getElem_toArray, List.getElem_cons_zero, List.getElem_cons_succ])) | fail "take 2"
        first | (refine wpAnyH_take (i := 3) (v := ?_) rfl (by kernel_rfl) (by kernel_rfl) (by kernel_rfl) (fun _ _ _ h => h) (Or.inl ⟨by rfl, ?_⟩) (by assumption) ?_; rotate_left; (intro X hSw; (try dsimp only at hSw); go_simp; (try with_reducible rfl)); (try simp only [Act.put, List.setIfInBounds_toArray, List.set_cons_zero, List.set_cons_succ, List.getElem_toArray, List.getElem_cons_zero, List.getElem_cons_succ])) | fail "take 3"
        first | (refine wpAnyH_take (i := 4) (v := ?_) rfl (by kernel_rfl) (by kernel_rfl) (by kernel_rfl) (fun _ _ _ h => h) (Or.inl ⟨by rfl, ?_⟩) (by assumption) ?_; rotate_left; (intro X hSw; (try dsimp only at hSw); go_simp; (try with_reducible rfl)); (try simp only [Act.put, List.setIfInBounds_toArray, List.set_cons_zero, List.set_cons_succ, List.getElem_toArray, List.getElem_cons_zero, List.getElem_cons_succ])) | fail "take 4"
        first | (refine wpAnyH_take (i := 5) (v := ?_) rfl (by kernel_rfl) (by kernel_rfl) (by kernel_rfl) (fun _ _ _ h => h) (Or.inl ⟨by rfl, ?_⟩) (by assumption) ?_; rotate_left; (intro X hSw; (try dsimp only at hSw); go_simp; (try with_reducible rfl)); (try simp only [Act.put, List.setIfInBounds_toArray, List.set_cons_zero, List.set_cons_succ, List.getElem_toArray, List.getElem_cons_zero, List.getElem_cons_succ])) | fail "take 5"
        first | (refine wpAnyH_take (i := 6) (v := ?_) rfl (by kernel_rfl) (by kernel_rfl) (by kernel_rfl) (fun _ _ _ h => h) (Or.inl ⟨by rfl, ?_⟩) (by assumption) ?_; rotate_left; (intro X hSw; (try dsimp only at hSw); go_simp; (try with_reducible rfl)); (try simp only [Act.put, List.setIfInBounds_toArray, List.set_cons_zero, List.set_cons_succ, List.getElem_toArray, List.getElem_cons_zero, List.getElem_cons_succ])) | fail "take 6"
        first | (refine wpAnyH_take (i := 7) (v := ?_) rfl (by kernel_rfl) (by kernel_rfl) (by kernel_rfl) (fun _ _ _ h => h) (Or.inl ⟨by rfl, ?_⟩) (by assumption) ?_; rotate_left; (intro X hSw; (try dsimp only at hSw); go_simp; (try with_reducible rfl)); (try simp only [Act.put, List.setIfInBounds_toArray, List.set_cons_zero, List.set_cons_succ, List.getElem_toArray, List.getElem_cons_zero, List.getElem_cons_succ])) | fail "take 7"
        first | (refine wpAnyH_take (i := 8) (v := ?_) rfl (by kernel_rfl) (by kernel_rfl) (by kernel_rfl) (fun _ _ _ h => h) (Or.inl ⟨by rfl, ?_⟩) (by assumption) ?_; rotate_left; (intro X hSw; (try dsimp only at hSw); go_simp; (try with_reducible rfl)); (try simp only [Act.put, List.setIfInBounds_toArray, List.set_cons_zero, List.set_cons_succ, List.getElem_toArray, List.getElem_cons_zero, List.getElem_cons_succ])) | fail "take 8"
        first | (refine wpAnyH_take (i := 9) (v := ?_) rfl (by kernel_rfl) (by kernel_rfl) (by kernel_rfl) (fun _ _ _ h => h) (Or.inl ⟨by rfl, ?_⟩) (by assumption) ?_; rotate_left; (intro X hSw; (try dsimp only at hSw); go_simp; (try with_reducible rfl)); (try simp only [Act.put, List.setIfInBounds_toArray, List.set_cons_zero, List.set_cons_succ, List.getElem_toArray, List.getElem_cons_zero, List.getElem_cons_succ])) | fail "take 9"
        first | (refine wpAnyH_take (i := 10) (v := ?_) rfl (by kernel_rfl) (by kernel_rfl) (by kernel_rfl) (fun _ _ _ h => h) (Or.inl ⟨by rfl, ?_⟩) (by assumption) ?_; rotate_left; (intro X hSw; (try dsimp only at hSw); go_simp; (try with_reducible rfl)); (try simp only [Act.put, List.setIfInBounds_toArray, List.set_cons_zero, List.set_cons_succ, List.getElem_toArray, List.getElem_cons_zero, List.getElem_cons_succ])) | fail "take 10"
        first | (refine wpAnyH_take (i := 11) (v := ?_) rfl (by kernel_rfl) (by kernel_rfl) (by kernel_rfl) (fun _ _ _ h => h) (Or.inl ⟨by rfl, ?_⟩) (by assumption) ?_; rotate_left; (intro X hSw; (try dsimp only at hSw); go_simp; (try with_reducible rfl)); (try simp only [Act.put, List.setIfInBounds_toArray, List.set_cons_zero, List.set_cons_succ, List.getElem_toArray, List.getElem_cons_zero, List.getElem_cons_succ])) | fail "take 11"
        refine wpAnyH_done (by kernel_rfl) ?_ _
        obtain ⟨W2, hW2⟩ : ∃ W2, W2 = w1.drew := ⟨_, rfl⟩
        have HN2 := Lib.hid (show Nums .i64 W2 (some ⟨cb, coff, none⟩) cn cc C from by rw [hW2]; exact HN1.out)
        have HB2 := Lib.hid (show Below w.heap.size w W2 from by rw [hW2]; exact HB1.out.drew)
        rw [← hW2]
        clear hW2 hfirst hlast hw1 hw2 hKn hKn2 hkK hHeld HN1 HB1
        go_wp2_with fail
        go_loopw [9, 10, 40] (fun av sv i wr => ∃ j : Nat, j ≤ n ∧ av = .int .i64 (Agg.aloneTo nn l j 0) ∧ sv = .int .i64 (sp + Agg.sharedTo nn l j 0) ∧ i = .int .i64 j ∧ Hid (Nums .i64 wr (some ⟨cb, coff, none⟩) cn cc C) ∧ Hid (Below w.heap.size w wr)) (fun _ _ i _ => n - (intOf i).toNat)
        case atStart => exact ⟨0, Nat.zero_le _, by simp [Agg.aloneTo], by simp [Agg.sharedTo, Agg.sliceSum], rfl, HN2, HB2⟩
        case round =>
          obtain ⟨j, hj, rfl, rfl, rfl, hcu, hw⟩ := hrel
          clear HN2 HB2
          by_cases hlt : j < n
          · rcases id H0.out.2.2.2 with h4 | ⟨bk, off, rfl, hbl, hcs⟩
            · omega
            · have hck := (hw.out.cell (p := ⟨bk, off + j * 2, none⟩) hbl).trans (hcs j hlt).1
              have hcl := (hw.out.cell (p := ⟨bk, off + j * 2 + 1, none⟩) hbl).trans (hcs j hlt).2
              clear hcs
              have hjl : j < l.length := by have := HLL.out; omega
              have hj8 : j < 8 := by have := Agg.qrysOk_len HQL.out; omega
              have hqo := Agg.qrysOk_at HQL.out hjl
              have HST1 := Lib.hid (fun t (ht : t < Agg.winsN nn (qryAt l j)) => Agg.hits_cut (n := nn) HQL.out hjl ht)
              have HAN := Lib.hid (Agg.aloneTo_next nn l j)
              have HSN := Lib.hid (Agg.sharedTo_next nn l j)
              have HAS := Lib.hid (fun i => Agg.aloneTo_step nn l j i)
              have HSS := Lib.hid (fun i => Agg.sharedTo_step nn l j i)
              have HAB := Lib.hid (fun i => Agg.alone_bound HQL.out hnn j (by omega) i)
              have HSB := Lib.hid (fun i (hi : i ≤ Agg.winsN nn (qryAt l j)) => Agg.shared_bound HQL.out hnn j (by omega) i (.inl ⟨hjl, hi⟩))
              have hwlt := Agg.wins_lt (n := nn) hqo
              have hM60 := (Agg.wins_cast hqo hnn).2
              obtain ⟨hqx, hqy, hS1, hS2, hH1, hH2⟩ := Agg.q_cast hqo
              obtain ⟨S, hS⟩ : ∃ S, S = Agg.qS (qryAt l j) := ⟨_, rfl⟩
              obtain ⟨H, hH⟩ : ∃ H, H = Agg.qH (qryAt l j) := ⟨_, rfl⟩
              rw [← hS, ← hH] at HST1 hwlt HSS
              rw [← hS] at hqx hS1 hS2
              rw [← hH] at hqy hH1 hH2
              have hqe : qryAt l j = ((S : Int), (H : Int)) := Prod.ext hqx.symm hqy.symm
              have hel : l[j]?.getD (0, 0) = ((S : Int), (H : Int)) := hqe
              rw [hel] at hck hcl
              rw [← hqx] at HAS
              rw [hqe] at HST1 HAN HSN HSB hwlt hqo hM60
              simp only at hck hcl
              have HSPN := Lib.hid (fun w => spansOf_any S H nn hqo hnn w)
              have hsa := fun i hi => spansI_at ((S : Int), (H : Int)) (j := Agg.winsN nn ((S : Int), (H : Int))) (i := i) hi
              simp only [Agg.qS, Agg.qH, Int.toNat_natCast] at hsa
              obtain ⟨M, hM⟩ : ∃ M, M = Agg.winsN nn ((S : Int), (H : Int)) := ⟨_, rfl⟩
              rw [← hM] at HST1 HAN HSN HSB hwlt HSPN hsa hM60
              have HWL := Lib.hid hwlt
              have HSA := Lib.hid hsa
              have hk0 : (0 : Int) ≤ (j : Int) := Int.natCast_nonneg _
              have hkn : (j : Int) < (n : Int) := by omega
              obtain ⟨W5, hW5⟩ : ∃ W5, W5 = wr.alloc (.cells #[.int .i64 (S : Int), .int .i64 (H : Int)] 28) := ⟨_, rfl⟩
              have hbn : Below wr.heap.size wr W5 := by rw [hW5]; exact (Below.refl _ _).alloc (Nat.le_refl _) _
              have HX5 := Lib.hid (show Box2h W5 wr.heap.size 28 (S : Int) (H : Int) from by rw [hW5]; exact Box2h.new _ _ _ _)
              have HC5 := Lib.hid (hcu.out.below hbn)
              have HB5 := Lib.hid (hw.out.trans (hbn.mono hw.out.size))
              obtain ⟨bx, hbx⟩ : ∃ bx, bx = wr.heap.size := ⟨_, rfl⟩
              rw [← hbx] at HX5
              clear hbn hqx hqy hqe hel hqo hwlt hsa hM hS hH hjl
              go_upto_region 10 with (fail)
              rw [← hW5, ← hbx]
              clear hW5 hck hcl hbx
              obtain ⟨q0, q1⟩ := HX5.out.cells
              go_wp2_with fail
              refine (HSPN.out _).mono ?_
              rintro e w6 ⟨v6, rfl, ho6, hb6⟩
              obtain ⟨sa, sc, rfl, hread⟩ := own_read ho6
              have HREAD := Lib.hid hread
              have HX6 := Lib.hid (HX5.out.call hb6)
              have HC6 := Lib.hid (HC5.out.below hb6)
              have HB6 := Lib.hid (HB5.out.trans (hb6.mono HB5.out.size))
              have hsc := (hread _ (Kept.refl _ _)).2.2.1
              have hMsc := (hread _ (Kept.refl _ _)).2.1
              unfold maxLen at hsc
              have HK6 := Lib.hid (Kept.refl W5.heap.size w6)
              clear hb6 ho6 hread q0 q1 HX5 HC5 HB5 HSPN
              go_wp2_with fail
              go_loopw [9, 10, 48] (fun av sv i wx => ∃ t : Nat, t ≤ M ∧ av = .int .i64 (Agg.aloneTo nn l j t) ∧ sv = .int .i64 (sp + Agg.sharedTo nn l j t) ∧ i = .int .i64 t ∧ Hid (Box2h wx bx 28 (S : Int) (H : Int)) ∧ Hid (Nums .i64 wx (some ⟨cb, coff, none⟩) cn cc C) ∧ Hid (Kept W5.heap.size w6 wx) ∧ Hid (Below w.heap.size w wx)) (fun _ _ i _ => M - (intOf i).toNat)
              case atStart => exact ⟨0, Nat.zero_le _, rfl, rfl, rfl, HX6, HC6, HK6, HB6⟩
              case round =>
                obtain ⟨t, ht, rfl, rfl, rfl, hx2, hc2, hk2, hw2⟩ := hrel
                clear HX6 HC6 HK6 HB6
                by_cases htm : t < M
                · rcases (HREAD.out _ hk2.out).2.2.2 with h4 | ⟨bs, soff, rfl, hsb, hcs⟩
                  · omega
                  · obtain ⟨p0, p1⟩ := hcs t htm
                    clear hcs
                    rw [HSA.out t htm] at p0 p1
                    simp only at p0 p1
                    have hle := (HWL.out t).1 htm
                    obtain ⟨hcf, hct⟩ := HST1.out t htm
                    have hs1 := Agg.cut_stands hcf (show t * H ≤ nn by omega)
                    have hs2 := Agg.cut_stands hct hle
                    rw [← HCE.out] at hs1 hs2
                    have hss := HSS.out t
                    have has := HAS.out t
                    have hab := HAB.out t
                    have hab2 := HAB.out (t + 1)
                    have hsb1 := HSB.out t (by omega)
                    have hsb2 := HSB.out (t + 1) htm
                    have hi1 := Agg.cutIx_le nn l (t * H)
                    have hi2 := Agg.cutIx_le nn l (t * H + S)
                    obtain ⟨m1, hm1⟩ : ∃ x, x = Agg.cutIx nn l (t * H) := ⟨_, rfl⟩
                    obtain ⟨m2, hm2⟩ : ∃ x, x = Agg.cutIx nn l (t * H + S) := ⟨_, rfl⟩
                    rw [← hm1] at hs1 hss hi1
                    rw [← hm2] at hs2 hss hi2
                    obtain ⟨Pf, hPf⟩ : ∃ Pf, Pf = t * H := ⟨_, rfl⟩
                    obtain ⟨Pt, hPt⟩ : ∃ Pt, Pt = t * H + S := ⟨_, rfl⟩
                    rw [← hPf] at p0 hs1 hi1
                    rw [← hPt] at p1 hle hs2 hi2
                    obtain ⟨A0, hA0⟩ : ∃ x, x = Agg.aloneTo nn l j t := ⟨_, rfl⟩
                    obtain ⟨B0, hB0⟩ : ∃ x, x = Agg.sharedTo nn l j t := ⟨_, rfl⟩
                    rw [← hA0] at has hab ⊢
                    rw [← hB0] at hss hsb1 ⊢
                    have HSS1 := Lib.hid hss
                    have HAS1 := Lib.hid has
                    have hspb := HSP.out
                    have hw3 : IntKind.i64.wrap (A0 + (S : Int)) = A0 + (S : Int) := IntWalk.i64_in _ ⟨by omega, by omega⟩
                    have hw4 : IntKind.i64.wrap ((m2 : Int) - (m1 : Int)) = (m2 : Int) - (m1 : Int) := IntWalk.i64_in _ ⟨by omega, by omega⟩
                    have hw5 : IntKind.i64.wrap (sp + B0 + ((m2 : Int) - (m1 : Int))) = sp + B0 + ((m2 : Int) - (m1 : Int)) := IntWalk.i64_in _ ⟨by omega, by omega⟩
                    have HSL := Lib.hid (fun X (hX : Nums .i64 X (some ⟨cb, coff, none⟩) cn cc C) => slicesIn_any (some ⟨cb, coff, none⟩) cn cc C (Pf : Int) (Pt : Int) m1 m2 (by omega) X hX hs1 hs2)
                    have hk1 : (0 : Int) ≤ (t : Int) := Int.natCast_nonneg _
                    have hkt : (t : Int) < (M : Int) := by omega
                    obtain ⟨W9, hW9⟩ : ∃ W9, W9 = wr.alloc (.cells #[.int .i64 (Pf : Int), .int .i64 (Pt : Int)] 63) := ⟨_, rfl⟩
                    have hbn : Below wr.heap.size wr W9 := by rw [hW9]; exact (Below.refl _ _).alloc (Nat.le_refl _) _
                    have HX9 := Lib.hid (show Box2h W9 wr.heap.size 63 (Pf : Int) (Pt : Int) from by rw [hW9]; exact Box2h.new _ _ _ _)
                    have HQ9 := Lib.hid (hx2.out.call hbn)
                    have HC9 := Lib.hid (hc2.out.below hbn)
                    have HK9 := Lib.hid (hk2.out.call hbn)
                    have HB9 := Lib.hid (hw2.out.trans (hbn.mono hw2.out.size))
                    clear hbn hle hcf hct hs1 hs2 hss has hab hab2 hsb1 hsb2 hi1 hi2 hm1 hm2 hPf hPt hA0 hB0 hspb
                    go_upto_region 13 with (fail)
                    rw [← hW9]
                    clear hW9 p0 p1
                    obtain ⟨q0, q1⟩ := HX9.out.cells
                    go_wp2_with fail
                    refine (HSL.out _ HC9.out).mono ?_
                    rintro e w10 ⟨rfl, hb10⟩
                    have HQ10 := Lib.hid (HQ9.out.call hb10)
                    have HC10 := Lib.hid (HC9.out.below hb10)
                    have HK10 := Lib.hid (HK9.out.call hb10)
                    have HB10 := Lib.hid (HB9.out.trans (hb10.mono HB9.out.size))
                    clear hb10 q0 q1
                    obtain ⟨q0, q1⟩ := HQ10.out.cells
                    go_wp2_with fail
                    go_roundw
                    case rel => exact ⟨t + 1, by omega, by rw [HAS1.out], by rw [HSS1.out, ← Int.add_assoc], by go_num, HQ10, HC10, HK10, HB10⟩
                    case measure => simp [intOf]; omega
                · have htM : t = M := by omega
                  have hlt' : ¬ (t : Int) < (M : Int) := by omega
                  have HTM := Lib.hid htM
                  clear htM
                  go_wp2_with fail
                  go_roundw
                  case rel => first | exact ⟨j + 1, by omega, by rw [HAN.out, HTM.out], by rw [HSN.out, HTM.out], by go_num, hc2, hw2⟩ | exact ⟨_, _, _, _, _, _, _, ⟨j + 1, by omega, by rw [HAN.out, HTM.out], by rw [HSN.out, HTM.out], by go_num⟩, rfl, rfl, rfl, rfl, rfl, rfl, rfl⟩
                  case measure => simp [intOf]; omega
          · have hjn : j = n := by omega
            have HRA := Lib.hid (show r1 = Agg.aloneTo nn l j 0 from by rw [hjn, ← HLL.out]; exact HR1.out)
            have HRB := Lib.hid (show r2 = sp + Agg.sharedTo nn l j 0 from by rw [hjn, ← HLL.out]; exact HR2.out)
            have hlt' : ¬ (j : Int) < (n : Int) := by omega
            clear hjn
            go_wp2_with fail
            go_returns
            exact ⟨by rw [HRA.out, HRB.out]; rfl, hw.out⟩
end Go.Proofs.Ytofpnmjadflebaa
