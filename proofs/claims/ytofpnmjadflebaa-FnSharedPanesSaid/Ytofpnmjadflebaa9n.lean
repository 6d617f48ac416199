/-
  The cuts of queries, in the model.
-/
import Derived.Test.Ytofpnmjadflebaa9f
import Derived.Test.Ytofpnmjadflebaa9k
import Derived.Test.YtofpnmjadflebaaTb
import Derived.Deep.DeepMust
namespace Go.Proofs.Ytofpnmjadflebaa
set_option linter.unusedSimpArgs false
set_option linter.unusedVariables false
open Go.RowKit
/-- The cells of flags. -/
def flagRow (F : Nat → Bool) (N : Nat) : List Value := (List.range N).map fun p => .bool (F p)
theorem flagRow_len (F : Nat → Bool) (N : Nat) : (flagRow F N).length = N := by simp [flagRow]
theorem flagRow_at (F : Nat → Bool) {N p : Nat} (h : p < N) : (flagRow F N)[p]? = some (.bool (F p)) := by simp [flagRow, h]
theorem flagRow_set (F G : Nat → Bool) (N p : Nat) (hG : ∀ x, G x = (F x || p == x)) : (flagRow F N).set p (.bool true) = flagRow G N := by
  apply List.ext_getElem?
  intro x
  rw [List.getElem?_set]
  by_cases hx : x < N
  · rw [flagRow_at G hx, hG]
    by_cases e : p = x
    · subst e
      rw [if_pos rfl, if_pos (by rw [flagRow_len]; exact hx)]
      simp
    · rw [if_neg e, flagRow_at F hx]
      simp [e]
  · have h1 : (flagRow G N)[x]? = none := by rw [List.getElem?_eq_none_iff, flagRow_len]; omega
    have h2 : (flagRow F N)[x]? = none := by rw [List.getElem?_eq_none_iff, flagRow_len]; omega
    rw [h1, h2]
    split
    · split
      · rw [flagRow_len] at *; omega
      · rfl
    · rfl
theorem flagRow_congr {F G : Nat → Bool} (N : Nat) (h : ∀ x, G x = F x) : flagRow F N = flagRow G N := by
  have : F = G := funext fun x => (h x).symm
  rw [this]
theorem made_flags (N : Nat) : (madeCells #[Value.bool false] N).toList = flagRow (fun _ => false) N := by
  apply List.ext_getElem?
  intro x
  by_cases hx : x < N
  · rw [flagRow_at _ hx]
    simp [madeCells, hx, Nat.mod_one]
  · rw [List.getElem?_eq_none_iff.2 (by simp [madeCells]; omega), List.getElem?_eq_none_iff.2 (by rw [flagRow_len]; omega)]
theorem OwnR.wide9 {w : World} {lo lo' hi n : Nat} {v : Value} {l : List Int} (h : OwnR w lo hi v n l) (h1 : lo' ≤ lo) : OwnR w lo' hi v n l :=
  ⟨owns_lower h.1 h1, Nat.le_trans h1 h.2.1, h.2.2.1, h.2.2.2⟩
theorem infoBool : (Try.prog.info? 4).map (fun i => (i.zero, i.size, i.bytes)) = some (some (.bool false), 1, 1) := by kernel_rfl
set_option maxRecDepth 8000 in
set_option maxHeartbeats 4000000 in
theorem s_l9Cuts_any (a : Option Addr) (n cap : Nat) (l : List (Int × Int)) (nn : Nat) (w : World) (h : Qrs w a n cap l) (hql : Agg.qrysOk l = true) (hnn : nn ≤ 60) :
    Calls Try.prog 38 #[.slice a n cap, .int .i64 (nn : Int)] w fun e w' => ∃ v, e = .returned v ∧ OwnR w' w.heap.size w'.heap.size v (Agg.cutsTo nn l (nn + 1)).length (Agg.cutsN nn l) ∧ Below w.heap.size w w' := by
  obtain ⟨i0, hi0, hz0, hz1, hz2⟩ := info_parts infoInt
  obtain ⟨b0, hb0, hy0, hy1, hy2⟩ := info_parts infoBool
  have hll : l.length = n := h.1
  have hnc : n ≤ cap := h.2.1
  have hcm : cap ≤ 9223372036854775807 := by have := h.2.2.1; unfold maxLen at this; omega
  have H0 := Lib.hid h
  have HLL := Lib.hid hll
  have HQL := Lib.hid hql
  have hn8 := Agg.qrysOk_len hql
  have HN8 := Lib.hid hn8
  obtain ⟨N, hN⟩ : ∃ N, N = nn + 1 := ⟨_, rfl⟩
  have HN := Lib.hid hN
  have hNI : (nn : Int) + 1 = (N : Int) := by omega
  have hw0 : IntKind.i64.wrap ((nn : Int) + 1) = (N : Int) := by rw [hNI]; exact IntWalk.i64_in _ ⟨by omega, by omega⟩
  have hN61 : N ≤ 61 := by omega
  clear h hll hql hn8 hN hNI
  go_enter Try.func38, Try.ntmps38
  go_wp2_with (at_make; go_must (refine wpList_make_full _ rfl _ _ 39 rfl w.heap.size 4 b0 (.bool false) 1 Try.underlying39 hb0 hy0 hy1 .i64 .i64 _ _ N rfl rfl rfl rfl ?b1 ?b2 ?b3 ?_))
  case b1 => rw [hy2]; omega
  case b2 => unfold maxLen; omega
  case b3 => exact Nat.le_refl _
  intro w1 hown hgrow
  have HF := Lib.hid (show w1.ownsRow w.heap.size 4 1 (.slice (some ⟨w.heap.size, 0, none⟩) N N) N (flagRow (Agg.cutTo nn l 0 0) N) from by
    rw [← flagRow_congr (F := fun _ => false) N (fun x => Agg.cutTo_zero nn l x), ← made_flags]
    exact hown)
  have HB := Lib.hid ((Below.refl w.heap.size w).grown hgrow (Nat.le_refl _) (fun k hk => by simp at hk))
  clear hown hgrow hw0
  go_wp2_with fail
  go_loopw [6] (fun i wr => ∃ j : Nat, j ≤ n ∧ i = .int .i64 j ∧ Hid (wr.ownsRow w.heap.size 4 1 (.slice (some ⟨w.heap.size, 0, none⟩) N N) N (flagRow (Agg.cutTo nn l j 0) N)) ∧ Hid (Below w.heap.size w wr)) (fun i _ => n - (intOf i).toNat)
  case atStart => exact ⟨0, Nat.zero_le _, rfl, HF, HB⟩
  case round =>
    obtain ⟨j, hj, rfl, hf, hw⟩ := hrel
    clear HF HB
    by_cases hlt : j < n
    · rcases id H0.out.2.2.2 with h4 | ⟨bk, off, rfl, hbl, hcs⟩
      · omega
      · have hcs2 := hcs j hlt
        clear hcs
        have hqo := Agg.qrysOk_at HQL.out (show j < l.length by have := HLL.out; omega)
        have HNEXT := Lib.hid (fun x => (Agg.cutTo_next (n := nn) (l := l) (show j < l.length by have := HLL.out; omega) x).symm)
        have HSTEP := Lib.hid (fun i x => Agg.cutTo_step nn l j i x)
        have hwlt := Agg.wins_lt (n := nn) hqo
        obtain ⟨hqx, hqy, hS1, hS2, hH1, hH2⟩ := Agg.q_cast hqo
        obtain ⟨S, hS⟩ : ∃ S, S = Agg.qS (qryAt l j) := ⟨_, rfl⟩
        obtain ⟨H, hH⟩ : ∃ H, H = Agg.qH (qryAt l j) := ⟨_, rfl⟩
        rw [← hS, ← hH] at HSTEP hwlt
        rw [← hS] at hqx hS1 hS2
        rw [← hH] at hqy hH1 hH2
        have hqe : qryAt l j = ((S : Int), (H : Int)) := Prod.ext hqx.symm hqy.symm
        have hel : l[j]?.getD (0, 0) = ((S : Int), (H : Int)) := hqe
        rw [hel] at hcs2
        simp only at hcs2
        have HCS := Lib.hid (fun X (hX : Below w.heap.size w X) => And.intro ((hX.cell (p := ⟨bk, off + j * 2, none⟩) hbl).trans hcs2.1) ((hX.cell (p := ⟨bk, off + j * 2 + 1, none⟩) hbl).trans hcs2.2))
        obtain ⟨M, hM⟩ : ∃ M, M = Agg.winsN nn (qryAt l j) := ⟨_, rfl⟩
        rw [← hM] at HNEXT hwlt
        have HWL := Lib.hid hwlt
        have hk0 : (0 : Int) ≤ (j : Int) := Int.natCast_nonneg _
        have hkn : (j : Int) < (n : Int) := by omega
        clear hqx hqy hqe hel hqo hwlt hM hS hH hcs2
        go_wp2_with fail
        go_loopw [7] (fun i wx => ∃ t at_ : Nat, t ≤ M ∧ at_ = t * H ∧ at_ ≤ nn + 60 ∧ i = .int .i64 at_ ∧ Hid (wx.ownsRow w.heap.size 4 1 (.slice (some ⟨w.heap.size, 0, none⟩) N N) N (flagRow (Agg.cutTo nn l j t) N)) ∧ Hid (Below w.heap.size w wx)) (fun i _ => nn + 61 - (intOf i).toNat)
        case atStart => exact ⟨0, 0, Nat.zero_le _, by simp, Nat.zero_le _, rfl, hf, hw⟩
        case round =>
          obtain ⟨t, A, ht, hA, hA60, rfl, hf2, hw2⟩ := hrel
          obtain ⟨hck, hcl⟩ := HCS.out _ hw2.out
          have HA := Lib.hid hA
          have hk1 : (0 : Int) ≤ (A : Int) := Int.natCast_nonneg _
          by_cases htm : t < M
          · have hle := (HWL.out t).1 htm
            rw [← hA] at hle
            clear hA
            obtain ⟨T, hT⟩ : ∃ T, T = A + S := ⟨_, rfl⟩
            have hTI : (A : Int) + (S : Int) = (T : Int) := by omega
            have hw1 : IntKind.i64.wrap ((A : Int) + (S : Int)) = (T : Int) := by rw [hTI]; exact IntWalk.i64_in _ ⟨by omega, by omega⟩
            have hw2' : IntKind.i64.wrap ((A : Int) + (H : Int)) = (A : Int) + (H : Int) := IntWalk.i64_in _ ⟨by omega, by omega⟩
            rw [← hT] at hle
            have hleI : (T : Int) ≤ (nn : Int) := by omega
            have hAN : A < N := by have := HN.out; omega
            have hTN : T < N := by have := HN.out; omega
            have hANi : (A : Int) < (N : Int) := by omega
            have hTNi : (T : Int) < (N : Int) := by omega
            have hk2 : (0 : Int) ≤ (T : Int) := Int.natCast_nonneg _
            have HT := Lib.hid hT
            have hA1 := hf2.out.frozenAt A
            obtain ⟨y1, hA2⟩ : ∃ y, wr.cell? ⟨w.heap.size, A, none⟩ = some y := ⟨_, (hf2.out.cellAt A (by omega)).trans (flagRow_at _ hAN)⟩
            have hs1 := hf2.out.stored A (Value.bool true)
            rw [flagRow_set (Agg.cutTo nn l j t) (fun x => Agg.cutTo nn l j t x || A == x) N A (fun x => rfl)] at hs1
            have HF1 := Lib.hid hs1.1
            have hT1 := hs1.1.frozenAt T
            obtain ⟨y2, hT2⟩ : ∃ y, (wr.setCell ⟨w.heap.size, A, none⟩ (.bool true)).cell? ⟨w.heap.size, T, none⟩ = some y := ⟨_, (hs1.1.cellAt T (by omega)).trans (flagRow_at _ hTN)⟩
            have hs2 := hs1.1.stored T (Value.bool true)
            rw [flagRow_set (fun x => Agg.cutTo nn l j t x || A == x) (Agg.cutTo nn l j (t + 1)) N T (fun x => by rw [HSTEP.out, HA.out, HT.out, HA.out, Bool.or_assoc])] at hs2
            have HF2 := Lib.hid hs2.1
            have HB1 := Lib.hid (hw2.out.setCell (p := ⟨w.heap.size, A, none⟩) (Nat.le_refl _) (.bool true))
            have HB2 := Lib.hid (HB1.out.setCell (p := ⟨w.heap.size, T, none⟩) (Nat.le_refl _) (.bool true))
            obtain ⟨Y1, hY1⟩ : ∃ Y1, Y1 = wr.setCell ⟨w.heap.size, A, none⟩ (.bool true) := ⟨_, rfl⟩
            rw [← hY1] at HF1 HF2 HB1 HB2 hT1 hT2
            clear hs1 hs2 hT hTI
            go_upto_region 9 with (fail)
            rw [← hY1]
            clear hY1 hA1 hA2 hck hcl
            obtain ⟨hck, hcl⟩ := HCS.out _ HB1.out
            obtain ⟨Y2, hY2⟩ : ∃ Y2, Y2 = Y1.setCell ⟨w.heap.size, T, none⟩ (.bool true) := ⟨_, rfl⟩
            rw [← hY2] at HF2 HB2
            go_upto_region 7 with (fail)
            rw [← hY2]
            clear hY2 hT1 hT2 hck hcl
            obtain ⟨hck, hcl⟩ := HCS.out _ HB2.out
            go_wp2_with fail
            go_roundw
            case rel => exact ⟨t + 1, A + H, by omega, by rw [HA.out, Nat.add_mul, Nat.one_mul], by have := HT.out; omega, by go_num, HF2, HB2⟩
            case measure => simp [intOf]; omega
          · have hle : ¬ (t * H + S ≤ nn) := fun hh => htm ((HWL.out t).2 hh)
            rw [← hA] at hle
            have hw1 : IntKind.i64.wrap ((A : Int) + (S : Int)) = (A : Int) + (S : Int) := IntWalk.i64_in _ ⟨by omega, by omega⟩
            have hleI : ¬ ((A : Int) + (S : Int) ≤ (nn : Int)) := by omega
            obtain rfl : t = M := by omega
            clear hA hle htm
            go_wp2_with fail
            go_roundw
            case rel => exact ⟨j + 1, by omega, by go_num, by rw [← flagRow_congr N HNEXT.out] at *; exact hf2, hw2⟩
            case measure => simp [intOf]; omega
    · have hjn : j = n := by omega
      have hfa := hf.out
      rw [hjn, ← HLL.out, flagRow_congr (G := Agg.cutSet nn l) N (fun x => (Agg.cutTo_all nn l x).symm)] at hfa
      have HFA := Lib.hid hfa
      have hlt' : ¬ (j : Int) < (n : Int) := by omega
      obtain ⟨W4, hW4⟩ : ∃ W4, W4 = wr.alloc (.cells #[] 3) := ⟨_, rfl⟩
      have hbn : Below wr.heap.size wr W4 := by rw [hW4]; exact (Below.refl _ _).alloc (Nat.le_refl _) _
      have HO4 := Lib.hid (show W4.ownsRow wr.heap.size 3 1 (.slice (some ⟨wr.heap.size, 0, none⟩) 0 0) (Agg.cutsTo nn l 0).length (((Agg.cutsTo nn l 0).map Int.ofNat).map (Value.int .i64)) from by
        rw [hW4]; simpa [Agg.cutsTo] using World.ownsRow_made (base := wr.heap.size) (e := 3) (size := 1) wr #[] 0 (Nat.le_refl _) (by simp [maxLen]) (by simp))
      have HF4 := Lib.hid (HFA.out.kept (Below.grownNone hbn none) (Classical.em _))
      have HS4 := Lib.hid (show wr.heap.size ≤ W4.heap.size from hbn.size)
      have HB4 := Lib.hid (hw.out.trans (hbn.mono hw.out.size))
      obtain ⟨B, hB⟩ : ∃ B, B = wr.heap.size := ⟨_, rfl⟩
      have hwB : w.heap.size < B := by have := (HFA.out.lt w.heap.size rfl).2; omega
      rw [← hB] at HO4 HS4
      clear hfa hjn hlt hj hbn
      go_upto_region 11 with (fail)
      rw [← hW4, ← hB]
      clear hW4 hB HFA hf hw
      go_wp2_with fail
      go_loopw [8, 9] (fun ov i wx => ∃ p : Nat, p ≤ N ∧ i = .int .i64 p ∧ Hid (wx.ownsRow B 3 1 ov (Agg.cutsTo nn l p).length (((Agg.cutsTo nn l p).map Int.ofNat).map (Value.int .i64))) ∧ Hid (wx.ownsRow w.heap.size 4 1 (.slice (some ⟨w.heap.size, 0, none⟩) N N) N (flagRow (Agg.cutSet nn l) N)) ∧ Hid (B ≤ wx.heap.size) ∧ Hid (Below w.heap.size w wx)) (fun _ i _ => N - (intOf i).toNat)
      case atStart => exact ⟨0, Nat.zero_le _, rfl, HO4, HF4, HS4, HB4⟩
      case round =>
        obtain ⟨p, hp, rfl, ho, hf3, hs, hw3⟩ := hrel
        clear HO4 HF4 HS4 HB4
        have hk1 : (0 : Int) ≤ (p : Int) := Int.natCast_nonneg _
        by_cases hpl : p < N
        · have hcell := (hf3.out.cellAt p (by omega)).trans (flagRow_at _ hpl)
          have hsu := Agg.cutsTo_succ nn l p
          obtain ⟨fp, hfp⟩ : ∃ fp, fp = Agg.cutSet nn l p := ⟨_, rfl⟩
          rw [← hfp] at hcell hsu
          have HSU := Lib.hid hsu
          have hlen := Agg.cutsTo_len nn l p
          have hkt : (p : Int) < (N : Int) := by omega
          have hkle : (p : Int) ≤ (nn : Int) := by have := HN.out; omega
          clear hsu hfp
          cases fp
          · go_wp2_with fail
            go_roundw
            case rel => exact ⟨p + 1, by omega, by go_num, by have e : Agg.cutsTo nn l (p + 1) = Agg.cutsTo nn l p := HSU.out; rw [e]; exact ho, hf3, hs, hw3⟩
            case measure => simp [intOf]; omega
          · have hlt2 : ∀ q, u8.ownBlock = some q → B ≤ q := fun q hq => (ho.out.lt q hq).1
            have hne2 : u8.ownBlock ≠ some w.heap.size := fun e => by have := hlt2 _ e; omega
            obtain ⟨ln, hln⟩ : ∃ ln, ln = (Agg.cutsTo nn l p).length := ⟨_, rfl⟩
            have HLN := Lib.hid hln
            have ho2 := ho.out
            rw [← hln] at ho2 hlen
            have HO2 := Lib.hid ho2
            clear ho2 hln
            go_wp2_with (at_builtin; go_must (refine wpList_append_own _ rfl (.tmp 57) (.tmp 59) 35 rfl B 3 i0 (.int .i64 0) 1 8 Try.underlying35 hi0 hz0 hz1 hz2 rfl (by decide) _ _ _ rfl (HO2.out.alloc _) ⟨wr.heap.size, 0, none⟩ 1 1 [.int .i64 (p : Int)] rfl rfl (cell_one_new _ _ _) (ints_oneCell .i64 [(p : Int)]) (by unfold maxLen; omega) (by omega) (by have := hs.out; simp; omega) ?_); intro v9 w9 hown9 hgrow9 hnil9; have HO9 := Lib.hid hown9; have HF9 := Lib.hid ((hf3.out.alloc _).kept hgrow9 (.inr (fun e => hne2 e.symm))); have HS9 := Lib.hid (show B ≤ w9.heap.size from by have := hgrow9.size; have := hs.out; simp at *; omega); have HB9 := Lib.hid ((hw3.out.alloc hw3.out.size _).grown hgrow9 (by have := hw3.out.size; simp; omega) (fun q hq => by have := hlt2 q hq; omega)); clear hown9 hgrow9 hnil9)
            go_roundw
            case rel =>
              refine ⟨p + 1, by omega, by go_num, Lib.hid ?_, HF9, HS9, HB9⟩
              have e : Agg.cutsTo nn l (p + 1) = Agg.cutsTo nn l p ++ [p] := HSU.out
              rw [e, List.length_append, List.length_singleton, ← HLN.out, List.map_append, List.map_append]
              exact HO9.out
            case measure => simp [intOf]; omega
        · have hpn : p = N := by omega
          have ho2 := ho.out
          rw [hpn, HN.out] at ho2
          have HO2 := Lib.hid ho2
          have hnle : ¬ (p : Int) ≤ (nn : Int) := by have := HN.out; omega
          clear ho2 hpn
          go_wp2_with fail
          go_returns
          exact ⟨_, rfl, OwnR.made (owns_lower HO2.out (Nat.le_of_lt hwB)) hw3.out.size, hw3.out⟩
set_option maxRecDepth 8000 in
set_option maxHeartbeats 4000000 in
theorem s_cutsOf_any (a : Option Addr) (n cap : Nat) (l : List (Int × Int)) (m : Int) (w : World) (h : Qrs w a n cap l) :
    Calls Try.prog 17 #[.slice a n cap, .int .i64 m] w (RowOut (Agg.cutsOut m l) (Agg.cutsOk m l) w) := by
  have H0 := Lib.hid h
  obtain ⟨vb, hvb⟩ : ∃ vb, vb = Agg.qrysOk l := ⟨_, rfl⟩
  have HQV := Lib.hid (s_queriesValid_any a n cap l w h)
  rw [← hvb] at HQV
  obtain ⟨wb, hwb⟩ : ∃ wb : Bool, wb = (decide (0 ≤ m) && decide (m ≤ 60)) := ⟨_, rfl⟩
  have HWI := Lib.hid (fun w => s_in_any m 0 60 w)
  rw [← hwb] at HWI
  obtain ⟨ok, hok⟩ : ∃ ok, ok = Agg.cutsOk m l := ⟨_, rfl⟩
  have hok2 : ok = (vb && wb) := by rw [hok, Agg.cutsOk, hvb, hwb, Bool.decide_and]
  obtain ⟨RO, hRO⟩ : ∃ RO, RO = Agg.cutsOut m l := ⟨_, rfl⟩
  rw [← hok, ← hRO]
  have HRO := Lib.hid (show RO = if ok then Agg.cutsN m.toNat l else [] from by rw [hRO, Agg.cutsOut, ← hok])
  have HOK := Lib.hid hok2
  have HVB := Lib.hid hvb
  have HWB := Lib.hid hwb
  clear h hvb hwb hok hok2 hRO
  go_enter Try.func17, Try.ntmps17
  go_wp2_with fail
  refine HQV.out.mono ?_
  rintro e w1 ⟨rfl, hb1⟩
  have HB1 := Lib.hid hb1
  clear hb1 HQV
  cases vb
  · obtain rfl : ok = false := HOK.out
    obtain rfl : RO = [] := HRO.out
    go_wp2_with fail
    go_returns
    exact ⟨_, 0, rfl, OwnR.made (by simpa using World.ownsRow_made (base := w.heap.size) (e := 3) (size := 1) w1 #[] 0 HB1.out.size (by simp [maxLen]) (by simp)) (by have := HB1.out.size; simp; omega), HB1.out.alloc HB1.out.size _⟩
  · go_wp2_with fail
    refine (HWI.out _).mono ?_
    rintro e w2 ⟨rfl, rfl⟩
    cases wb
    · obtain rfl : ok = false := HOK.out
      obtain rfl : RO = [] := HRO.out
      go_wp2_with fail
      go_returns
      exact ⟨_, 0, rfl, OwnR.made (by simpa using World.ownsRow_made (base := w.heap.size) (e := 3) (size := 1) w1 #[] 0 HB1.out.size (by simp [maxLen]) (by simp)) (by have := HB1.out.size; simp; omega), HB1.out.alloc HB1.out.size _⟩
    · obtain rfl : ok = true := HOK.out
      have hm2 := HWB.out
      simp only [Bool.true_eq, Bool.and_eq_true, decide_eq_true_eq] at hm2
      obtain ⟨nn, rfl⟩ := Int.eq_ofNat_of_zero_le hm2.1
      have hnn : nn ≤ 60 := by omega
      have HRO2 := Lib.hid (show RO = Agg.cutsN nn l from HRO.out)
      have HC := Lib.hid (s_l9Cuts_any a n cap l nn w1 (H0.out.below HB1.out) HVB.out.symm hnn)
      clear hm2
      go_wp2_with fail
      refine HC.out.mono ?_
      rintro e w3 ⟨v3, rfl, ho3, hb3⟩
      have HO3 := Lib.hid ho3
      have HB3 := Lib.hid (HB1.out.trans (hb3.mono HB1.out.size))
      clear ho3 hb3
      go_wp2_with fail
      go_returns
      exact ⟨_, _, rfl, by rw [HRO2.out]; exact HO3.out.wide9 HB1.out.size, HB3.out⟩
end Go.Proofs.Ytofpnmjadflebaa
