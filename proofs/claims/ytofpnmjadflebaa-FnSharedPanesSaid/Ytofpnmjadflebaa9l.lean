/-
  The cuts of queries, in the program.
-/
import Derived.Test.Ytofpnmjadflebaa9k
import Derived.Test.YtofpnmjadflebaaTb
import Derived.Laws.Rows
import Derived.Deep.DeepMust
namespace Go.Proofs.Ytofpnmjadflebaa
set_option linter.unusedSimpArgs false
set_option linter.unusedVariables false
open Go.RowKit
/-- An array of flags in a variable. -/
def FlagsAt (w : World) (c : Nat) (F : Nat → Bool) : Prop := ∃ cur : Array Value, w.heap[c]? = some (.cells cur 59 (0, 0)) ∧ cur.size = 61 ∧ ∀ p, p < 61 → cur[p]? = some (.bool (F p))
section
variable {w w' : World} {c : Nat} {F G : Nat → Bool}
theorem FlagsAt.new (w : World) (cur : Array Value) (hc : cur = Array.replicate 61 (.bool false)) : FlagsAt (w.alloc (.cells cur 59)) w.heap.size (fun _ => false) := by
  subst hc
  exact ⟨_, heap_alloc_new w _, by simp, fun p hp => by simp [hp]⟩
theorem FlagsAt.lt (h : FlagsAt w c F) : c < w.heap.size := by
  obtain ⟨cur, hg, -⟩ := h
  exact (Array.getElem?_eq_some_iff.1 hg).1
theorem FlagsAt.call (h : FlagsAt w c F) (hb : Below w.heap.size w w') : FlagsAt w' c F := by
  have hlt := h.lt
  obtain ⟨cur, hg, h1, h2⟩ := h
  exact ⟨cur, (hb.block c hlt).trans hg, h1, h2⟩
theorem FlagsAt.cell (h : FlagsAt w c F) {p : Nat} (hp : p < 61) : w.cell? ⟨c, p, none⟩ = some (.bool (F p)) := by
  obtain ⟨cur, hg, h1, h2⟩ := h
  simpa [World.cell?, hg] using h2 p hp
theorem FlagsAt.free (h : FlagsAt w c F) (o : Nat) : w.frozen? ⟨c, o, none⟩ = false := by
  obtain ⟨cur, hg, h1, h2⟩ := h
  simp [World.frozen?, hg]
theorem FlagsAt.set (h : FlagsAt w c F) (p : Nat) (hG : ∀ x, G x = (F x || p == x)) : FlagsAt (w.setCell ⟨c, p, none⟩ (.bool true)) c G := by
  obtain ⟨cur, hg, h1, h2⟩ := h
  refine ⟨cur.setIfInBounds p (.bool true), by simp [World.setCell, Array.getElem?_modify, hg], by simpa using h1, fun x hx => ?_⟩
  rw [Array.getElem?_setIfInBounds, hG]
  by_cases e : p = x
  · subst e
    rw [if_pos rfl, if_pos (by omega)]
    simp
  · rw [if_neg e, h2 x hx]
    simp [e]
theorem FlagsAt.congr (h : FlagsAt w c F) (hG : ∀ x, G x = F x) : FlagsAt w c G := by
  obtain ⟨cur, hg, h1, h2⟩ := h
  exact ⟨cur, hg, h1, fun p hp => by rw [hG]; exact h2 p hp⟩
end
theorem index_flags (cur : Array Value) (F : Nat → Bool) (hs : cur.size = 61) (h : ∀ p, p < 61 → cur[p]? = some (.bool (F p))) (j : Nat) (hj : j < 61) (w : World) :
    (Instr.index 59 (.agg cur) (.int .i64 (j : Int))).run Try.prog w = .ok (.bool (F j)) w := by
  have hu : Try.prog.underlying 59 = some (.array 61 4) := by kernel_rfl
  have hz : ∀ w, (sizeOf 4).run Try.prog w = .ok 1 w := fun w => by kernel_rfl
  have ha : ∀ w, (isAgg 4).run Try.prog w = .ok false w := fun w => by kernel_rfl
  have h0 : (0 : Int) ≤ (j : Int) ∧ (j : Int) < 61 := by omega
  have hc := h j hj
  simp [Instr.index, asIntOf, run_underlying hu, hz, part, ha, hc, h0, hj]
set_option maxRecDepth 8000 in
set_option maxHeartbeats 4000000 in
theorem cutsOf_any (a : Option Addr) (n cap : Nat) (l : List (Int × Int)) (m : Int) (w : World) (h : Qrs w a n cap l) :
    Calls Try.prog 16 #[.slice a n cap, .int .i64 m] w (RowOut (Agg.cutsOut m l) (Agg.cutsOk m l) w) := by
  obtain ⟨i0, hi0, hz0, hz1, hz2⟩ := info_parts infoInt
  have hll : l.length = n := h.1
  have hnc : n ≤ cap := h.2.1
  have hcm : cap ≤ 9223372036854775807 := by have := h.2.2.1; unfold maxLen at this; omega
  have hAL : Try.prog.arrayLen 59 = 61 := by kernel_rfl
  have H0 := Lib.hid h
  have HLL := Lib.hid hll
  obtain ⟨vb, hvb⟩ : ∃ vb, vb = Agg.qrysOk l := ⟨_, rfl⟩
  have HQV := Lib.hid (queriesValid_any a n cap l w h)
  rw [← hvb] at HQV
  obtain ⟨wb, hwb⟩ : ∃ wb : Bool, wb = (decide (0 ≤ m) && decide (m ≤ 60)) := ⟨_, rfl⟩
  have HWI := Lib.hid (fun w => within_any m 0 60 w)
  rw [← hwb] at HWI
  obtain ⟨ok, hok⟩ : ∃ ok, ok = Agg.cutsOk m l := ⟨_, rfl⟩
  have hok2 : ok = (vb && wb) := by rw [hok, Agg.cutsOk, hvb, hwb, Bool.decide_and]
  obtain ⟨RO, hRO⟩ : ∃ RO, RO = Agg.cutsOut m l := ⟨_, rfl⟩
  rw [← hok, ← hRO]
  have HRO := Lib.hid (show RO = if ok then Agg.cutsN m.toNat l else [] from by rw [hRO, Agg.cutsOut, ← hok])
  have HOK := Lib.hid hok2
  have HVB := Lib.hid hvb
  have HWB := Lib.hid hwb
  clear h hll hvb hwb hok hok2 hRO
  go_enter Try.func16, Try.ntmps16
  go_wp2_with fail
  refine HQV.out.mono ?_
  rintro e w1 ⟨rfl, hb1⟩
  have HB1 := Lib.hid hb1
  clear hb1 HQV
  cases vb
  · obtain rfl : ok = false := HOK.out
    obtain rfl : RO = [] := HRO.out
    have HBX := HB1
    go_wp2_with fail
    go_returns
    exact RowOut.none_ HBX.out
  · go_wp2_with fail
    refine (HWI.out _).mono ?_
    rintro e w2 ⟨rfl, rfl⟩
    cases wb
    · obtain rfl : ok = false := HOK.out
      obtain rfl : RO = [] := HRO.out
      have HBX := HB1
      go_wp2_with fail
      go_returns
      exact RowOut.none_ HBX.out
    · obtain rfl : ok = true := HOK.out
      have hm2 := HWB.out
      simp only [Bool.true_eq, Bool.and_eq_true, decide_eq_true_eq] at hm2
      obtain ⟨nn, rfl⟩ := Int.eq_ofNat_of_zero_le hm2.1
      have hnn : nn ≤ 60 := by omega
      have hRO2 : RO = Agg.cutsN nn l := HRO.out
      have HRO2 := Lib.hid hRO2
      have hql : Agg.qrysOk l = true := HVB.out.symm
      have HQL := Lib.hid hql
      have hn8 := Agg.qrysOk_len hql
      have HN8 := Lib.hid hn8
      clear hm2 hRO2 hql hn8
      obtain ⟨W3, hW3⟩ : ∃ W3, W3 = w1.alloc (.cells #[.bool false, .bool false, .bool false, .bool false, .bool false, .bool false, .bool false, .bool false, .bool false, .bool false, .bool false, .bool false, .bool false, .bool false, .bool false, .bool false, .bool false, .bool false, .bool false, .bool false, .bool false, .bool false, .bool false, .bool false, .bool false, .bool false, .bool false, .bool false, .bool false, .bool false, .bool false, .bool false, .bool false, .bool false, .bool false, .bool false, .bool false, .bool false, .bool false, .bool false, .bool false, .bool false, .bool false, .bool false, .bool false, .bool false, .bool false, .bool false, .bool false, .bool false, .bool false, .bool false, .bool false, .bool false, .bool false, .bool false, .bool false, .bool false, .bool false, .bool false, .bool false] 59) := ⟨_, rfl⟩
      have HF3 := Lib.hid (show FlagsAt W3 w1.heap.size (Agg.cutTo nn l 0 0) from by
        rw [hW3]
        exact (FlagsAt.new w1 _ (by rfl)).congr (fun x => Agg.cutTo_zero nn l x))
      have HB3 := Lib.hid (show Below w.heap.size w W3 from by rw [hW3]; exact HB1.out.alloc HB1.out.size _)
      have hc0 : w.heap.size ≤ w1.heap.size := HB1.out.size
      go_upto_region 4 with (fail)
      rw [← hW3]
      clear hW3
      obtain ⟨c, hc⟩ : ∃ c, c = w1.heap.size := ⟨_, rfl⟩
      rw [← hc] at HF3 hc0 ⊢
      clear hc HB1
      go_wp2_with fail
      go_loopw [24] (fun i wr => ∃ j : Nat, j ≤ n ∧ i = .int .i64 j ∧ Hid (FlagsAt wr c (Agg.cutTo nn l j 0)) ∧ Hid (Below w.heap.size w wr)) (fun i _ => n - (intOf i).toNat)
      case atStart => exact ⟨0, Nat.zero_le _, rfl, HF3, HB3⟩
      case round =>
        obtain ⟨j, hj, rfl, hf, hw⟩ := hrel
        clear HF3 HB3
        by_cases hlt : j < n
        · rcases id H0.out.2.2.2 with h4 | ⟨bk, off, rfl, hbl, hcs⟩
          · omega
          · have hck := (hw.out.cell (p := ⟨bk, off + j * 2, none⟩) hbl).trans (hcs j hlt).1
            have hcl := (hw.out.cell (p := ⟨bk, off + j * 2 + 1, none⟩) hbl).trans (hcs j hlt).2
            clear hcs
            have hqo := Agg.qrysOk_at HQL.out (show j < l.length by have := HLL.out; omega)
            have HNEXT := Lib.hid (fun x => (Agg.cutTo_next (n := nn) (l := l) (show j < l.length by have := HLL.out; omega) x).symm)
            have HSTEP := Lib.hid (fun i x => Agg.cutTo_step nn l j i x)
            have hwlt := Agg.wins_lt (n := nn) hqo
            obtain ⟨hqx, hqy, -, -, -, -⟩ := Agg.q_cast hqo
            obtain ⟨S, hS⟩ : ∃ S, S = Agg.qS (qryAt l j) := ⟨_, rfl⟩
            obtain ⟨H, hH⟩ : ∃ H, H = Agg.qH (qryAt l j) := ⟨_, rfl⟩
            rw [← hS, ← hH] at HSTEP hwlt
            rw [← hS] at hqx
            rw [← hH] at hqy
            have hqe : qryAt l j = ((S : Int), (H : Int)) := by
              obtain ⟨p, q⟩ : ∃ o, o = qryAt l j := ⟨_, rfl⟩
              exact Prod.ext hqx.symm hqy.symm
            have hel : l[j]?.getD (0, 0) = ((S : Int), (H : Int)) := hqe
            rw [hel] at hck hcl
            rw [hqe] at HNEXT hwlt hqo
            simp only at hck hcl
            have HSP := Lib.hid (fun w => spansOf_any S H nn hqo hnn w)
            have hsa := fun i hi => spansI_at ((S : Int), (H : Int)) (j := Agg.winsN nn ((S : Int), (H : Int))) (i := i) hi
            simp only [Agg.qS, Agg.qH, Int.toNat_natCast] at hsa
            obtain ⟨M, hM⟩ : ∃ M, M = Agg.winsN nn ((S : Int), (H : Int)) := ⟨_, rfl⟩
            rw [← hM] at HNEXT hwlt HSP hsa
            have HWL := Lib.hid hwlt
            have HSA := Lib.hid hsa
            have hk0 : (0 : Int) ≤ (j : Int) := Int.natCast_nonneg _
            have hkn : (j : Int) < (n : Int) := by omega
            obtain ⟨W5, hW5⟩ : ∃ W5, W5 = wr.alloc (.cells #[.int .i64 (S : Int), .int .i64 (H : Int)] 28) := ⟨_, rfl⟩
            have hbn : Below wr.heap.size wr W5 := by rw [hW5]; exact (Below.refl _ _).alloc (Nat.le_refl _) _
            have HX5 := Lib.hid (show Box2h W5 wr.heap.size 28 (S : Int) (H : Int) from by rw [hW5]; exact Box2h.new _ _ _ _)
            have HF5 := Lib.hid (hf.out.call hbn)
            have HB5 := Lib.hid (hw.out.trans (hbn.mono hw.out.size))
            have hcw : c < W5.heap.size := HF5.out.lt
            clear hbn hqx hqy hqe hel hqo hwlt hsa hM hS hH
            go_upto_region 7 with (fail)
            rw [← hW5]
            clear hW5 hck hcl
            obtain ⟨q0, q1⟩ := HX5.out.cells
            go_wp2_with fail
            refine (HSP.out _).mono ?_
            rintro e w6 ⟨v6, rfl, ho6, hb6⟩
            obtain ⟨sa, sc, rfl, hread⟩ := own_read ho6
            have HREAD := Lib.hid hread
            have HF6 := Lib.hid (HF5.out.call hb6)
            have HB6 := Lib.hid (HB5.out.trans (hb6.mono HB5.out.size))
            have hsc := (hread _ (Kept.refl _ _)).2.2.1
            have hMsc := (hread _ (Kept.refl _ _)).2.1
            unfold maxLen at hsc
            have HK6 := Lib.hid (Kept.refl W5.heap.size w6)
            clear hb6 ho6 hread q0 q1 HX5 HF5 HB5 HSP
            go_wp2_with fail
            go_loopw [32] (fun i wr2 => ∃ t : Nat, t ≤ M ∧ i = .int .i64 t ∧ Hid (FlagsAt wr2 c (Agg.cutTo nn l j t)) ∧ Hid (Kept W5.heap.size w6 wr2) ∧ Hid (Below w.heap.size w wr2)) (fun i _ => M - (intOf i).toNat)
            case atStart => exact ⟨0, Nat.zero_le _, rfl, HF6, HK6, HB6⟩
            case round =>
              obtain ⟨t, ht, rfl, hf2, hk2, hw2⟩ := hrel
              clear HF6 HK6 HB6
              by_cases htm : t < M
              · rcases (HREAD.out _ hk2.out).2.2.2 with h4 | ⟨bs, soff, rfl, hsb, hcs⟩
                · omega
                · obtain ⟨p0, p1⟩ := hcs t htm
                  clear hcs
                  rw [HSA.out t htm] at p0 p1
                  simp only at p0 p1
                  have hle := (HWL.out t).1 htm
                  obtain ⟨Pf, hPf⟩ : ∃ Pf, Pf = t * H := ⟨_, rfl⟩
                  obtain ⟨Pt, hPt⟩ : ∃ Pt, Pt = t * H + S := ⟨_, rfl⟩
                  rw [← hPf] at p0
                  rw [← hPt] at p1 hle
                  have hfle : Pf < 61 := by omega
                  have htle : Pt < 61 := by omega
                  have HPF := Lib.hid hPf
                  have HPT := Lib.hid hPt
                  clear hPf hPt hle
                  have hk1 : (0 : Int) ≤ (t : Int) := Int.natCast_nonneg _
                  have hkt : (t : Int) < (M : Int) := by omega
                  have f0 : (0 : Int) ≤ (Pf : Int) := Int.natCast_nonneg _
                  have f1 : (Pf : Int) < 61 := by omega
                  have t0 : (0 : Int) ≤ (Pt : Int) := Int.natCast_nonneg _
                  have t1 : (Pt : Int) < 61 := by omega
                  obtain ⟨W9, hW9⟩ : ∃ W9, W9 = wr.alloc (.cells #[.int .i64 (Pf : Int), .int .i64 (Pt : Int)] 63) := ⟨_, rfl⟩
                  have hbn : Below wr.heap.size wr W9 := by rw [hW9]; exact (Below.refl _ _).alloc (Nat.le_refl _) _
                  have HX9 := Lib.hid (show Box2h W9 wr.heap.size 63 (Pf : Int) (Pt : Int) from by rw [hW9]; exact Box2h.new _ _ _ _)
                  have HF9 := Lib.hid (hf2.out.call hbn)
                  have HK9 := Lib.hid (hk2.out.call hbn)
                  have HB9 := Lib.hid (hw2.out.trans (hbn.mono hw2.out.size))
                  have hcx : c ≠ wr.heap.size := by have := hf2.out.lt; omega
                  clear hbn
                  go_upto_region 10 with (fail)
                  rw [← hW9]
                  clear hW9 p0 p1
                  obtain ⟨q0, q1⟩ := HX9.out.cells
                  refine wp_region_held_drew (S := (fun X => X.cell? ⟨wr.heap.size, 0, none⟩ = some (.int .i64 (Pf : Int)) ∧ X.cell? ⟨wr.heap.size, 1, none⟩ = some (.int .i64 (Pt : Int)))) (by kernel_rfl) (by exact ⟨by assumption, by assumption⟩) (fun hHeld => ?_)
                  first | (refine wpAnyH_take (i := 0) (v := ?_) rfl (by kernel_rfl) (by kernel_rfl) (by kernel_rfl) (fun _ _ _ h => h) (Or.inl ⟨by rfl, ?_⟩) (by assumption) ?_; rotate_left; (intro X hSw; (try dsimp only at hSw); go_simp; (try with_reducible rfl)); (try simp only [Act.put, List.setIfInBounds_toArray, List.set_cons_zero, List.set_cons_succ, List.getElem_toArray, List.getElem_cons_zero, List.getElem_cons_succ])) | fail "take 0"
                  first | (refine wpAnyH_take (i := 1) (v := ?_) rfl (by kernel_rfl) (by kernel_rfl) (by kernel_rfl) (fun _ _ _ h => h) (Or.inl ⟨by rfl, ?_⟩) (by assumption) ?_; rotate_left; (intro X hSw; (try dsimp only at hSw); go_simp; (try with_reducible rfl)); (try simp only [Act.put, List.setIfInBounds_toArray, List.set_cons_zero, List.set_cons_succ, List.getElem_toArray, List.getElem_cons_zero, List.getElem_cons_succ])) | fail "take 1"
                  first | (refine wpAnyH_take (i := 2) (v := ?_) rfl (by kernel_rfl) (by kernel_rfl) (by kernel_rfl) (fun _ _ _ h => h) (Or.inl ⟨by rfl, ?_⟩) (by assumption) ?_; rotate_left; (intro X hSw; (try dsimp only at hSw); go_simp; (try with_reducible rfl)); (try simp only [Act.put, List.setIfInBounds_toArray, List.set_cons_zero, List.set_cons_succ, List.getElem_toArray, List.getElem_cons_zero, List.getElem_cons_succ])) | fail "take 2"
                  first | (refine wpAnyH_take (i := 3) (v := ?_) rfl (by kernel_rfl) (by kernel_rfl) (by kernel_rfl) (fun _ _ _ h => h) (Or.inl ⟨by rfl, ?_⟩) (by assumption) ?_; rotate_left; (intro X hSw; (try dsimp only at hSw); go_simp; (try with_reducible rfl)); (try simp only [Act.put, List.setIfInBounds_toArray, List.set_cons_zero, List.set_cons_succ, List.getElem_toArray, List.getElem_cons_zero, List.getElem_cons_succ])) | fail "take 3"
                  first | (refine wpAnyH_take (i := 4) (v := ?_) rfl (by kernel_rfl) (by kernel_rfl) (by kernel_rfl) (fun _ _ _ h => h) (Or.inl ⟨by rfl, ?_⟩) (by assumption) ?_; rotate_left; (intro X hSw; (try dsimp only at hSw); go_simp; (try with_reducible rfl)); (try simp only [Act.put, List.setIfInBounds_toArray, List.set_cons_zero, List.set_cons_succ, List.getElem_toArray, List.getElem_cons_zero, List.getElem_cons_succ])) | fail "take 4"
                  obtain ⟨Y, hY⟩ : ∃ Y, Y = W9.drew := ⟨_, rfl⟩
                  have HFY := Lib.hid (show FlagsAt Y c (Agg.cutTo nn l j t) from by rw [hY]; exact HF9.out)
                  have HXY := Lib.hid (show Box2h Y wr.heap.size 63 (Pf : Int) (Pt : Int) from by rw [hY]; exact HX9.out)
                  have HKY := Lib.hid (show Kept W5.heap.size w6 Y from by rw [hY]; exact HK9.out.drew)
                  have HBY := Lib.hid (show Below w.heap.size w Y from by rw [hY]; exact HB9.out.drew)
                  rw [← hY]
                  have c1 := HFY.out.cell hfle
                  have c2 := HFY.out.cell htle
                  have cf := HFY.out.free
                  clear hY q0 q1 hHeld HX9 HF9 HK9 HB9
                  have HF1 := Lib.hid (HFY.out.set Pf (G := fun x => Agg.cutTo nn l j t x || Pf == x) (fun x => rfl))
                  have HF2 := Lib.hid (HF1.out.set Pt (G := Agg.cutTo nn l j (t + 1)) (fun x => by rw [HSTEP.out, HPF.out, HPT.out, Bool.or_assoc]))
                  have hx1 : Box2h (Y.setCell ⟨c, Pf, none⟩ (.bool true)) wr.heap.size 63 (Pf : Int) (Pt : Int) := (Below.heap_setCell _ _ _ _ (by simp only; omega)).trans HXY.out
                  have hx2 : Box2h ((Y.setCell ⟨c, Pf, none⟩ (.bool true)).setCell ⟨c, Pt, none⟩ (.bool true)) wr.heap.size 63 (Pf : Int) (Pt : Int) := (Below.heap_setCell _ _ _ _ (by simp only; omega)).trans hx1
                  have HX1 := Lib.hid hx1
                  have HX2 := Lib.hid hx2
                  have HK2 := Lib.hid (((HKY.out.set (c := c) (o := Pf) (u := .bool true) hcw).set (c := c) (o := Pt) (u := .bool true) hcw))
                  have HB2 := Lib.hid ((HBY.out.setCell (p := ⟨c, Pf, none⟩) hc0 (.bool true)).setCell (p := ⟨c, Pt, none⟩) hc0 (.bool true))
                  clear hx1 hx2
                  refine wpAnyH_ready (rs := [5]) (by kernel_rfl) (by simp) ?_
                  refine AllReadyH.cons rfl (fun K hK => ?_) AllReadyH.nil
                  go_simp
                  obtain ⟨Y1, hY1⟩ : ∃ Y1, Y1 = Y.setCell ⟨c, Pf, none⟩ (.bool true) := ⟨_, rfl⟩
                  rw [← hY1] at HF1 HX1 HX2 HF2 HK2 HB2 ⊢
                  have d2 := HF1.out.cell htle
                  have df := HF1.out.free
                  clear hY1 c1 c2 cf
                  (try dsimp only)
                  refine hK.out _ _ (by exact HX1.out.cells) (fun hHeld => ?_)
                  clear hK K
                  (try simp only [Act.put, List.setIfInBounds_toArray, List.set_cons_zero, List.set_cons_succ, List.getElem_toArray, List.getElem_cons_zero, List.getElem_cons_succ])
                  first | (refine wpAnyH_take (i := 6) (v := ?_) rfl (by kernel_rfl) (by kernel_rfl) (by kernel_rfl) (fun _ _ _ h => h) (Or.inl ⟨by rfl, ?_⟩) (by assumption) ?_; rotate_left; (intro X hSw; (try dsimp only at hSw); go_simp; (try with_reducible rfl)); (try simp only [Act.put, List.setIfInBounds_toArray, List.set_cons_zero, List.set_cons_succ, List.getElem_toArray, List.getElem_cons_zero, List.getElem_cons_succ])) | fail "take 6"
                  refine wpAnyH_ready (rs := [7]) (by kernel_rfl) (by simp) ?_
                  refine AllReadyH.cons rfl (fun K hK => ?_) AllReadyH.nil
                  go_simp
                  obtain ⟨Y2, hY2⟩ : ∃ Y2, Y2 = Y1.setCell ⟨c, Pt, none⟩ (.bool true) := ⟨_, rfl⟩
                  rw [← hY2] at HX2 HF2 HK2 HB2 ⊢
                  clear hY2 d2 df
                  (try dsimp only)
                  refine hK.out _ _ (by exact HX2.out.cells) (fun hHeld => ?_)
                  clear hK K
                  (try simp only [Act.put, List.setIfInBounds_toArray, List.set_cons_zero, List.set_cons_succ, List.getElem_toArray, List.getElem_cons_zero, List.getElem_cons_succ])
                  refine wpAnyH_done (by kernel_rfl) ?_ _
                  go_wp2_with fail
                  go_roundw
                  case rel => exact ⟨t + 1, by omega, by go_num, HF2, HK2, HB2⟩
                  case measure => simp [intOf]; omega
              · obtain rfl : t = M := by omega
                have hlt' : ¬ (t : Int) < (t : Int) := by omega
                go_wp2_with fail
                go_roundw
                case rel => exact ⟨j + 1, by omega, by go_num, Lib.hid (hf2.out.congr HNEXT.out), hw2⟩
                case measure => simp [intOf]; omega
        · have hjn : j = n := by omega
          have hfa := hf.out
          rw [hjn, ← HLL.out] at hfa
          have hfa2 := hfa.congr (G := Agg.cutSet nn l) (fun x => (Agg.cutTo_all nn l x).symm)
          obtain ⟨cur, hcur, hcs, hcv⟩ := hfa2
          have HIX := Lib.hid (fun p hp w => index_flags cur (Agg.cutSet nn l) hcs hcv p hp w)
          have hlt' : ¬ (j : Int) < (n : Int) := by omega
          have hinfo : (Try.prog.info? 59).map (·.size) = some cur.size := by rw [hcs]; kernel_rfl
          clear hfa hjn hlt hj hcs hcv
          go_wp2_with (refine wpList_load_row rfl 59 (.tmp 6) rfl c rfl 59 cur (0, 0) (.array 61 4) hcur (by kernel_rfl) rfl hinfo ?_)
          have HO := Lib.hid (show wr.ownsRow w.heap.size 3 1 (.slice none 0 0) (Agg.cutsTo nn l 0).length (((Agg.cutsTo nn l 0).map Int.ofNat).map (Value.int .i64)) from World.ownsRow_nil _ _ _ _)
          have HS := Lib.hid (show w.heap.size ≤ wr.heap.size from hw.out.size)
          clear hcur hinfo
          go_loopw [11, 45] (fun ov i wx => ∃ p : Nat, p ≤ 61 ∧ i = .int .i64 p ∧ Hid (wx.ownsRow w.heap.size 3 1 ov (Agg.cutsTo nn l p).length (((Agg.cutsTo nn l p).map Int.ofNat).map (Value.int .i64))) ∧ Hid (w.heap.size ≤ wx.heap.size) ∧ Hid (Below w.heap.size w wx)) (fun _ i _ => 61 - (intOf i).toNat)
          case atStart => exact ⟨0, Nat.zero_le _, rfl, HO, HS, hw⟩
          case round =>
            obtain ⟨p, hp, rfl, ho, hs, hw3⟩ := hrel
            clear HO HS
            by_cases hpl : p < 61
            · have hix := HIX.out p hpl
              have hsu := Agg.cutsTo_succ nn l p
              obtain ⟨fp, hfp⟩ : ∃ fp, fp = Agg.cutSet nn l p := ⟨_, rfl⟩
              rw [← hfp] at hix hsu
              have HSU := Lib.hid hsu
              have hlen := Agg.cutsTo_len nn l p
              have hk1 : (0 : Int) ≤ (p : Int) := Int.natCast_nonneg _
              have hkt : (p : Int) < 61 := by omega
              clear hsu hfp
              cases fp
              · go_wp2_with fail
                go_roundw
                case rel => exact ⟨p + 1, by omega, by go_num, by have e : Agg.cutsTo nn l (p + 1) = Agg.cutsTo nn l p := HSU.out; rw [e]; exact ho, hs, hw3⟩
                case measure => simp [intOf]; omega
              · have hlt2 : ∀ q, u11.ownBlock = some q → w.heap.size ≤ q := fun q hq => (ho.out.lt q hq).1
                obtain ⟨ln, hln⟩ : ∃ ln, ln = (Agg.cutsTo nn l p).length := ⟨_, rfl⟩
                have HLN := Lib.hid hln
                have ho2 := ho.out
                rw [← hln] at ho2 hlen
                have HO2 := Lib.hid ho2
                clear ho2 hln
                go_wp2_with (at_builtin; go_must (refine wpList_append_own _ rfl (.tmp 50) (.tmp 52) 35 rfl w.heap.size 3 i0 (.int .i64 0) 1 8 Try.underlying35 hi0 hz0 hz1 hz2 rfl (by decide) _ _ _ rfl (HO2.out.alloc _) ⟨wr.heap.size, 0, none⟩ 1 1 [.int .i64 (p : Int)] rfl rfl (cell_one_new _ _ _) (ints_oneCell .i64 [(p : Int)]) (by unfold maxLen; omega) (by omega) (by have := hs.out; simp; omega) ?_); intro v9 w9 hown9 hgrow9 hnil9; have HO9 := Lib.hid hown9; have HS9 := Lib.hid (show w.heap.size ≤ w9.heap.size from by have := hgrow9.size; have := hs.out; simp at *; omega); have HB9 := Lib.hid ((hw3.out.alloc hw3.out.size _).grown hgrow9 (by have := hw3.out.size; simp; omega) hlt2); clear hown9 hgrow9 hnil9)
                go_roundw
                case rel =>
                  refine ⟨p + 1, by omega, by go_num, Lib.hid ?_, HS9, HB9⟩
                  have e : Agg.cutsTo nn l (p + 1) = Agg.cutsTo nn l p ++ [p] := HSU.out
                  rw [e, List.length_append, List.length_singleton, ← HLN.out, List.map_append, List.map_append]
                  exact HO9.out
                case measure => simp [intOf]; omega
            · obtain rfl : p = 61 := by omega
              have ho2 := ho.out
              have hend := Agg.cutsTo_end (n := nn) HQL.out (60 - nn)
              rw [show nn + 1 + (60 - nn) = 61 by omega] at hend
              rw [hend] at ho2
              have HO2 := Lib.hid ho2
              clear ho2 hend
              go_wp2_with fail
              go_returns
              refine ⟨_, (Agg.cutsTo nn l (nn + 1)).length, rfl, ?_, hw3.out⟩
              rw [HRO2.out]
              exact OwnR.made HO2.out hw3.out.size
end Go.Proofs.Ytofpnmjadflebaa
