/-
  All windows of changes.
-/
import Derived.Test.YtikdjdoggjhmaaaGreat2y
namespace Go.Proofs.YtikdjdoggjhmaaaGreat
set_option linter.unusedSimpArgs false
set_option linter.unusedVariables false
open Go.RowKit
theorem infoWin : (Tryz.prog.info? 27).map (fun i => (i.zero, i.size, i.bytes)) = some (some (.slice none 0 0), 1, 24) := by kernel_rfl
/-- All windows, from the empty one on, in a row of the call's own. -/
def WinOut (b : Bool) (l : List (Bool × Int)) (n : Nat) (w : World) (e : Ending) (w' : World) : Prop :=
  (b = true → ∃ v hs, e = .returned (.tuple #[v, .bool true]) ∧ w'.ownsRow w.heap.size 27 1 v (n + 1) hs ∧ (∀ i, i ≤ n → ∃ a m c, hs[i]? = some (.slice a m c) ∧ Nums .i64 w' a m c (Agg.winAt l i)) ∧ Below w.heap.size w w') ∧
  (b = false → e = .returned (.tuple #[.slice none 0 0, .bool false]) ∧ Below w.heap.size w w')
/-- The windows before the current one. -/
def Olds (w : World) (cur : Value) (hs : List Value) (l : List (Bool × Int)) (j : Nat) : Prop := hs.length = j + 1 ∧ ∀ i, i ≤ j → ∃ h, hs[i]? = some h ∧ Old w cur h (Agg.winAt l i)
theorem Olds.next {w : World} {cur h : Value} {hs : List Value} {l : List (Bool × Int)} {j : Nat} (ho : Olds w cur hs l j) (hh : Old w cur h (Agg.winAt l (j + 1))) : Olds w cur (hs ++ [h]) l (j + 1) := by
  refine ⟨by simp [ho.1], fun i hi => ?_⟩
  by_cases hij : i ≤ j
  · obtain ⟨h', e, ho'⟩ := ho.2 i hij
    exact ⟨h', by rw [List.getElem?_append_left (by rw [ho.1]; omega)]; exact e, ho'⟩
  · obtain rfl : i = j + 1 := by omega
    exact ⟨h, by rw [List.getElem?_append_right (by rw [ho.1]; omega), ho.1]; simp, hh⟩
theorem Olds.map {w w' : World} {cur cur' : Value} {hs : List Value} {l : List (Bool × Int)} {j : Nat} (ho : Olds w cur hs l j) (hf : ∀ h k, Old w cur h k → Old w' cur' h k) : Olds w' cur' hs l j :=
  ⟨ho.1, fun i hi => by obtain ⟨h, e, o⟩ := ho.2 i hi; exact ⟨h, e, hf h _ o⟩⟩
theorem Olds.start (w : World) (l : List (Bool × Int)) : Olds w (.slice none 0 0) [.slice none 0 0] l 0 := by
  refine ⟨rfl, fun i hi => ?_⟩
  obtain rfl : i = 0 := by omega
  exact ⟨.slice none 0 0, rfl, Qu.old (base := 0) (l := []) (.inl ⟨rfl, rfl⟩)⟩
theorem one_row (w : World) {base : Nat} (v : Value) (e : TypeId) (hb : base ≤ w.heap.size) (h1 : v = v) : (w.alloc (.cells #[v] e)).ownsRow base e 1 (.slice (some ⟨w.heap.size, 0, none⟩) 1 1) (0 + 1) [v] :=
  ⟨rfl, .inr ⟨w.heap.size, 1, _, rfl, hb, heap_alloc_new w _, Nat.le_refl _, by simp [maxLen], rfl, rfl⟩⟩
set_option maxRecDepth 8000 in
set_option maxHeartbeats 4000000 in
theorem windowsOf_any (a : Option Addr) (n cap : Nat) (l : List (Bool × Int)) (w : World) (h : Ops w a n cap l) :
    Calls Tryz.prog 62 #[.slice a n cap] w (WinOut (Agg.opsOk l) l n w) := by
  obtain ⟨i0, hi0, hz0, hz1, hz2⟩ := info_parts infoWin
  have hll : l.length = n := h.1
  have HN := Lib.hid h; clear h
  obtain ⟨bb, hbb⟩ : ∃ bb, bb = Agg.opsOk l := ⟨_, rfl⟩
  rw [← hbb]
  have HBB := Lib.hid hbb; clear hbb
  obtain ⟨cb, hcb⟩ : ∃ cb, cb = (decide (n ≤ 200) && Agg.allOk l n) := ⟨_, rfl⟩
  have hC := changesOf_any a n cap l w HN.out
  rw [← hcb] at hC
  have HC := Lib.hid hC
  clear hC
  go_enter Tryz.func62, Tryz.ntmps62
  go_wp2_with fail
  refine HC.out.mono ?_
  rintro e w1 ⟨ht, hf⟩
  cases cb
  · obtain ⟨rfl, hb1⟩ := hf rfl
    have hno : Agg.opsOk l = false := by
      rw [Agg.opsOk, hll, ← hcb]; rfl
    clear ht hf HC
    have HB1 := Lib.hid hb1
    clear hb1 hcb
    go_wp2
    go_returns
    exact ⟨fun h => by rw [HBB.out, hno] at h; simp at h, fun _ => ⟨rfl, HB1.out⟩⟩
  · obtain ⟨cv, rfl, hch, hb1⟩ := ht rfl
    obtain ⟨ca, cc, hcv, hcn, hccm⟩ : ∃ ca cc, cv = .slice ca n cc ∧ n ≤ cc ∧ cc ≤ 9223372036854775807 := by
      rcases hch.2 with ⟨rfl, rfl⟩ | ⟨g, c2, cur, rfl, -, -, h1, h2, -⟩
      · exact ⟨none, 0, rfl, by omega, by omega⟩
      · exact ⟨_, c2, rfl, h1, by unfold maxLen at h2; omega⟩
    subst hcv
    have hb200 : n ≤ 200 := by have := hcb.symm; simp only [Bool.and_eq_true, decide_eq_true_eq] at this; exact this.1
    have hall : Agg.allOk l n = true := by have := hcb.symm; simp only [Bool.and_eq_true] at this; exact this.2
    clear ht hf HC hcb
    have hs1 := hb1.size
    have HCH := Lib.hid (hch.alloc (.cells #[.slice none 0 0] 27))
    have HW := Lib.hid (hb1.alloc hs1 (.cells #[.slice none 0 0] 27))
    have HR := Lib.hid (one_row w1 (base := w.heap.size) (.slice none 0 0) 27 hs1 rfl)
    have HOL := Lib.hid (Olds.start (w1.alloc (.cells #[.slice none 0 0] 27)) l)
    clear hch hb1
    go_wp2
    go_loopw [6, 7, 21] (fun wv ov i wr => ∃ (j : Nat) (hs : List Value), j ≤ n ∧ i = .int .i64 j ∧ Agg.fitTo l j = true ∧ Hid (Qu wr w.heap.size wv (Agg.winAt l j)) ∧ Hid (wr.ownsRow w.heap.size 27 1 ov (j + 1) hs) ∧ Hid (Olds wr wv hs l j) ∧ Hid (wr.ownsRow w.heap.size 136 1 (.slice ca n cc) n (l.map chg)) ∧ Hid (Below w.heap.size w wr)) (fun _ _ i _ => n - (intOf i).toNat)
    case atStart => exact ⟨0, _, Nat.zero_le _, rfl, rfl, Lib.hid (.inl ⟨rfl, rfl⟩), HR, HOL, HCH, HW⟩
    case round =>
      obtain ⟨j, hs, hj, rfl, hfit, hq, ho, hol, hch, hw⟩ := hrel
      clear HW HR HOL HCH
      have hwr := hw.out.size
      by_cases hlt : j < n
      · obtain ⟨gc, rfl⟩ : ∃ gc, ca = some ⟨gc, 0, none⟩ := by
          rcases hch.out.2 with ⟨_, h0⟩ | ⟨g, c2, cur, hv, -⟩
          · omega
          · simp only [Value.slice.injEq] at hv
            exact ⟨g, hv.1⟩
        have hcell := hch.out.cellAt j (by omega)
        rw [List.getElem?_map, List.getElem?_eq_getElem (show j < l.length by omega)] at hcell
        have hopj : Agg.opAt l j = l[j]'(by omega) := by simp [Agg.opAt, show j < l.length by omega]
        rw [← hopj] at hcell
        simp only [Option.map_some] at hcell
        have hfj : Agg.fitTo l (j + 1) = (Agg.fitTo l j && Agg.fits (Agg.winAt l j) (Agg.opAt l j)) := rfl
        have hwj : Agg.winAt l (j + 1) = Agg.stepW (Agg.winAt l j) (Agg.opAt l j) := rfl
        obtain ⟨L, hL⟩ : ∃ L, L = Agg.winAt l j := ⟨_, rfl⟩
        rw [hfit] at hfj
        rw [← hL] at hfj hwj hq
        have HLL := Lib.hid hL
        obtain ⟨⟨p, x⟩, hpx⟩ : ∃ o, o = Agg.opAt l j := ⟨_, rfl⟩
        rw [← hpx] at hcell hfj hwj
        clear hopj hL hpx
        have hk0 : (0 : Int) ≤ (j : Int) := Int.natCast_nonneg _
        have hkn : (j : Int) < (n : Int) := by omega
        obtain ⟨qa, qc, hqv, hqn, hqm⟩ := hq.out.form
        subst hqv
        have hnofit : Agg.fitTo l (j + 1) = false → Agg.opsOk l = false := fun h => Agg.opsOk_false_fit (i := j + 1) (by omega) h
        cases p
        · simp only [chg, Bool.false_eq_true, if_false] at hcell
          simp only [Agg.fits, Agg.stepW, Bool.false_eq_true, if_false, Bool.true_and] at hfj hwj
          by_cases hemp : L.length = 0
          · have hno := hnofit (by rw [hfj]; simp [hemp])
            have HNO := Lib.hid hno
            clear hfj hwj hnofit hno
            have HTF := Lib.hid (show ∀ w, Calls Tryz.prog 221 #[.agg #[], .int .i64 0] w fun e w' => e = .returned (.bool false) ∧ Below w.heap.size w w' from fun w => take_fits 0 w)
            go_wp2_with fail
            refine (HTF.out _).mono ?_
            rintro e w2 ⟨rfl, hb2⟩
            have HW2 := Lib.hid (hw.out.trans (hb2.mono hwr))
            clear hb2
            go_wp2_with fail
            go_returns
            exact ⟨fun h => by rw [HBB.out, HNO.out] at h; simp at h, fun _ => ⟨rfl, HW2.out⟩⟩
          · obtain ⟨g, off, rfl⟩ : ∃ g off, qa = some ⟨g, off, none⟩ := by
              rcases hq.out with ⟨_, h0⟩ | ⟨g, off, c2, cur, hv, -⟩
              · rw [h0] at hemp; simp at hemp
              · simp only [Value.slice.injEq] at hv
                exact ⟨g, off, hv.1⟩
            have HFJ := Lib.hid (show Agg.fitTo l (j + 1) = true by rw [hfj]; simp; omega)
            have HWJ := Lib.hid hwj
            clear hfj hwj hnofit
            obtain ⟨fb, hfb⟩ : ∃ fb : Bool, fb = decide ((0 : Int) < (L.length : Int)) := ⟨_, rfl⟩
            have hFB : fb = true := by rw [hfb]; exact decide_eq_true (by omega)
            have hTF := fun w => take_fits (L.length : Int) w
            rw [← hfb, hFB] at hTF
            have HTF := Lib.hid hTF
            clear hfb hFB hTF
            go_wp2_with fail
            refine (HTF.out _).mono ?_
            rintro e wf ⟨rfl, hbf⟩
            have hq1 := Lib.hid (hq.out.kept (Below.grownNone hbf none) (fun g e => by cases e))
            have ho1 := Lib.hid (ho.out.kept (Below.grownNone hbf none) (by cases hv : u7.ownBlock <;> simp))
            have hch1 := Lib.hid (hch.out.kept (Below.grownNone hbf none) (.inr (by simp [Value.ownBlock])))
            have hol1 := Lib.hid (hol.out.map (fun h k o => o.kept (Below.grownNone hbf none) (fun g e => by cases e)))
            have hw1 := Lib.hid (hw.out.trans (hbf.mono hwr))
            have hcell1 := (hbf.cell (World.block_lt_of_cell? _ _ hcell)).trans hcell
            clear hq ho hch hol hw hbf hcell
            clear hwr
            have hwr := hw1.out.size
            obtain ⟨wr, hwrw⟩ : ∃ wr, wr = wf := ⟨_, rfl⟩
            subst hwrw
            have hq := hq1
            have ho := ho1
            have hch := hch1
            have hol := hol1
            have hw := hw1
            have hcell := hcell1
            clear hq1 ho1 hch1 hol1 hw1 hcell1
            have HT := Lib.hid (take_apply wr g off L.length qc (by omega) hqn hqm)
            go_wp2_with fail
            refine HT.out.mono ?_
            rintro e w2 ⟨v2, rfl, hv2, hb2⟩
            have HB2 := Lib.hid hb2
            have HQ2 := Lib.hid (Qu.take (hq.out.kept (Below.grownNone hb2 none) (fun g e => by cases e)) (by omega) hv2)
            have HOL2 := Lib.hid (hol.out.map (fun h k o => (o.kept (Below.grownNone hb2 none) (fun g e => by cases e)).take (by omega) hqn (hv2.imp id (fun ⟨a, o, _, b⟩ => ⟨a, o, b⟩))))
            have HO2 := Lib.hid (ho.out.kept (Below.grownNone hb2 none) (by cases hv : u7.ownBlock <;> simp))
            have HC2 := Lib.hid (hch.out.kept (Below.grownNone hb2 none) (.inr (by simp [Value.ownBlock])))
            have HW2 := Lib.hid (hw.out.trans (hb2.mono hwr))
            clear hb2 HT hv2
            have hwsz := HW2.out.size
            have hlt' : ∀ g, u7.ownBlock = some g → w.heap.size ≤ g := fun g hg => (ho.out.lt g hg).1
            have hnoint : ∀ g, u7.ownBlock = some g → ¬ IntBlock (w2.alloc (.cells #[v2] 27)) g := not_int (HO2.out.alloc _) (by decide)
            have hap := rows_apart (HC2.out.alloc (.cells #[v2] 27)) (HO2.out.alloc (.cells #[v2] 27)) (by decide)
            have HNI := Lib.hid hnoint
            have HAP := Lib.hid hap
            clear hnoint hap
            obtain ⟨a2, m2, c2, rfl⟩ : ∃ a2 m2 c2, v2 = .slice a2 m2 c2 := by obtain ⟨a2, c2, h, -, -⟩ := HQ2.out.form; exact ⟨a2, _, c2, h⟩
            obtain ⟨L2, hL2⟩ : ∃ L2, L2 = Agg.winAt l (j + 1) := ⟨_, rfl⟩
            go_wp2_with (at_builtin; refine wpList_append_own _ rfl (.tmp 33) (.tmp 35) 79 rfl w.heap.size 27 i0 (.slice none 0 0) 1 24 Tryz.underlying79 hi0 hz0 hz1 hz2 rfl (by decide) _ _ _ rfl (HO2.out.alloc _) ⟨w2.heap.size, 0, none⟩ 1 1 [.slice a2 m2 c2] rfl rfl (cell_one_new _ _ _) (fun u hu => by rw [List.mem_singleton.1 hu]; rfl) (by unfold maxLen; omega) (by omega) (by simp; omega) ?_; intro v3 w3 hown3 hgrow3 hnil3; have HO3 := Lib.hid hown3; have HG3 := Lib.hid hgrow3; have HW3 := Lib.hid ((HW2.out.alloc HW2.out.size _).grown hgrow3 (by have := HW2.out.size; simp; omega) hlt'); clear hown3 hgrow3 hnil3)
            go_roundw
            case rel =>
              have hb1 : Below w2.heap.size w2 (w2.alloc (.cells #[.slice a2 m2 c2] 27)) := (Below.refl _ _).alloc (Nat.le_refl _) _
              have hq3 := (HQ2.out.kept (Below.grownNone hb1 none) (fun g e => by cases e)).kept HG3.out HNI.out
              have hol3 := HOL2.out.map (fun h k o => (o.kept (Below.grownNone hb1 none) (fun g e => by cases e)).kept HG3.out HNI.out)
              refine ⟨j + 1, _, by omega, by go_num, HFJ.out, Lib.hid ?_, HO3, Lib.hid (hol3.next ?_), Lib.hid ((HC2.out.alloc _).kept HG3.out HAP.out), HW3⟩
              · rw [HWJ.out]; exact hq3
              · rw [HWJ.out]; exact hq3.old
            case measure => simp [intOf]; omega
        · simp only [chg, if_true] at hcell
          simp only [Agg.fits, Agg.stepW, if_true, Bool.true_and] at hfj hwj
          by_cases hful : L.length < 60
          · have HFJ := Lib.hid (show Agg.fitTo l (j + 1) = true by rw [hfj]; simp [hful])
            have HWJ := Lib.hid hwj
            clear hfj hwj hnofit
            obtain ⟨fb, hfb⟩ : ∃ fb : Bool, fb = decide ((L.length : Int) < 60) := ⟨_, rfl⟩
            have hFB : fb = true := by rw [hfb]; exact decide_eq_true (by omega)
            have hPF := fun w => push_fits x (L.length : Int) w
            rw [← hfb, hFB] at hPF
            have HPF := Lib.hid hPF
            clear hfb hFB hPF
            go_wp2_with fail
            refine (HPF.out _).mono ?_
            rintro e wf ⟨rfl, hbf⟩
            have hq1 := Lib.hid (hq.out.kept (Below.grownNone hbf none) (fun g e => by cases e))
            have ho1 := Lib.hid (ho.out.kept (Below.grownNone hbf none) (by cases hv : u7.ownBlock <;> simp))
            have hch1 := Lib.hid (hch.out.kept (Below.grownNone hbf none) (.inr (by simp [Value.ownBlock])))
            have hol1 := Lib.hid (hol.out.map (fun h k o => o.kept (Below.grownNone hbf none) (fun g e => by cases e)))
            have hw1 := Lib.hid (hw.out.trans (hbf.mono hwr))
            have hcell1 := (hbf.cell (World.block_lt_of_cell? _ _ hcell)).trans hcell
            clear hq ho hch hol hw hbf hcell
            clear hwr
            have hwr := hw1.out.size
            obtain ⟨wr, hwrw⟩ : ∃ wr, wr = wf := ⟨_, rfl⟩
            subst hwrw
            have hq := hq1
            have ho := ho1
            have hch := hch1
            have hol := hol1
            have hw := hw1
            have hcell := hcell1
            clear hq1 ho1 hch1 hol1 hw1 hcell1
            have HP := Lib.hid (push_apply w.heap.size x _ L wr hq.out hwr hful)
            go_wp2_with fail
            refine HP.out.mono ?_
            rintro e w2 ⟨v2, rfl, hq2, ⟨wm, hwm, hpu⟩, hb2⟩
            have HQ2 := Lib.hid hq2
            have HOL2 := Lib.hid (hol.out.map (fun h k o => (o.kept (Below.grownNone hwm none) (fun g e => by cases e)).push hpu))
            have HO2 := Lib.hid (row_pushed ho.out (by decide) hwm hpu)
            have HC2 := Lib.hid (row_pushed hch.out (by decide) hwm hpu)
            have HW2 := Lib.hid (hw.out.trans hb2)
            clear hb2 HP hq2 hwm hpu
            have hwsz := HW2.out.size
            have hlt' : ∀ g, u7.ownBlock = some g → w.heap.size ≤ g := fun g hg => (ho.out.lt g hg).1
            have hnoint : ∀ g, u7.ownBlock = some g → ¬ IntBlock (w2.alloc (.cells #[v2] 27)) g := not_int (HO2.out.alloc _) (by decide)
            have hap := rows_apart (HC2.out.alloc (.cells #[v2] 27)) (HO2.out.alloc (.cells #[v2] 27)) (by decide)
            have HNI := Lib.hid hnoint
            have HAP := Lib.hid hap
            clear hnoint hap
            obtain ⟨a2, m2, c2, rfl⟩ : ∃ a2 m2 c2, v2 = .slice a2 m2 c2 := by obtain ⟨a2, c2, h, -, -⟩ := HQ2.out.form; exact ⟨a2, _, c2, h⟩
            obtain ⟨L2, hL2⟩ : ∃ L2, L2 = Agg.winAt l (j + 1) := ⟨_, rfl⟩
            go_wp2_with (at_builtin; refine wpList_append_own _ rfl (.tmp 33) (.tmp 35) 79 rfl w.heap.size 27 i0 (.slice none 0 0) 1 24 Tryz.underlying79 hi0 hz0 hz1 hz2 rfl (by decide) _ _ _ rfl (HO2.out.alloc _) ⟨w2.heap.size, 0, none⟩ 1 1 [.slice a2 m2 c2] rfl rfl (cell_one_new _ _ _) (fun u hu => by rw [List.mem_singleton.1 hu]; rfl) (by unfold maxLen; omega) (by omega) (by simp; omega) ?_; intro v3 w3 hown3 hgrow3 hnil3; have HO3 := Lib.hid hown3; have HG3 := Lib.hid hgrow3; have HW3 := Lib.hid ((HW2.out.alloc HW2.out.size _).grown hgrow3 (by have := HW2.out.size; simp; omega) hlt'); clear hown3 hgrow3 hnil3)
            go_roundw
            case rel =>
              have hb1 : Below w2.heap.size w2 (w2.alloc (.cells #[.slice a2 m2 c2] 27)) := (Below.refl _ _).alloc (Nat.le_refl _) _
              have hq3 := (HQ2.out.kept (Below.grownNone hb1 none) (fun g e => by cases e)).kept HG3.out HNI.out
              have hol3 := HOL2.out.map (fun h k o => (o.kept (Below.grownNone hb1 none) (fun g e => by cases e)).kept HG3.out HNI.out)
              refine ⟨j + 1, _, by omega, by go_num, HFJ.out, Lib.hid ?_, HO3, Lib.hid (hol3.next ?_), Lib.hid ((HC2.out.alloc _).kept HG3.out HAP.out), HW3⟩
              · rw [HWJ.out]; exact hq3
              · rw [HWJ.out]; exact hq3.old
            case measure => simp [intOf]; omega
          · have hno := hnofit (by rw [hfj]; simp; omega)
            have HNO := Lib.hid hno
            obtain ⟨fb, hfb⟩ : ∃ fb : Bool, fb = decide ((L.length : Int) < 60) := ⟨_, rfl⟩
            have hFB : fb = false := by rw [hfb]; exact decide_eq_false (by omega)
            have hPF := fun w => push_fits x (L.length : Int) w
            rw [← hfb, hFB] at hPF
            have HPF := Lib.hid hPF
            clear hfb hFB hPF hfj hwj hnofit hno
            go_wp2_with fail
            refine (HPF.out _).mono ?_
            rintro e w2 ⟨rfl, hb2⟩
            have HW2 := Lib.hid (hw.out.trans (hb2.mono hwr))
            clear hb2
            go_wp2_with fail
            go_returns
            exact ⟨fun h => by rw [HBB.out, HNO.out] at h; simp at h, fun _ => ⟨rfl, HW2.out⟩⟩
      · obtain rfl : j = n := by omega
        have hyes : Agg.opsOk l = true := by rw [Agg.opsOk, hll, hall, hfit]; simp [hb200]
        have HY := Lib.hid hyes
        clear hyes
        go_wp2
        go_returns
        refine ⟨fun _ => ⟨_, hs, rfl, ho.out, fun i hi => ?_, hw.out⟩, fun h => by rw [HBB.out, HY.out] at h; simp at h⟩
        obtain ⟨h, e, a', n', c', rfl, hN, -⟩ := hol.out.2 i hi
        exact ⟨a', n', c', e, hN⟩
end Go.Proofs.YtikdjdoggjhmaaaGreat
