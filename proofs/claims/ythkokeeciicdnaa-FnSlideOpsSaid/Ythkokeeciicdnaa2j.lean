/-
  FormatOps, in the program and in the model.
-/
import Derived.Test.Ythkokeeciicdnaa2m
import Derived.Test.Ythkokeeciicdnaa2l
import Derived.Deep.DeepMust
namespace Go.Proofs.Ythkokeeciicdnaa
set_option linter.unusedSimpArgs false
set_option linter.unusedVariables false
open Go.RowKit
/-- The text that FormatOps answers. -/
def Agg.textOut (l : List (Bool × Int)) : List UInt8 := if Agg.opsOk l then Agg.text l else []
def wordVal (o : Bool × Int) : Value := .string ⟨(Agg.word o).toArray⟩
theorem infoStr : (Try.prog.info? 9).map (fun i => (i.zero, i.size, i.bytes)) = some (some (.string ⟨#[]⟩), 1, 16) := by kernel_rfl
theorem string_oneCell (s : ByteArray) : ∀ u ∈ [Value.string s], u.oneCell' = true := by
  intro u hu
  rw [List.mem_singleton.1 hu]
  rfl
set_option maxRecDepth 8000 in
set_option maxHeartbeats 2000000 in
theorem formatOps_any (a : Option Addr) (n cap : Nat) (l : List (Bool × Int)) (w : World) (h : Ops w a n cap l) :
    Calls Try.prog 16 #[.slice a n cap] w fun e w' => e = .returned (.string ⟨(Agg.textOut l).toArray⟩) ∧ Below w.heap.size w w' := by
  obtain ⟨i0, hi0, hz0, hz1, hz2⟩ := info_parts infoStr
  have hll : l.length = n := h.1
  have HV := fun w h => opsValid_any a n cap l w h
  have HH := Lib.hid h
  cases hb : Agg.opsOk l
  · have e : Agg.textOut l = [] := by simp [Agg.textOut, hb]
    rw [e]
    rw [hb] at HV
    have HV2 := Lib.hid HV
    clear HV e hb h
    go_enter Try.func16, Try.ntmps16
    go_wp2_with fail
    refine (HV2.out _ HH.out).mono ?_
    rintro e w1 ⟨rfl, hb1⟩
    have HB1 := Lib.hid hb1
    clear hb1
    go_wp2_with fail
    go_returns
    exact ⟨rfl, HB1.out⟩
  · have e : Agg.textOut l = Agg.text l := by simp [Agg.textOut, hb]
    rw [e]
    have hp : l.length ≤ 200 ∧ Agg.allOk l l.length = true := by
      simp only [Agg.opsOk, Bool.and_eq_true, decide_eq_true_eq] at hb
      exact ⟨hb.1.1, hb.1.2⟩
    have hn200 : n ≤ 200 := by omega
    have hC := fun w h => changesOf_any a n cap l w h
    rw [show (decide (n ≤ 200) && Agg.allOk l n) = true by rw [← hll, hp.2]; simp; omega] at hC
    have HC := Lib.hid hC
    rw [hb] at HV
    have HV2 := Lib.hid HV
    have HP := Lib.hid hp
    have HL := Lib.hid hll
    clear HV e hb h hC hp hll
    go_enter Try.func16, Try.ntmps16
    go_wp2_with fail
    refine (HV2.out _ HH.out).mono ?_
    rintro e w1 ⟨rfl, hb1⟩
    have HB1 := Lib.hid hb1
    clear hb1
    go_wp2_with fail
    refine (HC.out _ (HH.out.below HB1.out)).mono ?_
    rintro e w2 ⟨ht, -⟩
    obtain ⟨v, rfl, hrow, hb2⟩ := ht rfl
    have hs2 := hb2.size
    obtain ⟨ga, gc, rfl⟩ : ∃ ga gc, v = .slice ga n gc := by
      rcases hrow.2 with ⟨rfl, h0⟩ | ⟨g, c2, cur, rfl, -⟩
      · exact ⟨none, 0, by rw [h0]⟩
      · exact ⟨_, _, rfl⟩
    have HR := Lib.hid hrow
    have HB2 := Lib.hid (HB1.out.trans (hb2.mono HB1.out.size))
    clear hb2 hrow ht HB1
    go_wp2_with (at_make; refine wpList_make_own _ rfl _ _ 76 rfl w2.heap.size 9 i0 (.string ⟨#[]⟩) 1 Try.underlying76 hi0 hz0 hz1 .i64 .i64 _ n rfl rfl rfl ?b1 ?b2 ?b3 ?_)
    case b1 => rw [hz2]; omega
    case b2 => unfold maxLen; omega
    case b3 => exact Nat.le_refl _
    intro w3 hown hgrow
    have HO := Lib.hid (show w3.ownsRow w2.heap.size 9 1 (.slice (some ⟨w2.heap.size, 0, none⟩) 0 n) 0 ((l.take 0).map wordVal) from hown)
    have HB3 := Lib.hid ((Below.refl w2.heap.size w2).grown hgrow (Nat.le_refl _) (fun k hk => by simp at hk))
    clear hown hgrow
    go_wp2_with fail
    go_loopw [5, 21] (fun ov i wr => ∃ j : Nat, j ≤ n ∧ i = .int .i64 j ∧ Hid (wr.ownsRow w2.heap.size 9 1 ov j ((l.take j).map wordVal)) ∧ Hid (Below w2.heap.size w2 wr)) (fun _ i _ => n - (intOf i).toNat)
    case atStart => exact ⟨0, Nat.zero_le _, rfl, HO, HB3⟩
    case round =>
      obtain ⟨j, hj, rfl, ho, hw⟩ := hrel
      clear HO HB3
      have hwr := hw.out.size
      by_cases hlt : j < n
      · obtain ⟨g, hg⟩ : ∃ g, ga = some ⟨g, 0, none⟩ := by
          rcases HR.out.2 with ⟨e, h0⟩ | ⟨g, c2, cur, e, -⟩
          · simp only [Value.slice.injEq] at e; omega
          · simp only [Value.slice.injEq] at e; exact ⟨g, e.1⟩
        subst hg
        have hgl : g < w2.heap.size := (HR.out.lt g rfl).2
        have hcell := (hw.out.cell (p := ⟨g, j, none⟩) hgl).trans (HR.out.cellAt j (by omega))
        have hst : (l.take (j + 1)).map wordVal = (l.take j).map wordVal ++ [wordVal (Agg.opAt l j)] := by rw [take_at l j (by have := HL.out; omega), List.map_append, List.map_singleton]
        have hop := Agg.opOk_at (i := j) (n := l.length) (by have := HL.out; omega) HP.out.2
        have hce : (l.map chg)[j]? = some (chg (Agg.opAt l j)) := by simp [Agg.opAt, show j < l.length by have := HL.out; omega]
        rw [hce] at hcell
        obtain ⟨⟨p, x⟩, hx⟩ : ∃ x, x = Agg.opAt l j := ⟨_, rfl⟩
        rw [← hx] at hcell hst hop
        have HST := Lib.hid hst
        clear hst hx hce
        have hk0 : (0 : Int) ≤ (j : Int) := Int.natCast_nonneg _
        have hkn : (j : Int) < (n : Int) := by omega
        have hlt' : ∀ q, u5.ownBlock = some q → w2.heap.size ≤ q := fun q hq => (ho.out.lt q hq).1
        cases p
        · obtain rfl : x = 0 := by simpa [Agg.opOk] using hop
          simp only [chg, Bool.false_eq_true, if_false] at hcell
          have HWD := Lib.hid (fun w => take_word w)
          obtain ⟨WB, hWB⟩ : ∃ WB : ByteArray, WB = ⟨(Agg.word (false, 0)).toArray⟩ := ⟨_, rfl⟩
          have HWB := Lib.hid (show wordVal (false, 0) = .string WB from by rw [hWB]; rfl)
          have HWD2 := Lib.hid (show ∀ w, Calls Try.prog 165 #[.agg #[]] w fun e w' => e = .returned (.string WB) ∧ Below w.heap.size w w' from by rw [hWB]; exact HWD.out)
          clear hWB HWD
          go_wp2_with fail
          refine (HWD2.out _).mono ?_
          rintro e w4 ⟨rfl, hb4⟩
          have HO4 := Lib.hid (ho.out.kept (Below.grownNone hb4 none) (by cases hv : u5.ownBlock <;> simp))
          have HW4 := Lib.hid (hw.out.trans (hb4.mono hwr))
          have hs4 := hb4.size
          clear hb4
          go_wp2_with (at_builtin; go_must (refine wpList_append_own _ rfl (.tmp 25) (.tmp 28) 76 rfl w2.heap.size 9 i0 (.string ⟨#[]⟩) 1 16 Try.underlying76 hi0 hz0 hz1 hz2 rfl (by decide) _ _ _ rfl (HO4.out.alloc _) ⟨w4.heap.size, 0, none⟩ 1 1 [.string WB] rfl rfl (cell_one_new _ _ _) (string_oneCell WB) (by unfold maxLen; omega) (by omega) (by simp; omega) ?_); intro v' w5 hown5 hgrow5 hnil5; have HO5 := Lib.hid hown5; have HW5 := Lib.hid ((HW4.out.alloc HW4.out.size _).grown hgrow5 (by have := HW4.out.size; simp; omega) hlt'); clear hown5 hgrow5 hnil5)
          go_roundw
          case rel =>
            refine ⟨j + 1, by omega, by go_num, Lib.hid ?_, HW5⟩
            rw [HST.out, HWB.out]
            exact HO5.out
          case measure => simp [intOf]; omega
        · simp only [Agg.opOk, if_true, Agg.isItem, decide_eq_true_eq] at hop
          obtain ⟨i, rfl⟩ := Int.eq_ofNat_of_zero_le hop.1
          have hi96 : i ≤ 96 := by omega
          simp only [chg, if_true] at hcell
          have HWD := Lib.hid (fun w => push_word i hi96 w)
          obtain ⟨WB, hWB⟩ : ∃ WB : ByteArray, WB = ⟨(Agg.word (true, (i : Int))).toArray⟩ := ⟨_, rfl⟩
          have HWB := Lib.hid (show wordVal (true, (i : Int)) = .string WB from by rw [hWB]; rfl)
          have HWD2 := Lib.hid (show ∀ w, Calls Try.prog 148 #[.agg #[.int .i64 (i : Int)]] w fun e w' => e = .returned (.string WB) ∧ Below w.heap.size w w' from by rw [hWB]; exact HWD.out)
          clear hWB HWD
          go_wp2_with fail
          refine (HWD2.out _).mono ?_
          rintro e w4 ⟨rfl, hb4⟩
          have HO4 := Lib.hid (ho.out.kept (Below.grownNone hb4 none) (by cases hv : u5.ownBlock <;> simp))
          have HW4 := Lib.hid (hw.out.trans (hb4.mono hwr))
          have hs4 := hb4.size
          clear hb4
          go_wp2_with (at_builtin; go_must (refine wpList_append_own _ rfl (.tmp 25) (.tmp 28) 76 rfl w2.heap.size 9 i0 (.string ⟨#[]⟩) 1 16 Try.underlying76 hi0 hz0 hz1 hz2 rfl (by decide) _ _ _ rfl (HO4.out.alloc _) ⟨w4.heap.size, 0, none⟩ 1 1 [.string WB] rfl rfl (cell_one_new _ _ _) (string_oneCell WB) (by unfold maxLen; omega) (by omega) (by simp; omega) ?_); intro v' w5 hown5 hgrow5 hnil5; have HO5 := Lib.hid hown5; have HW5 := Lib.hid ((HW4.out.alloc HW4.out.size _).grown hgrow5 (by have := HW4.out.size; simp; omega) hlt'); clear hown5 hgrow5 hnil5)
          go_roundw
          case rel =>
            refine ⟨j + 1, by omega, by go_num, Lib.hid ?_, HW5⟩
            rw [HST.out, HWB.out]
            exact HO5.out
          case measure => simp [intOf]; omega
      · obtain rfl : j = n := by omega
        have hall : l.take j = l := List.take_of_length_le (by have := HL.out; omega)
        have ho2 := ho.out
        rw [hall] at ho2
        have hbs : Below w.heap.size w wr := HB2.out.trans (hw.out.mono (by have := HB2.out.size; omega))
        have HBS := Lib.hid hbs
        have hlen := Agg.text_len l HP.out.2 l.length (Nat.le_refl _)
        rw [List.take_length] at hlen
        have hwords : (l.map fun o => (⟨(Agg.word o).toArray⟩ : ByteArray)).map (·.data.toList) = l.map Agg.word := by simp [List.map_map, Function.comp_def]
        rcases ho2.2 with ⟨rfl, h0⟩ | ⟨g, c2, cur, rfl, hg1, hg2, hg3, hg4, hg5⟩
        · obtain rfl : l = [] := List.eq_nil_of_length_eq_zero (by have := HL.out; omega)
          have HJ := Lib.hid (fun w => Try.strings_Join_none none 0 ⟨#[32]⟩ w)
          have hj0 : j = 0 := by have := HL.out; simp at this; omega
          subst hj0
          clear ho2 hall hbs hlen hwords
          go_wp2_with fail
          refine (HJ.out _).mono ?_
          rintro e w5 ⟨rfl, rfl⟩
          go_wp2_with fail
          go_returns
          exact ⟨rfl, HBS.out⟩
        · have hJ := Try.strings_Join g 0 c2 (l.map fun o => (⟨(Agg.word o).toArray⟩ : ByteArray)) ⟨#[32]⟩ wr (by
              intro q x hq
              have hql : q < l.length := by have := (List.getElem?_eq_some_iff.1 hq).1; simpa using this
              rw [Nat.zero_add, ho2.cellAt q (by have := HL.out; omega)]
              simp [List.getElem?_map, List.getElem?_eq_getElem hql] at hq ⊢
              rw [← hq]; rfl) ((Array.getElem?_eq_some_iff.1 hg2).1) (by have := HL.out; simp; omega) (by have := HL.out; simp; omega)
            (by rw [hwords]; show (Agg.text l).length ≤ _; have := HL.out; omega)
          rw [List.length_map, HL.out, hwords] at hJ
          have HJ := Lib.hid (show Calls Try.prog 40 #[.slice (some ⟨g, 0, none⟩) j c2, .string ⟨#[32]⟩] wr fun e w' => e = .returned (.string ⟨(Agg.text l).toArray⟩) ∧ Below wr.heap.size wr w' from hJ)
          clear ho2 hall hbs hlen hwords hJ hg1 hg2 hg3 hg4 hg5
          go_wp2_with fail
          refine HJ.out.mono ?_
          rintro e w5 ⟨rfl, hb5⟩
          have HB5 := Lib.hid (HBS.out.trans (hb5.mono HBS.out.size))
          clear hb5
          go_wp2_with fail
          go_returns
          exact ⟨rfl, HB5.out⟩
set_option maxRecDepth 8000 in
set_option maxHeartbeats 2000000 in
theorem s_formatOps_any (a : Option Addr) (n cap : Nat) (l : List (Bool × Int)) (w : World) (h : Ops w a n cap l) :
    Calls Try.prog 14 #[.slice a n cap] w fun e w' => e = .returned (.string ⟨(Agg.textOut l).toArray⟩) ∧ Below w.heap.size w w' := by
  have hll : l.length = n := h.1
  have hV := fun w h => s_l2Ops_any a n cap l w h
  have HH := Lib.hid h
  have H4 := Lib.hid h.2.2.2
  cases hb : Agg.opsOk l
  · have e : Agg.textOut l = [] := by simp [Agg.textOut, hb]
    rw [e]
    rw [hb] at hV
    have HV := Lib.hid hV
    clear hV e hb h
    go_enter Try.func14, Try.ntmps14
    go_wp2_with fail
    refine (HV.out _ HH.out).mono ?_
    rintro e w1 ⟨rfl, hb1⟩
    have HB1 := Lib.hid hb1
    clear hb1
    go_wp2_with fail
    go_returns
    exact ⟨rfl, HB1.out⟩
  · have e : Agg.textOut l = Agg.text l := by simp [Agg.textOut, hb]
    rw [e]
    have hp : l.length ≤ 200 ∧ Agg.allOk l l.length = true := by
      simp only [Agg.opsOk, Bool.and_eq_true, decide_eq_true_eq] at hb
      exact ⟨hb.1.1, hb.1.2⟩
    have hn200 : n ≤ 200 := by omega
    rw [hb] at hV
    have HV := Lib.hid hV
    have HP := Lib.hid hp
    have HL := Lib.hid hll
    clear hV e hb h hp hll
    go_enter Try.func14, Try.ntmps14
    go_wp2_with fail
    refine (HV.out _ HH.out).mono ?_
    rintro e w1 ⟨rfl, hb1⟩
    have HB1 := Lib.hid hb1
    clear hb1
    go_wp2_with fail
    go_loopw [3, 4] (fun ov i wr => ∃ j : Nat, j ≤ n ∧ i = .int .i64 j ∧ ov = .string ⟨(Agg.text (l.take j)).toArray⟩ ∧ Hid (Below w.heap.size w wr)) (fun _ i _ => n - (intOf i).toNat)
    case atStart => exact ⟨0, Nat.zero_le _, rfl, rfl, HB1⟩
    case round =>
      obtain ⟨j, hj, rfl, rfl, hw⟩ := hrel
      clear HB1
      have hwr := hw.out.size
      by_cases hlt : j < n
      · rcases H4.out with h4 | ⟨b, off, rfl, hbl, hcs⟩
        · omega
        · have hck := (hw.out.cell (p := ⟨b, off + j * 2, none⟩) hbl).trans (hcs j hlt).1
          have hcl := (hw.out.cell (p := ⟨b, off + j * 2 + 1, none⟩) hbl).trans (hcs j hlt).2
          clear hcs
          have hst := Agg.text_step l j (by have := HL.out; omega)
          have hop := Agg.opOk_at (i := j) (n := l.length) (by have := HL.out; omega) HP.out.2
          have hlen := Agg.text_len l HP.out.2 j (by have := HL.out; omega)
          simp only [Agg.opAt] at hst hop
          obtain ⟨⟨p, x⟩, hx⟩ : ∃ x, x = l[j]?.getD (false, 0) := ⟨_, rfl⟩
          rw [← hx] at hck hcl hst hop
          obtain ⟨T0, hT0⟩ : ∃ T0, T0 = Agg.text (l.take j) := ⟨_, rfl⟩
          rw [← hT0] at hst hlen ⊢
          have hk0 : (0 : Int) ≤ (j : Int) := Int.natCast_nonneg _
          have hkn : (j : Int) < (n : Int) := by omega
          obtain ⟨T1, hT1⟩ : ∃ T1, T1 = (if j = 0 then [] else T0 ++ [32]) := ⟨_, rfl⟩
          rw [← hT1] at hst
          have hl1 : T1.length ≤ 4 * j + 1 := by rw [hT1]; split <;> simp; omega
          have hT1z : j = 0 → T0 = T1 := by
            intro h0
            subst h0
            rw [hT1, if_pos rfl, hT0]; simp [Agg.text_nil]
          have hT1p : j ≠ 0 → (⟨T0.toArray⟩ ++ ⟨#[32]⟩ : ByteArray) = ⟨T1.toArray⟩ := by
            intro h0
            rw [hT1, if_neg h0]
            exact cat T0 [32]
          have HST := Lib.hid hst
          clear hst hT1 hT0 hx
          cases p
          · obtain rfl : x = 0 := by simpa [Agg.opOk] using hop
            obtain ⟨T3, hT3⟩ : ∃ T3, T3 = T1 ++ [45] := ⟨_, rfl⟩
            have hc3 : (⟨T1.toArray⟩ ++ ⟨#[45]⟩ : ByteArray) = ⟨T3.toArray⟩ := by rw [hT3]; exact cat T1 [45]
            have HT3 := Lib.hid (show Agg.text (l.take (j + 1)) = T3 from by rw [HST.out, hT3]; rfl)
            clear hT3 HST
            by_cases h0 : j = 0
            · obtain rfl := hT1z h0
              have hn2 : ¬ (9223372036854775807 < T0.length + 1) := by omega
              clear hT1p hT1z
              subst h0
              simp only [Nat.zero_mul, Nat.add_zero] at hck hcl
              go_wp2_with fail
              (try (go_quiet (fail); go_wp2_with fail))
              go_roundw
              case rel => exact ⟨0 + 1, by omega, by first | go_num | rfl, by rw [HT3.out], by first | exact hw | exact Lib.hid hw.out.drew | exact Lib.hid (below_drewN hw.out _)⟩
              case measure => simp [intOf]; omega
            · have hc1 := hT1p h0
              have h0' : (0 : Int) < (j : Int) := by omega
              have hn1 : ¬ (9223372036854775807 < T0.length + 1) := by omega
              have hn2 : ¬ (9223372036854775807 < T1.length + 1) := by omega
              clear hT1p hT1z
              go_wp2_with fail
              (try (go_quiet (fail); go_wp2_with fail))
              go_roundw
              case rel => exact ⟨j + 1, by omega, by go_num, by rw [HT3.out], by first | exact hw | exact Lib.hid hw.out.drew | exact Lib.hid (below_drewN hw.out _)⟩
              case measure => simp [intOf]; omega
          · simp only [Agg.opOk, if_true, Agg.isItem, decide_eq_true_eq] at hop
            obtain ⟨D, hD⟩ : ∃ D, D = Lib.decDigits x.toNat := ⟨_, rfl⟩
            have hDl : D.length ≤ 2 := by rw [hD]; exact dec_len _ (by omega)
            have hdec := fun w => l16Dec_any x hop.1 hop.2 w
            rw [← hD] at hdec
            have HDEC := Lib.hid hdec
            obtain ⟨T2, hT2⟩ : ∃ T2, T2 = T1 ++ [43] := ⟨_, rfl⟩
            have hc2 : (⟨T1.toArray⟩ ++ ⟨#[43]⟩ : ByteArray) = ⟨T2.toArray⟩ := by rw [hT2]; exact cat T1 [43]
            have hl2 : T2.length ≤ 4 * j + 2 := by rw [hT2]; simp; omega
            obtain ⟨T3, hT3⟩ : ∃ T3, T3 = T2 ++ D := ⟨_, rfl⟩
            have hc3 : (⟨T2.toArray⟩ ++ ⟨D.toArray⟩ : ByteArray) = ⟨T3.toArray⟩ := by rw [hT3]; exact cat T2 D
            have HT3 := Lib.hid (show Agg.text (l.take (j + 1)) = T3 from by rw [HST.out, hT3, hT2, Agg.word]; simp only [if_true, ← hD]; simp)
            clear hT3 hT2 HST hdec hD
            have hn2 : ¬ (9223372036854775807 < T1.length + 1) := by omega
            have hn3 : ¬ (9223372036854775807 < T2.length + D.length) := by omega
            by_cases h0 : j = 0
            · obtain rfl := hT1z h0
              clear hT1p hT1z
              subst h0
              simp only [Nat.zero_mul, Nat.add_zero] at hck hcl
              go_wp2_with fail
              refine (HDEC.out _).mono ?_
              rintro e w4 ⟨rfl, hb4⟩
              have HW4 := Lib.hid (hw.out.trans (hb4.mono hwr))
              clear hb4
              go_wp2_with fail
              go_roundw
              case rel => exact ⟨0 + 1, by omega, by first | go_num | rfl, by rw [HT3.out], HW4⟩
              case measure => simp [intOf]; omega
            · have hc1 := hT1p h0
              have h0' : (0 : Int) < (j : Int) := by omega
              have hn1 : ¬ (9223372036854775807 < T0.length + 1) := by omega
              clear hT1p hT1z
              go_wp2_with fail
              refine (HDEC.out _).mono ?_
              rintro e w4 ⟨rfl, hb4⟩
              have HW4 := Lib.hid (hw.out.trans (hb4.mono hwr))
              clear hb4
              go_wp2_with fail
              go_roundw
              case rel => exact ⟨j + 1, by omega, by go_num, by rw [HT3.out], HW4⟩
              case measure => simp [intOf]; omega
      · obtain rfl : j = n := by omega
        have hall : l.take j = l := List.take_of_length_le (by have := HL.out; omega)
        rw [hall]
        clear hall
        go_wp2_with fail
        go_returns
        exact ⟨rfl, hw.out⟩
end Go.Proofs.Ythkokeeciicdnaa
