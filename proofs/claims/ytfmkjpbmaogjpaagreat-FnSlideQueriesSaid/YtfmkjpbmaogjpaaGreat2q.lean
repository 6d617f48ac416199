/-
  QueriesOf, in the program and in the model.
-/
import Derived.Test.YtfmkjpbmaogjpaaGreat2b
namespace Go.Proofs.YtfmkjpbmaogjpaaGreat
set_option linter.unusedSimpArgs false
set_option linter.unusedVariables false
open Go.RowKit
/-- The numbers of the windows after each change. -/
def Agg.qs (k : Int) (l : List (Bool × Int)) : List Int := (List.range l.length).map fun i => Agg.number k (Agg.winAt l (i + 1))
def Agg.qOk (k : Int) (l : List (Bool × Int)) : Bool := Agg.isKind k && Agg.opsOk l
def Agg.qOut (k : Int) (l : List (Bool × Int)) : List Int := if Agg.qOk k l then Agg.qs k l else []
theorem Agg.qs_len (k : Int) (l : List (Bool × Int)) : (Agg.qs k l).length = l.length := by simp [Agg.qs]
theorem Agg.qs_step (k : Int) (l : List (Bool × Int)) (j : Nat) (h : j < l.length) : (Agg.qs k l).take (j + 1) = (Agg.qs k l).take j ++ [Agg.number k (Agg.winAt l (j + 1))] := by
  rw [List.take_succ_eq_append_getElem (by rw [Agg.qs_len]; exact h)]
  simp [Agg.qs]
theorem Agg.qOut_len (k : Int) (l : List (Bool × Int)) : (Agg.qOut k l).length ≤ 200 := by
  unfold Agg.qOut
  split
  · rename_i h
    simp only [Agg.qOk, Bool.and_eq_true] at h
    rw [Agg.qs_len]
    exact (Agg.opsOk_parts h.2).1
  · simp
theorem Agg.win_ok {l : List (Bool × Int)} (h : Agg.opsOk l = true) (i : Nat) (hi : i ≤ l.length) : Agg.itemsOk (Agg.winAt l i) = true := by
  obtain ⟨-, h1, h2⟩ := Agg.opsOk_parts h
  exact Agg.items_of (Agg.win_len i (Agg.fitTo_down hi h2)) (Agg.win_items i (Agg.allOk_down hi h1))
set_option maxRecDepth 8000 in
set_option maxHeartbeats 4000000 in
theorem queriesOf_any (k : Int) (a : Option Addr) (n cap : Nat) (l : List (Bool × Int)) (w : World) (h : Ops w a n cap l) :
    Calls Tryz.prog 21 #[.int .i64 k, .slice a n cap] w (RowOut (Agg.qOut k l) (Agg.qOk k l) w) := by
  obtain ⟨i0, hi0, hz0, hz1, hz2⟩ := info_parts infoInt
  have hll : l.length = n := h.1
  have hcap := h.2.1
  have hcapm : cap ≤ 9223372036854775807 := by have := h.2.2.1; unfold maxLen at this; omega
  have HW := Lib.hid (windowsOf_any a n cap l w h)
  clear h
  cases hb : Agg.opsOk l
  · have e : Agg.qOk k l = false := by simp [Agg.qOk, hb]
    rw [Agg.qOut, e, if_neg (by simp)]
    have HW2 := Lib.hid (HW.out)
    rw [hb] at HW2
    clear HW e hb
    go_enter Tryz.func21, Tryz.ntmps21
    go_wp2_with fail
    refine HW2.out.mono ?_
    rintro e w1 ⟨-, hf⟩
    obtain ⟨rfl, hb1⟩ := hf rfl
    have HB := Lib.hid hb1
    clear hf hb1 HW2
    go_wp2
    go_returns
    exact RowOut.none_ HB.out
  · have HW2 := Lib.hid (HW.out)
    rw [hb] at HW2
    have HP := Lib.hid (Agg.opsOk_parts hb)
    have HOK := Lib.hid (fun i => Agg.win_ok hb i)
    cases hk : Agg.isKind k
    · have e : Agg.qOk k l = false := by simp [Agg.qOk, hk]
      rw [Agg.qOut, e, if_neg (by simp)]
      clear HW e hb
      go_enter Tryz.func21, Tryz.ntmps21
      go_wp2_with fail
      refine HW2.out.mono ?_
      rintro e w1 ⟨ht, -⟩
      obtain ⟨v, hs, rfl, hrow, hwin, hb1⟩ := ht rfl
      have HB := Lib.hid hb1
      clear ht hrow hwin hb1 HW2
      go_wp2_with fail
      refine (kindValid_any _ _).mono ?_
      rintro e wk ⟨rfl, rfl⟩
      rw [hk]
      go_wp2
      go_returns
      exact RowOut.none_ HB.out
    · have e : Agg.qOk k l = true := by simp [Agg.qOk, hk, hb]
      rw [Agg.qOut, e, if_pos rfl]
      have hn200 : n ≤ 200 := by have := HP.out.1; omega
      have HF := Lib.hid (fun a cap w h' => foldNumbers_any k hk a n cap (fun i => Agg.winAt l (i + 1)) (by omega) (fun i hi => HOK.out (i + 1) (by omega)) w h')
      rw [show Agg.nums k (fun i => Agg.winAt l (i + 1)) n = Agg.qs k l by rw [Agg.nums, Agg.qs, hll]] at HF
      obtain ⟨S, hS⟩ : ∃ S, S = Agg.qs k l := ⟨_, rfl⟩
      rw [← hS] at HF ⊢
      clear HW e hb hS HP
      go_enter Tryz.func21, Tryz.ntmps21
      go_wp2_with fail
      refine HW2.out.mono ?_
      rintro e w1 ⟨ht, -⟩
      obtain ⟨v, hs, rfl, hrow, hwin, hb1⟩ := ht rfl
      obtain ⟨gw, cw, hv, hcw, hcm⟩ : ∃ gw cw, v = .slice (some ⟨gw, 0, none⟩) (n + 1) cw ∧ n + 1 ≤ cw ∧ cw ≤ 9223372036854775807 := by
        rcases hrow.2 with ⟨rfl, h0⟩ | ⟨g, c2, cur, rfl, -, -, h1, h2, -⟩
        · omega
        · exact ⟨g, c2, rfl, h1, by unfold maxLen at h2; omega⟩
      subst hv
      have hgw : gw < w1.heap.size := (hrow.lt gw rfl).2
      have HR := Lib.hid (show Rows2 w1 (some ⟨gw, 1, none⟩) n (cw - 1) (fun i => Agg.winAt l (i + 1)) from ⟨by omega, by omega, .inr ⟨gw, 1, rfl, hgw, fun i hi => by
        obtain ⟨a', m, c, e1, e2⟩ := hwin (i + 1) (by omega)
        exact ⟨a', m, c, by rw [Nat.add_comm]; exact (hrow.cellAt (i + 1) (by omega)).trans e1, e2⟩⟩⟩)
      have HB := Lib.hid hb1
      have hs1 := hb1.size
      clear ht hrow hwin hb1 HW2
      go_wp2_with fail
      refine (kindValid_any _ _).mono ?_
      rintro e wk ⟨rfl, rfl⟩
      rw [hk]
      have hcw1 : (1 : Int) ≤ (n : Int) + 1 := by omega
      have hcw2 : (1 : Int) ≤ (cw : Int) := by omega
      by_cases hc1 : cw = 1
      · subst hc1
        obtain rfl : n = 0 := by omega
        go_wp2_with fail
        refine (HF.out _ _ _ (Rows2.zero _ _ _ _ (by omega))).mono ?_
        rintro e w2 ⟨v2, rfl, ho, hb2⟩
        have HB2 := Lib.hid (HB.out.trans (hb2.mono hs1))
        have HO2 := Lib.hid ho
        clear hb2 ho
        go_wp2_with fail
        go_returns
        exact ⟨_, _, rfl, ⟨owns_lower HO2.out.1 hs1, Nat.le_trans hs1 HO2.out.2.1, HO2.out.2.2.1, HO2.out.2.2.2⟩, HB2.out⟩
      · have hcw3 : (1 : Int) < (cw : Int) := by omega
        have hcw4 : ¬ (cw - 1 = 0) := by omega
        go_wp2_with fail
        refine (HF.out _ _ _ HR.out).mono ?_
        rintro e w2 ⟨v2, rfl, ho, hb2⟩
        have HB2 := Lib.hid (HB.out.trans (hb2.mono hs1))
        have HO2 := Lib.hid ho
        clear hb2 ho
        go_wp2_with fail
        go_returns
        exact ⟨_, _, rfl, ⟨owns_lower HO2.out.1 hs1, Nat.le_trans hs1 HO2.out.2.1, HO2.out.2.2.1, HO2.out.2.2.2⟩, HB2.out⟩
set_option maxRecDepth 8000 in
set_option maxHeartbeats 4000000 in
theorem s_queriesOf_any (k : Int) (a : Option Addr) (n cap : Nat) (l : List (Bool × Int)) (w : World) (h : Ops w a n cap l) :
    Calls Tryz.prog 22 #[.int .i64 k, .slice a n cap] w (RowOut (Agg.qOut k l) (Agg.qOk k l) w) := by
  obtain ⟨i0, hi0, hz0, hz1, hz2⟩ := info_parts infoInt
  have hll : l.length = n := h.1
  have hcap := h.2.1
  have hcapm : cap ≤ 9223372036854775807 := by have := h.2.2.1; unfold maxLen at this; omega
  have HN := Lib.hid h
  clear h
  have HE0 := Lib.hid (own_empty_new (Y := w) (base := w.heap.size) (e := 3) (g := w.heap.size) (Nat.le_refl _) rfl)
  cases hk : Agg.isKind k
  · have e : Agg.qOk k l = false := by simp [Agg.qOk, hk]
    rw [Agg.qOut, e, if_neg (by simp)]
    clear e
    go_enter Tryz.func22, Tryz.ntmps22
    go_wp2_with fail
    refine (s_kind_any _ _).mono ?_
    rintro e wk ⟨rfl, rfl⟩
    rw [hk]
    go_wp2
    go_returns
    exact ⟨_, 0, rfl, OwnR.made (l := []) HE0.out (by simp), (Below.refl _ _).alloc (Nat.le_refl _) _⟩
  · have HL := Lib.hid (s_l2Ops_any a n cap l (w.alloc (.cells #[] 3)) (HN.out.below ((Below.refl _ _).alloc (Nat.le_refl _) _)))
    cases hb : Agg.opsOk l
    · have e : Agg.qOk k l = false := by simp [Agg.qOk, hb]
      rw [Agg.qOut, e, if_neg (by simp)]
      rw [hb] at HL
      clear e
      go_enter Tryz.func22, Tryz.ntmps22
      go_wp2_with fail
      refine (s_kind_any _ _).mono ?_
      rintro e wk ⟨rfl, rfl⟩
      rw [hk]
      go_wp2_with fail
      refine HL.out.mono ?_
      rintro e w1 ⟨rfl, hb1⟩
      have HE := Lib.hid (HE0.out.kept (Below.grownNone hb1 none) (.inr (by simp [Value.ownBlock])))
      have HB := Lib.hid (((Below.refl w.heap.size w).alloc (Nat.le_refl _) (.cells #[] 3)).trans (hb1.mono (by simp)))
      clear hb1 HL
      go_wp2
      go_returns
      exact ⟨_, 0, rfl, OwnR.made (l := []) HE.out HB.out.size, HB.out⟩
    · have e : Agg.qOk k l = true := by simp [Agg.qOk, hk, hb]
      rw [Agg.qOut, e, if_pos rfl]
      rw [hb] at HL
      have HP := Lib.hid (Agg.opsOk_parts hb)
      have HOK := Lib.hid (fun i => Agg.win_ok hb i)
      have hn200 : n ≤ 200 := by have := HP.out.1; omega
      have hfit := HP.out.2.2
      rw [hll] at hfit
      have hsl := Agg.qs_len k l
      have hst := fun j => Agg.qs_step k l j
      obtain ⟨S, hS⟩ : ∃ S, S = Agg.qs k l := ⟨_, rfl⟩
      rw [← hS] at hsl hst ⊢
      rw [hll] at hsl
      have HSL := Lib.hid hsl
      have HST := Lib.hid hst
      clear e hb hsl hst hS HP
      go_enter Tryz.func22, Tryz.ntmps22
      go_wp2_with fail
      refine (s_kind_any _ _).mono ?_
      rintro e wk ⟨rfl, rfl⟩
      rw [hk]
      go_wp2_with fail
      refine HL.out.mono ?_
      rintro e w1 ⟨rfl, hb1⟩
      have hw1 : (w.alloc (.cells #[] 3)).heap.size ≤ w1.heap.size := hb1.size
      have hws : w.heap.size + 1 ≤ w1.heap.size := by simpa using hw1
      have HE := Lib.hid ((HE0.out.kept (Below.grownNone hb1 none) (.inr (by simp [Value.ownBlock]))).alloc (.cells #[] 3))
      have HI := Lib.hid (own_empty_new (Y := w1) (base := w.heap.size) (e := 3) (g := w1.heap.size) (by omega) rfl)
      have HB := Lib.hid ((((Below.refl w.heap.size w).alloc (Nat.le_refl _) (.cells #[] 3)).trans (hb1.mono (by simp))).alloc (by omega) (.cells #[] 3))
      clear hb1 HL HE0 hw1
      go_wp2
      go_loopw [6, 7, 8] (fun ov iv i wr => ∃ (j g c : Nat), j ≤ n ∧ i = .int .i64 j ∧ iv = .slice (some ⟨g, 0, none⟩) (Agg.winAt l j).length c ∧ Hid (wr.ownsRow w.heap.size 3 1 iv (Agg.winAt l j).length ((Agg.winAt l j).map (Value.int .i64))) ∧ Hid (wr.ownsRow w.heap.size 3 1 ov j ((S.take j).map (Value.int .i64))) ∧ Hid (Below w.heap.size w wr)) (fun _ _ i _ => n - (intOf i).toNat)
      case atStart => exact ⟨0, w1.heap.size, 0, Nat.zero_le _, rfl, rfl, HI, HE, HB⟩
      case round =>
        obtain ⟨j, g, c, hj, rfl, rfl, hi, ho, hw⟩ := hrel
        clear HE HI HB
        have hwr := hw.out.size
        by_cases hlt : j < n
        · have hO := HN.out.below hw.out
          rcases hO.2.2.2 with h4 | ⟨bk, off, rfl, hbk, hcs⟩
          · omega
          · obtain ⟨hck, hcl⟩ := hcs j hlt
            have hf := Agg.fits_at hlt hfit
            have hw60 := Agg.win_len j (Agg.fitTo_down (by omega) hfit)
            have hst2 : Agg.winAt l (j + 1) = Agg.stepW (Agg.winAt l j) (Agg.opAt l j) := rfl
            simp only [Agg.opAt] at hf hst2
            obtain ⟨⟨p, y⟩, hx⟩ : ∃ y, y = l[j]?.getD (false, 0) := ⟨_, rfl⟩
            rw [← hx] at hck hcl hf hst2
            clear hx hcs hO
            have hnums := Nums.of_owns (g := g) hi.out
            have hgw : g < wr.heap.size := ((hi.out.lt g rfl)).2
            have hok1 := HOK.out (j + 1) (by omega)
            have hst := HST.out j (by omega)
            obtain ⟨L, hL⟩ : ∃ L, L = Agg.winAt l j := ⟨_, rfl⟩
            obtain ⟨L1, hL1⟩ : ∃ L1, L1 = Agg.winAt l (j + 1) := ⟨_, rfl⟩
            rw [← hL] at hf hst2 hw60 hnums hi ⊢
            rw [← hL1] at hst2 hok1 hst
            obtain ⟨x, hx⟩ : ∃ x, x = Agg.number k L1 := ⟨_, rfl⟩
            have hok := Agg.ok_fold_all hk hok1
            obtain ⟨⟨vx, vy, vz⟩, hV⟩ : ∃ V, V = Agg.fold k L1 := ⟨_, rfl⟩
            have hxe : Agg.num k ⟨vx, vy, vz⟩ = x := by rw [hx, Agg.number, hV]
            have hF := fun g c w hN => s_fold_any k hk (some ⟨g, 0, none⟩) L1.length c L1 w hN hok1
            rw [← hV] at hF hok
            have hG := fun w => s_number_any k hk vx vy vz w hok
            rw [hxe] at hG
            rw [← hx] at hst
            have HF := Lib.hid hF
            have HG := Lib.hid hG
            have HS2 := Lib.hid hst
            have hk0 : (0 : Int) ≤ (j : Int) := Int.natCast_nonneg _
            have hkn : (j : Int) < (n : Int) := by omega
            have hstep : Calls Tryz.prog 66 #[.slice (some ⟨g, 0, none⟩) L.length c, .agg #[.bool p, .int .i64 y]] wr (RowNew L1 wr) := by
              rw [hst2]
              cases p
              · simp only [Agg.fits, Bool.false_eq_true, if_false, decide_eq_true_eq] at hf
                exact s_take_any y g L.length c L wr hnums hf hw60
              · exact s_push_any y g L.length c L wr hnums hgw hw60
            have HS := Lib.hid hstep
            have HL1 := Lib.hid hL1
            have hlo : ∀ q, u6.ownBlock = some q → w.heap.size ≤ q ∧ q < wr.heap.size := fun q hq => ho.out.lt q hq
            clear hstep hst2 hf hnums hL hL1 hF hG hV hok hok1 hxe hx hst hi hw60
            go_wp2_with fail
            refine HS.out.mono ?_
            rintro e w2 ⟨g2, c2, rfl, hown, hb2⟩
            have hs2 := hb2.size
            have HQ2 := Lib.hid (ho.out.kept (Below.grownNone hb2 none) (by cases hv : u6.ownBlock <;> simp))
            have HI2 := Lib.hid hown
            have HW2 := Lib.hid (hw.out.trans (hb2.mono hwr))
            clear hown hb2 HS hck hcl
            go_wp2_with fail
            refine (HF.out g2 c2 _ (Nums.of_owns HI2.out.1)).mono ?_
            rintro e w3 ⟨rfl, hb3⟩
            have hs3 := hb3.size
            have HQ3 := Lib.hid (HQ2.out.kept (Below.grownNone hb3 none) (by cases hv : u6.ownBlock <;> simp))
            have HI3 := Lib.hid (HI2.out.below hb3)
            have HW3 := Lib.hid (HW2.out.trans (hb3.mono HW2.out.size))
            clear hb3 HQ2 HI2 HW2
            go_wp2_with fail
            refine (HG.out _).mono ?_
            rintro e w4 ⟨rfl, hb4⟩
            have hs4 := hb4.size
            have HQ4 := Lib.hid (HQ3.out.kept (Below.grownNone hb4 none) (by cases hv : u6.ownBlock <;> simp))
            have HI4 := Lib.hid ((HI3.out.below hb4).below ((Below.refl _ _).alloc (Nat.le_refl _) (.cells #[.int .i64 x] 3)))
            have HW4 := Lib.hid (HW3.out.trans (hb4.mono HW3.out.size))
            have hsz4 := HW4.out.size
            clear hb4 HQ3 HI3 HW3
            go_wp2_with (at_builtin; refine wpList_append_own _ rfl (.tmp 32) (.tmp 38) 34 rfl w.heap.size 3 i0 (.int .i64 0) 1 8 Tryz.underlying34 hi0 hz0 hz1 hz2 rfl (by decide) _ _ _ rfl (HQ4.out.alloc _) ⟨w4.heap.size, 0, none⟩ 1 1 [.int .i64 x] rfl rfl (cell_one_new _ _ _) (ints_oneCell .i64 [x]) (by unfold maxLen; omega) (by omega) (by simp; omega) ?_; intro v' w5 hown5 hgrow5 hnil5; have HQ5 := Lib.hid hown5; have HI5 := Lib.hid (owns_lower (HI4.out.kept hgrow5 (fun q hq => .inl (hlo q hq).2)).1 hwr); have HW5 := Lib.hid ((HW4.out.alloc HW4.out.size _).grown hgrow5 (by simp; omega) (fun q hq => (hlo q hq).1)); clear hown5 hgrow5 hnil5)
            go_roundw
            case rel =>
              refine ⟨j + 1, g2, c2, by omega, by go_num, by rw [HL1.out], Lib.hid ?_, Lib.hid ?_, HW5⟩
              · have := HI5.out
                rw [HL1.out] at this ⊢
                exact this
              · rw [HS2.out, List.map_append]
                exact HQ5.out
            case measure => simp [intOf]; omega
        · obtain rfl : j = n := by omega
          have ho2 := ho.out
          rw [List.take_of_length_le (by have := HSL.out; omega)] at ho2
          have HO2 := Lib.hid ho2
          clear ho2
          go_wp2
          go_returns
          exact ⟨_, _, rfl, OwnR.made HO2.out hw.out.size, hw.out⟩
end Go.Proofs.YtfmkjpbmaogjpaaGreat
