/-
  WindowAfter, in the program and in the model.
-/
import Derived.Test.Ytccimldchfekeaa2a
import Derived.Test.Ytccimldchfekeaa2s
import Derived.Lib.SliceRun
import Derived.Deep.DeepMust
namespace Go.Proofs.Ytccimldchfekeaa
set_option linter.unusedSimpArgs false
set_option linter.unusedVariables false
open Go.RowKit
def Agg.winOut (l : List (Bool × Int)) : List Int := if Agg.opsOk l then Agg.winAt l l.length else []
theorem Agg.opsOk_parts {l : List (Bool × Int)} (h : Agg.opsOk l = true) : l.length ≤ 200 ∧ Agg.allOk l l.length = true ∧ Agg.fitTo l l.length = true := by
  simp only [Agg.opsOk, Bool.and_eq_true, decide_eq_true_eq] at h
  exact ⟨h.1.1, h.1.2, h.2⟩
theorem Agg.winOut_len (l : List (Bool × Int)) : (Agg.winOut l).length ≤ 60 := by
  unfold Agg.winOut
  split
  · rename_i h
    exact Agg.win_len _ (Agg.opsOk_parts h).2.2
  · simp
set_option maxRecDepth 8000 in
set_option maxHeartbeats 1000000 in
theorem clone_any (a : Option Addr) (n cap : Nat) (l : List Int) (w : World) (h : Nums .i64 w a n cap l) (hn : n ≤ 1000) :
    Calls Try.prog 18 #[.slice a n cap] w fun e w' => ∃ v m, e = .returned v ∧ w'.ownsRow w.heap.size 3 1 v m (l.map (Value.int .i64)) ∧ Below w.heap.size w w' := by
  obtain ⟨i0, hi0, hz0, hz1, hz2⟩ := info_parts infoInt
  have hll : l.length = n := h.1
  have hnc := h.2.1
  have hcm : cap ≤ 9223372036854775807 := by have := h.2.2.1; unfold maxLen at this; omega
  cases a with
  | none =>
    have h0 : n = 0 := by
      rcases h.2.2.2 with h0 | ⟨b, off, ha, -⟩
      · exact h0
      · simp at ha
    subst h0
    obtain rfl := List.eq_nil_of_length_eq_zero hll
    clear h
    have q22 : ∀ (w : World) (a : Option Addr) (n c n' c' : Nat), (binOp .eql 25 (.slice a n c) (.slice none n' c')).run Try.prog w = .ok (.bool a.isNone) w := fun w a n c n' c' => Lib.run_eql_slice_nil w _ _ a n c n' c' Try.underlying25
    go_enter Try.func18, Try.ntmps18
    go_wp2
    go_returns
    exact ⟨_, 0, rfl, World.ownsRow_nil _ _ _ _, Below.refl _ _⟩
  | some ad =>
    have hnews : ∀ j u, (l.map (Value.int .i64))[j]? = some u → (w.alloc (.cells #[] 3)).cell? (ad.add j) = some u := by
      rcases h.2.2.2 with h0 | ⟨b, off, ha, -⟩
      · subst h0
        obtain rfl := List.eq_nil_of_length_eq_zero hll
        intro j u hj
        simp at hj
      · obtain rfl := Option.some.inj ha
        exact nums_news (h.below ((Below.refl _ _).alloc (Nat.le_refl _) _))
    have HN := Lib.hid hnews
    clear hnews h
    have q22 : ∀ (w : World) (a : Option Addr) (n c n' c' : Nat), (binOp .eql 25 (.slice a n c) (.slice none n' c')).run Try.prog w = .ok (.bool a.isNone) w := fun w a n c n' c' => Lib.run_eql_slice_nil w _ _ a n c n' c' Try.underlying25
    go_enter Try.func18, Try.ntmps18
    go_wp2_with (at_builtin; go_must (refine wpList_append_own _ rfl (.tmp 5) (.tmp 6) 25 rfl w.heap.size 3 i0 (.int .i64 0) 1 8 Try.underlying25 hi0 hz0 hz1 hz2 rfl (by decide) _ _ _ rfl (own_empty_new (Nat.le_refl _) rfl) ad n cap (l.map (Value.int .i64)) rfl (by simp; omega) HN.out (ints_oneCell .i64 _) (by unfold maxLen; omega) (by omega) (by simp) ?_); go_must (intro v' w' hown' hgrow' hnil'; have HO := Lib.hid hown'; have HB := Lib.hid (show Below w.heap.size w w' from Below.grown (((Below.refl _ _).alloc (Nat.le_refl _) _)) hgrow' (by simp) (fun k hk => Nat.le_of_eq (Option.some.inj hk))); clear hown' hgrow' hnil'))
    go_wp2
    go_returns
    exact ⟨v', _, rfl, by have := HO.out; simpa using this, HB.out⟩
set_option maxRecDepth 8000 in
set_option maxHeartbeats 1000000 in
theorem windowAfter_any (a : Option Addr) (n cap : Nat) (l : List (Bool × Int)) (w : World) (h : Ops w a n cap l) :
    Calls Try.prog 6 #[.slice a n cap] w (RowOut (Agg.winOut l) (Agg.opsOk l) w) := by
  have hll : l.length = n := h.1
  have hW := windowsOf_any a n cap l w h
  obtain ⟨b, hb⟩ : ∃ b, b = Agg.opsOk l := ⟨_, rfl⟩
  have hwo : Agg.winOut l = if b then Agg.winAt l n else [] := by rw [Agg.winOut, ← hb, hll]
  have hlen : b = true → (Agg.winAt l n).length ≤ 60 := fun e => by have := Agg.winOut_len l; rw [hwo, e, if_pos rfl] at this; exact this
  rw [← hb] at hW ⊢
  rw [hwo]
  obtain ⟨R, hR⟩ : ∃ R, R = (if b then Agg.winAt l n else []) := ⟨_, rfl⟩
  rw [← hR]
  have HR0 := Lib.hid hR
  clear hR
  have HW := Lib.hid hW
  clear hW hb h hwo
  go_enter Try.func6, Try.ntmps6
  go_wp2_with fail
  refine HW.out.mono ?_
  rintro e w1 ⟨ht, hf⟩
  cases b
  · obtain ⟨rfl, hb1⟩ := hf rfl
    have HB := Lib.hid hb1
    clear ht hf hb1 hlen HW
    go_wp2
    go_returns
    rw [show R = [] by rw [HR0.out]; simp]
    exact RowOut.none_ HB.out
  · obtain ⟨v, hs, rfl, hrow, hwin, hb1⟩ := ht rfl
    have hl60 := hlen rfl
    obtain ⟨a2, m, c, hh, hN⟩ := hwin n (Nat.le_refl _)
    obtain ⟨gw, cw, hv, hcw, hcm⟩ : ∃ gw cw, v = .slice (some ⟨gw, 0, none⟩) (n + 1) cw ∧ n + 1 ≤ cw ∧ cw ≤ 9223372036854775807 := by
      rcases hrow.2 with ⟨rfl, h0⟩ | ⟨g, c2, cur, rfl, -, -, h1, h2, -⟩
      · omega
      · exact ⟨g, c2, rfl, h1, by unfold maxLen at h2; omega⟩
    subst hv
    have hcell := hrow.cellAt n (by omega)
    rw [hh] at hcell
    have HB := Lib.hid hb1
    have hml : (Agg.winAt l n).length = m := hN.1
    have HC := Lib.hid (clone_any a2 m c (Agg.winAt l n) w1 hN (by omega))
    clear ht hf hb1 hlen HW hwin hh hN hrow
    have hnn : (n : Int) < (n : Int) + 1 := by omega
    have hn0 : (0 : Int) ≤ (n : Int) := by omega
    have hnn2 : n < n + 1 := by omega
    go_wp2_with fail
    refine HC.out.mono ?_
    rintro e w2 ⟨v2, m2, rfl, hown, hb2⟩
    have HO := Lib.hid hown
    have HB2 := Lib.hid (HB.out.trans (hb2.mono HB.out.size))
    have hs1 := HB.out.size
    have hs2 := hb2.size
    clear hown hb2
    go_wp2
    go_returns
    rw [show R = Agg.winAt l n by rw [HR0.out]; simp]
    exact ⟨v2, m2, rfl, OwnR.made (owns_lower HO.out hs1) HB2.out.size, HB2.out⟩
set_option maxRecDepth 8000 in
set_option maxHeartbeats 2000000 in
theorem s_windowAfter_any (a : Option Addr) (n cap : Nat) (l : List (Bool × Int)) (w : World) (h : Ops w a n cap l) :
    Calls Try.prog 7 #[.slice a n cap] w (RowOut (Agg.winOut l) (Agg.opsOk l) w) := by
  have hll : l.length = n := h.1
  have hnc := h.2.1
  have hcm : cap ≤ 9223372036854775807 := by have := h.2.2.1; unfold maxLen at this; omega
  obtain ⟨b, hb⟩ : ∃ b, b = Agg.opsOk l := ⟨_, rfl⟩
  have hwo : Agg.winOut l = if b then Agg.winAt l n else [] := by rw [Agg.winOut, ← hb, hll]
  have hL := s_l2Ops_any a n cap l (w.alloc (.cells #[] 3)) (h.below ((Below.refl _ _).alloc (Nat.le_refl _) _))
  have hparts : b = true → Agg.allOk l n = true ∧ Agg.fitTo l n = true := fun e => by have := Agg.opsOk_parts (hb ▸ e); rw [hll] at this; exact this.2
  rw [← hb] at hL ⊢
  rw [hwo]
  obtain ⟨R, hR⟩ : ∃ R, R = (if b then Agg.winAt l n else []) := ⟨_, rfl⟩
  rw [← hR]
  have HR0 := Lib.hid hR
  clear hR
  have HL := Lib.hid hL
  have HN := Lib.hid h
  clear hL hb h hwo
  go_enter Try.func7, Try.ntmps7
  go_wp2_with fail
  refine HL.out.mono ?_
  rintro e w1 ⟨rfl, hb1⟩
  have hE : w1.ownsRow w.heap.size 3 1 (.slice (some ⟨w.heap.size, 0, none⟩) 0 0) 0 [] := (own_empty_new (Y := w) (Nat.le_refl _) rfl).kept (Below.grownNone hb1 none) (.inr (by simp [Value.ownBlock]))
  have hb1' : Below w.heap.size w w1 := ((Below.refl _ _).alloc (Nat.le_refl _) _).trans (hb1.mono (by simp))
  have HE := Lib.hid hE
  have HB1 := Lib.hid hb1'
  clear hE hb1 hb1' HL
  cases b
  · go_wp2
    go_returns
    rw [show R = [] by rw [HR0.out]; simp]
    exact ⟨_, 0, rfl, OwnR.made HE.out HB1.out.size, HB1.out⟩
  · obtain ⟨hall, hfit⟩ := hparts rfl
    clear hparts
    go_wp2
    go_loopw [4, 5] (fun ov i wr => ∃ (j g c : Nat), j ≤ n ∧ i = .int .i64 j ∧ ov = .slice (some ⟨g, 0, none⟩) (Agg.winAt l j).length c ∧ Hid (wr.ownsRow w.heap.size 3 1 ov (Agg.winAt l j).length ((Agg.winAt l j).map (Value.int .i64))) ∧ Hid (Below w.heap.size w wr)) (fun _ i _ => n - (intOf i).toNat)
    case atStart => exact ⟨0, w.heap.size, 0, Nat.zero_le _, rfl, rfl, HE, HB1⟩
    case round =>
      obtain ⟨j, g, c, hj, rfl, rfl, ho, hw⟩ := hrel
      clear HE HB1
      have hwr := hw.out.size
      by_cases hlt : j < n
      · have hO := HN.out.below hw.out
        rcases hO.2.2.2 with h4 | ⟨bk, off, rfl, hbk, hcs⟩
        · omega
        · obtain ⟨hck, hcl⟩ := hcs j hlt
          have hf := Agg.fits_at hlt hfit
          have hw60 := Agg.win_len j (Agg.fitTo_down (by omega) hfit)
          have hst : Agg.winAt l (j + 1) = Agg.stepW (Agg.winAt l j) (Agg.opAt l j) := rfl
          simp only [Agg.opAt] at hf hst
          obtain ⟨⟨p, x⟩, hx⟩ : ∃ x, x = l[j]?.getD (false, 0) := ⟨_, rfl⟩
          rw [← hx] at hck hcl hf hst
          clear hx hcs hO
          have hnums := Nums.of_owns (g := g) ho.out
          have hgw : g < wr.heap.size := ((ho.out.lt g rfl)).2
          obtain ⟨L, hL⟩ : ∃ L, L = Agg.winAt l j := ⟨_, rfl⟩
          rw [← hL] at hf hst hw60 hnums ho ⊢
          have hk0 : (0 : Int) ≤ (j : Int) := Int.natCast_nonneg _
          have hkn : (j : Int) < (n : Int) := by omega
          have hstep : Calls Try.prog 20 #[.slice (some ⟨g, 0, none⟩) L.length c, .agg #[.bool p, .int .i64 x]] wr (RowNew (Agg.winAt l (j + 1)) wr) := by
            rw [hst]
            cases p
            · simp only [Agg.fits, Bool.false_eq_true, if_false, decide_eq_true_eq] at hf
              exact s_take_any x g L.length c L wr hnums hf hw60
            · exact s_push_any x g L.length c L wr hnums hgw hw60
          have HS := Lib.hid hstep
          clear hstep hst hf hnums hL
          go_wp2_with fail
          refine HS.out.mono ?_
          rintro e w2 ⟨g2, c2, rfl, hown, hb2⟩
          have HO2 := Lib.hid (owns_lower hown.1 hwr)
          have HW2 := Lib.hid (hw.out.trans (hb2.mono hwr))
          clear hown hb2
          go_wp2
          go_roundw
          case rel => exact ⟨j + 1, g2, c2, by omega, by go_num, rfl, HO2, HW2⟩
          case measure => simp [intOf]; omega
      · obtain rfl : j = n := by omega
        go_wp2
        go_returns
        rw [show R = Agg.winAt l j by rw [HR0.out]; simp]
        exact ⟨_, _, rfl, OwnR.made ho.out hw.out.size, hw.out⟩
end Go.Proofs.Ytccimldchfekeaa
