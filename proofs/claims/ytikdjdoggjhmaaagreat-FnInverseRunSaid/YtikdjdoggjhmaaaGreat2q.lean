/-
  QueriesOf, in the program and in the model.
-/
import Derived.Test.YtikdjdoggjhmaaaGreat2b
namespace Go.Proofs.YtikdjdoggjhmaaaGreat
set_option linter.unusedSimpArgs false
set_option linter.unusedVariables false
open Go.RowKit
/-- The numbers of the windows after each change. -/
def Agg.qs (k : Int) (l : List (Bool × Int)) : List Int := (List.range l.length).map fun i => Agg.number k (Agg.winAt l (i + 1))
def Agg.qOk (k : Int) (l : List (Bool × Int)) : Bool := Agg.isKind k && Agg.opsOk l
def Agg.qOut (k : Int) (l : List (Bool × Int)) : List Int := if Agg.qOk k l then Agg.qs k l else []
theorem Agg.qs_len (k : Int) (l : List (Bool × Int)) : (Agg.qs k l).length = l.length := by simp [Agg.qs]
theorem Agg.qs_step (k : Int) (l : List (Bool × Int)) (j : Nat) (h : j < l.length) : (Agg.qs k l).take (j + 1) = (Agg.qs k l).take j ++ [Agg.number k (Agg.winAt l (j + 1))] := by
  rw [List.take_succ_eq_append_getElem (by rw [Agg.qs_len]; exact h)]
  simp [Agg.qs]
theorem Agg.qOut_len (k : Int) (l : List (Bool × Int)) : (Agg.qOut k l).length ≤ 200 := by
  unfold Agg.qOut
  split
  · rename_i h
    simp only [Agg.qOk, Bool.and_eq_true] at h
    rw [Agg.qs_len]
    exact (Agg.opsOk_parts h.2).1
  · simp
theorem Agg.win_ok {l : List (Bool × Int)} (h : Agg.opsOk l = true) (i : Nat) (hi : i ≤ l.length) : Agg.itemsOk (Agg.winAt l i) = true := by
  obtain ⟨-, h1, h2⟩ := Agg.opsOk_parts h
  exact Agg.items_of (Agg.win_len i (Agg.fitTo_down hi h2)) (Agg.win_items i (Agg.allOk_down hi h1))
set_option maxRecDepth 8000 in
set_option maxHeartbeats 4000000 in
theorem queriesOf_any (k : Int) (a : Option Addr) (n cap : Nat) (l : List (Bool × Int)) (w : World) (h : Ops w a n cap l) :
    Calls Tryz.prog 20 #[.int .i64 k, .slice a n cap] w (RowOut (Agg.qOut k l) (Agg.qOk k l) w) := by
  obtain ⟨i0, hi0, hz0, hz1, hz2⟩ := info_parts infoInt
  have hll : l.length = n := h.1
  have hcap := h.2.1
  have hcapm : cap ≤ 9223372036854775807 := by have := h.2.2.1; unfold maxLen at this; omega
  have HW := Lib.hid (windowsOf_any a n cap l w h)
  clear h
  cases hb : Agg.opsOk l
  · have e : Agg.qOk k l = false := by simp [Agg.qOk, hb]
    rw [Agg.qOut, e, if_neg (by simp)]
    have HW2 := Lib.hid (HW.out)
    rw [hb] at HW2
    clear HW e hb
    go_enter Tryz.func20, Tryz.ntmps20
    go_wp2_with fail
    refine HW2.out.mono ?_
    rintro e w1 ⟨-, hf⟩
    obtain ⟨rfl, hb1⟩ := hf rfl
    have HB := Lib.hid hb1
    clear hf hb1 HW2
    go_wp2
    go_returns
    exact RowOut.none_ HB.out
  · have HW2 := Lib.hid (HW.out)
    rw [hb] at HW2
    have HP := Lib.hid (Agg.opsOk_parts hb)
    have HOK := Lib.hid (fun i => Agg.win_ok hb i)
    cases hk : Agg.isKind k
    · have e : Agg.qOk k l = false := by simp [Agg.qOk, hk]
      rw [Agg.qOut, e, if_neg (by simp)]
      clear HW e hb
      go_enter Tryz.func20, Tryz.ntmps20
      go_wp2_with fail
      refine HW2.out.mono ?_
      rintro e w1 ⟨ht, -⟩
      obtain ⟨v, hs, rfl, hrow, hwin, hb1⟩ := ht rfl
      have HB := Lib.hid hb1
      clear ht hrow hwin hb1 HW2
      go_wp2_with fail
      refine (kindValid_any _ _).mono ?_
      rintro e wk ⟨rfl, rfl⟩
      rw [hk]
      go_wp2
      go_returns
      exact RowOut.none_ HB.out
    · have e : Agg.qOk k l = true := by simp [Agg.qOk, hk, hb]
      rw [Agg.qOut, e, if_pos rfl]
      have hn200 : n ≤ 200 := by have := HP.out.1; omega
      have HF := Lib.hid (fun a cap w h' => foldNumbers_any k hk a n cap (fun i => Agg.winAt l (i + 1)) (by omega) (fun i hi => HOK.out (i + 1) (by omega)) w h')
      rw [show Agg.nums k (fun i => Agg.winAt l (i + 1)) n = Agg.qs k l by rw [Agg.nums, Agg.qs, hll]] at HF
      obtain ⟨S, hS⟩ : ∃ S, S = Agg.qs k l := ⟨_, rfl⟩
      rw [← hS] at HF ⊢
      clear HW e hb hS HP
      go_enter Tryz.func20, Tryz.ntmps20
      go_wp2_with fail
      refine HW2.out.mono ?_
      rintro e w1 ⟨ht, -⟩
      obtain ⟨v, hs, rfl, hrow, hwin, hb1⟩ := ht rfl
      obtain ⟨gw, cw, hv, hcw, hcm⟩ : ∃ gw cw, v = .slice (some ⟨gw, 0, none⟩) (n + 1) cw ∧ n + 1 ≤ cw ∧ cw ≤ 9223372036854775807 := by
        rcases hrow.2 with ⟨rfl, h0⟩ | ⟨g, c2, cur, rfl, -, -, h1, h2, -⟩
        · omega
        · exact ⟨g, c2, rfl, h1, by unfold maxLen at h2; omega⟩
      subst hv
      have hgw : gw < w1.heap.size := (hrow.lt gw rfl).2
      have HR := Lib.hid (show Rows2 w1 (some ⟨gw, 1, none⟩) n (cw - 1) (fun i => Agg.winAt l (i + 1)) from ⟨by omega, by omega, .inr ⟨gw, 1, rfl, hgw, fun i hi => by
        obtain ⟨a', m, c, e1, e2⟩ := hwin (i + 1) (by omega)
        exact ⟨a', m, c, by rw [Nat.add_comm]; exact (hrow.cellAt (i + 1) (by omega)).trans e1, e2⟩⟩⟩)
      have HB := Lib.hid hb1
      have hs1 := hb1.size
      clear ht hrow hwin hb1 HW2
      go_wp2_with fail
      refine (kindValid_any _ _).mono ?_
      rintro e wk ⟨rfl, rfl⟩
      rw [hk]
      have hcw1 : (1 : Int) ≤ (n : Int) + 1 := by omega
      have hcw2 : (1 : Int) ≤ (cw : Int) := by omega
      by_cases hc1 : cw = 1
      · subst hc1
        obtain rfl : n = 0 := by omega
        go_wp2_with fail
        refine (HF.out _ _ _ (Rows2.zero _ _ _ _ (by omega))).mono ?_
        rintro e w2 ⟨v2, rfl, ho, hb2⟩
        have HB2 := Lib.hid (HB.out.trans (hb2.mono hs1))
        have HO2 := Lib.hid ho
        clear hb2 ho
        go_wp2_with fail
        go_returns
        exact ⟨_, _, rfl, ⟨owns_lower HO2.out.1 hs1, Nat.le_trans hs1 HO2.out.2.1, HO2.out.2.2.1, HO2.out.2.2.2⟩, HB2.out⟩
      · have hcw3 : (1 : Int) < (cw : Int) := by omega
        have hcw4 : ¬ (cw - 1 = 0) := by omega
        go_wp2_with fail
        refine (HF.out _ _ _ HR.out).mono ?_
        rintro e w2 ⟨v2, rfl, ho, hb2⟩
        have HB2 := Lib.hid (HB.out.trans (hb2.mono hs1))
        have HO2 := Lib.hid ho
        clear hb2 ho
        go_wp2_with fail
        go_returns
        exact ⟨_, _, rfl, ⟨owns_lower HO2.out.1 hs1, Nat.le_trans hs1 HO2.out.2.1, HO2.out.2.2.1, HO2.out.2.2.2⟩, HB2.out⟩
end Go.Proofs.YtikdjdoggjhmaaaGreat
