/-
  SlideNumbers, in the program and in the model: a row of its own with the numbers of all rows of a size.
-/
import Derived.Test.YtohllpdmopofoaaGreat5e
import Derived.Deep.RegionHeld3
namespace Go.Proofs.YtohllpdmopofoaaGreat
set_option linter.unusedSimpArgs false
set_option linter.unusedVariables false
open Go.RowKit
/-- Whether SlideNumbers has numbers. -/
def Agg.slideOk (k : Int) (l : List Int) (s : Int) : Bool := Agg.isKind k && Agg.itemsOk l && decide (1 ≤ s ∧ s ≤ 60)
def Agg.slideOut (k : Int) (l : List Int) (s : Int) : List Int := if Agg.slideOk k l s then Agg.slides k l s.toNat else []
set_option maxRecDepth 4000 in
set_option maxHeartbeats 1000000 in
theorem slideNumbers_any (k : Int) (a : Option Addr) (n cap : Nat) (l : List Int) (size : Int) (w : World) (h : Nums .i64 w a n cap l) :
    Calls Tryz.prog 11 #[.int .i64 k, .slice a n cap, .int .i64 size] w (RowOut (Agg.slideOut k l size) (Agg.slideOk k l size) w) := by
  have hll : l.length = n := h.1
  have hnc : n ≤ cap := h.2.1
  have hcm : cap ≤ 9223372036854775807 := by have := h.2.2.1; unfold maxLen at this; omega
  have HN := Lib.hid h; clear h
  cases hk : Agg.isKind k
  · have e : Agg.slideOk k l size = false := by simp [Agg.slideOk, hk]
    rw [Agg.slideOut, e, if_neg (by simp)]
    go_enter Tryz.func11, Tryz.ntmps11
    go_wp2_with (first | (go_at_call 25; refine (kindValid_any _ _).mono ?_; rintro e wk ⟨rfl, rfl⟩) | (go_at_call 26; refine (areItems_any _ _ _ l _ (HN.out.below (by go_grown))).mono ?_; rintro e wk ⟨rfl, rfl⟩) | (go_at_call 35; refine (within_any _ _ _ _).mono ?_; rintro e wk ⟨rfl, rfl⟩))
    go_returns
    exact RowOut.none_ (Below.refl _ _)
  · cases hi : Agg.itemsOk l
    · have e : Agg.slideOk k l size = false := by simp [Agg.slideOk, hi]
      rw [Agg.slideOut, e, if_neg (by simp)]
      go_enter Tryz.func11, Tryz.ntmps11
      go_wp2_with (first | (go_at_call 25; refine (kindValid_any _ _).mono ?_; rintro e wk ⟨rfl, rfl⟩) | (go_at_call 26; refine (areItems_any _ _ _ l _ (HN.out.below (by go_grown))).mono ?_; rintro e wk ⟨rfl, rfl⟩) | (go_at_call 35; refine (within_any _ _ _ _).mono ?_; rintro e wk ⟨rfl, rfl⟩))
      go_returns
      exact RowOut.none_ (Below.refl _ _)
    · by_cases hs : 1 ≤ size ∧ size ≤ 60
      · have e : Agg.slideOk k l size = true := by simp [Agg.slideOk, hk, hi, hs.1, hs.2]
        rw [Agg.slideOut, e, if_pos rfl]
        obtain ⟨s, rfl⟩ := Int.eq_ofNat_of_zero_le (show 0 ≤ size by omega)
        rw [Int.toNat_natCast]
        have hlen := Agg.items_len hi
        obtain ⟨hs1, hs2⟩ := hs
        have hn60 : n ≤ 60 := by omega
        rw [Agg.slides_hops k l (by omega), Agg.hops, hll]
        have hR := Agg.rowsN_le (n := n) (s := s) (h := 1) (by omega)
        have HC := Lib.hid (fun w h => rowsOf_int a n cap l s 1 hn60 (by omega) (by omega) (by omega) (by omega) w h)
        have HF := Lib.hid (fun a cap w h => foldNumbers_any k hk a (Agg.rowsN n s 1) cap (fun j => (l.drop (j * 1)).take s) (by omega) (fun i _ => part_ok hi (i * 1) s) w h)
        obtain ⟨R, hRe⟩ : ∃ R, R = Agg.rowsN n s 1 := ⟨_, rfl⟩
        obtain ⟨f, hf⟩ : ∃ f : Nat → List Int, f = fun j => (l.drop (j * 1)).take s := ⟨_, rfl⟩
        rw [← hRe] at hR
        rw [← hf, ← hRe] at HC HF ⊢
        clear hf hRe e
        go_enter Tryz.func11, Tryz.ntmps11
        go_wp2_with fail
        refine (kindValid_any _ _).mono ?_
        rintro e wk ⟨rfl, rfl⟩
        rw [hk]
        go_wp2_with fail
        refine (areItems_any _ _ _ l _ HN.out).mono ?_
        rintro e wk ⟨rfl, rfl⟩
        rw [hi]
        go_wp2_with fail
        refine (within_any _ _ _ _).mono ?_
        rintro e wk ⟨rfl, rfl⟩
        go_wp2_with fail
        refine (HC.out _ HN.out).mono ?_
        rintro e w1 ⟨a1, c1, rfl, hr, hb⟩
        have hs1' := hb.size
        have HR1 := Lib.hid hr
        have HB1 := Lib.hid hb
        clear hr hb
        go_wp2_with fail
        refine (HF.out _ _ _ HR1.out).mono ?_
        rintro e w2 ⟨v2, rfl, ho, hb2⟩
        have HB2 := Lib.hid (HB1.out.trans (hb2.mono hs1'))
        have HO2 := Lib.hid ho
        clear hb2 ho
        go_wp2_with fail
        go_returns
        exact ⟨_, _, rfl, ⟨owns_lower HO2.out.1 hs1', Nat.le_trans hs1' HO2.out.2.1, HO2.out.2.2.1, HO2.out.2.2.2⟩, HB2.out⟩
      · have e : Agg.slideOk k l size = false := by simp [Agg.slideOk]; intro _ _ _; omega
        have hw : (decide (1 ≤ size) && decide (size ≤ 60)) = false := by simp; omega
        rw [Agg.slideOut, e, if_neg (by simp)]
        clear e hs
        go_enter Tryz.func11, Tryz.ntmps11
        go_wp2_with (first | (go_at_call 25; refine (kindValid_any _ _).mono ?_; rintro e wk ⟨rfl, rfl⟩) | (go_at_call 26; refine (areItems_any _ _ _ l _ (HN.out.below (by go_grown))).mono ?_; rintro e wk ⟨rfl, rfl⟩) | (go_at_call 35; refine (within_any _ _ _ _).mono ?_; rintro e wk ⟨rfl, rfl⟩))
        all_goals
          go_returns
          exact RowOut.none_ (Below.refl _ _)
end Go.Proofs.YtohllpdmopofoaaGreat
