/-
  SlideNumbers, in the program and in the model: a row of its own with the numbers of all rows of a size.
-/
import Derived.Test.Ytmlkdbmhekiniaa5e
import Derived.Deep.RegionHeld3
namespace Go.Proofs.Ytmlkdbmhekiniaa
set_option linter.unusedSimpArgs false
set_option linter.unusedVariables false
open Go.RowKit
/-- Whether SlideNumbers has numbers. -/
def Agg.slideOk (k : Int) (l : List Int) (s : Int) : Bool := Agg.isKind k && Agg.itemsOk l && decide (1 ≤ s ∧ s ≤ 60)
def Agg.slideOut (k : Int) (l : List Int) (s : Int) : List Int := if Agg.slideOk k l s then Agg.slides k l s.toNat else []
set_option maxRecDepth 4000 in
set_option maxHeartbeats 1000000 in
theorem slideNumbers_any (k : Int) (a : Option Addr) (n cap : Nat) (l : List Int) (size : Int) (w : World) (h : Nums .i64 w a n cap l) :
    Calls Try.prog 7 #[.int .i64 k, .slice a n cap, .int .i64 size] w (RowOut (Agg.slideOut k l size) (Agg.slideOk k l size) w) := by
  have hll : l.length = n := h.1
  have hnc : n ≤ cap := h.2.1
  have hcm : cap ≤ 9223372036854775807 := by have := h.2.2.1; unfold maxLen at this; omega
  have HN := Lib.hid h; clear h
  cases hk : Agg.isKind k
  · have e : Agg.slideOk k l size = false := by simp [Agg.slideOk, hk]
    rw [Agg.slideOut, e, if_neg (by simp)]
    go_enter Try.func7, Try.ntmps7
    go_wp2_with (first | (go_at_call 17; refine (kindValid_any _ _).mono ?_; rintro e wk ⟨rfl, rfl⟩) | (go_at_call 18; refine (areItems_any _ _ _ l _ (HN.out.below (by go_grown))).mono ?_; rintro e wk ⟨rfl, rfl⟩) | (go_at_call 19; refine (within_any _ _ _ _).mono ?_; rintro e wk ⟨rfl, rfl⟩))
    go_returns
    exact RowOut.none_ (Below.refl _ _)
  · cases hi : Agg.itemsOk l
    · have e : Agg.slideOk k l size = false := by simp [Agg.slideOk, hi]
      rw [Agg.slideOut, e, if_neg (by simp)]
      go_enter Try.func7, Try.ntmps7
      go_wp2_with (first | (go_at_call 17; refine (kindValid_any _ _).mono ?_; rintro e wk ⟨rfl, rfl⟩) | (go_at_call 18; refine (areItems_any _ _ _ l _ (HN.out.below (by go_grown))).mono ?_; rintro e wk ⟨rfl, rfl⟩) | (go_at_call 19; refine (within_any _ _ _ _).mono ?_; rintro e wk ⟨rfl, rfl⟩))
      go_returns
      exact RowOut.none_ (Below.refl _ _)
    · by_cases hs : 1 ≤ size ∧ size ≤ 60
      · have e : Agg.slideOk k l size = true := by simp [Agg.slideOk, hk, hi, hs.1, hs.2]
        rw [Agg.slideOut, e, if_pos rfl]
        obtain ⟨s, rfl⟩ := Int.eq_ofNat_of_zero_le (show 0 ≤ size by omega)
        rw [Int.toNat_natCast]
        have hlen := Agg.items_len hi
        obtain ⟨hs1, hs2⟩ := hs
        have hn60 : n ≤ 60 := by omega
        rw [Agg.slides_hops k l (by omega), Agg.hops, hll]
        have hR := Agg.rowsN_le (n := n) (s := s) (h := 1) (by omega)
        have HC := Lib.hid (fun w h => rowsOf_int a n cap l s 1 hn60 (by omega) (by omega) (by omega) (by omega) w h)
        have HF := Lib.hid (fun a cap w h => foldNumbers_any k hk a (Agg.rowsN n s 1) cap (fun j => (l.drop (j * 1)).take s) (by omega) (fun i _ => part_ok hi (i * 1) s) w h)
        obtain ⟨R, hRe⟩ : ∃ R, R = Agg.rowsN n s 1 := ⟨_, rfl⟩
        obtain ⟨f, hf⟩ : ∃ f : Nat → List Int, f = fun j => (l.drop (j * 1)).take s := ⟨_, rfl⟩
        rw [← hRe] at hR
        rw [← hf, ← hRe] at HC HF ⊢
        clear hf hRe e
        go_enter Try.func7, Try.ntmps7
        go_wp2_with fail
        refine (kindValid_any _ _).mono ?_
        rintro e wk ⟨rfl, rfl⟩
        rw [hk]
        go_wp2_with fail
        refine (areItems_any _ _ _ l _ HN.out).mono ?_
        rintro e wk ⟨rfl, rfl⟩
        rw [hi]
        go_wp2_with fail
        refine (within_any _ _ _ _).mono ?_
        rintro e wk ⟨rfl, rfl⟩
        go_wp2_with fail
        refine (HC.out _ HN.out).mono ?_
        rintro e w1 ⟨a1, c1, rfl, hr, hb⟩
        have hs1' := hb.size
        have HR1 := Lib.hid hr
        have HB1 := Lib.hid hb
        clear hr hb
        go_wp2_with fail
        refine (HF.out _ _ _ HR1.out).mono ?_
        rintro e w2 ⟨v2, rfl, ho, hb2⟩
        have HB2 := Lib.hid (HB1.out.trans (hb2.mono hs1'))
        have HO2 := Lib.hid ho
        clear hb2 ho
        go_wp2_with fail
        go_returns
        exact ⟨_, _, rfl, ⟨owns_lower HO2.out.1 hs1', Nat.le_trans hs1' HO2.out.2.1, HO2.out.2.2.1, HO2.out.2.2.2⟩, HB2.out⟩
      · have e : Agg.slideOk k l size = false := by simp [Agg.slideOk]; intro _ _ _; omega
        have hw : (decide (1 ≤ size) && decide (size ≤ 60)) = false := by simp; omega
        rw [Agg.slideOut, e, if_neg (by simp)]
        clear e hs
        go_enter Try.func7, Try.ntmps7
        go_wp2_with (first | (go_at_call 17; refine (kindValid_any _ _).mono ?_; rintro e wk ⟨rfl, rfl⟩) | (go_at_call 18; refine (areItems_any _ _ _ l _ (HN.out.below (by go_grown))).mono ?_; rintro e wk ⟨rfl, rfl⟩) | (go_at_call 19; refine (within_any _ _ _ _).mono ?_; rintro e wk ⟨rfl, rfl⟩))
        all_goals
          go_returns
          exact RowOut.none_ (Below.refl _ _)
set_option maxRecDepth 4000 in
set_option maxHeartbeats 4000000 in
theorem s_slideNumbers_any (k : Int) (a : Option Addr) (n cap : Nat) (l : List Int) (size : Int) (w : World) (h : Nums .i64 w a n cap l) :
    Calls Try.prog 5 #[.int .i64 k, .slice a n cap, .int .i64 size] w (RowOut (Agg.slideOut k l size) (Agg.slideOk k l size) w) := by
  obtain ⟨i0, hi0, hz0, hz1, hz2⟩ := info_parts infoInt
  have hll : l.length = n := h.1
  have hnc : n ≤ cap := h.2.1
  have hcm : cap ≤ 9223372036854775807 := by have := h.2.2.1; unfold maxLen at this; omega
  have HN := Lib.hid h; clear h
  cases hk : Agg.isKind k
  · have e : Agg.slideOk k l size = false := by simp [Agg.slideOk, hk]
    rw [Agg.slideOut, e, if_neg (by simp)]
    go_enter Try.func5, Try.ntmps5
    go_wp2_with (first | (go_at_call 13; refine (s_kind_any _ _).mono ?_; rintro e wk ⟨rfl, rfl⟩) | (go_at_call 14; refine (s_items_any _ _ _ l _ (HN.out.below (by go_grown))).mono ?_; rintro e wk ⟨rfl, rfl⟩))
    go_returns
    exact ⟨_, 0, rfl, OwnR.made (l := []) (World.ownsRow_made (base := w.heap.size) (e := 3) (size := 1) w #[] 0 (Nat.le_refl _) (by simp [maxLen]) (by simp)) (by simp), (Below.refl _ _).alloc (Nat.le_refl _) _⟩
  · cases hi : Agg.itemsOk l
    · have e : Agg.slideOk k l size = false := by simp [Agg.slideOk, hi]
      rw [Agg.slideOut, e, if_neg (by simp)]
      go_enter Try.func5, Try.ntmps5
      go_wp2_with (first | (go_at_call 13; refine (s_kind_any _ _).mono ?_; rintro e wk ⟨rfl, rfl⟩) | (go_at_call 14; refine (s_items_any _ _ _ l _ (HN.out.below (by go_grown))).mono ?_; rintro e wk ⟨rfl, rfl⟩))
      go_returns
      exact ⟨_, 0, rfl, OwnR.made (l := []) (World.ownsRow_made (base := w.heap.size) (e := 3) (size := 1) w #[] 0 (Nat.le_refl _) (by simp [maxLen]) (by simp)) (by simp), (Below.refl _ _).alloc (Nat.le_refl _) _⟩
    · by_cases hs : 1 ≤ size ∧ size ≤ 60
      · have e : Agg.slideOk k l size = true := by simp [Agg.slideOk, hk, hi, hs.1, hs.2]
        rw [Agg.slideOut, e, if_pos rfl]
        obtain ⟨s, rfl⟩ := Int.eq_ofNat_of_zero_le (show 0 ≤ size by omega)
        rw [Int.toNat_natCast]
        have hlen := Agg.items_len hi
        have hsl := Agg.slides_len k l s
        have hst := fun j => Agg.slides_step k l s j
        obtain ⟨hs1, hs2⟩ := hs
        obtain ⟨S, hS⟩ : ∃ S, S = Agg.slides k l s := ⟨_, rfl⟩
        rw [← hS] at hsl hst ⊢
        have HSL := Lib.hid hsl
        have HST := Lib.hid hst
        clear hsl hst hS e
        go_enter Try.func5, Try.ntmps5
        go_wp2_with (first | (go_at_call 13; refine (s_kind_any _ _).mono ?_; rintro e wk ⟨rfl, rfl⟩) | (go_at_call 14; refine (s_items_any _ _ _ l _ (HN.out.below (by go_grown))).mono ?_; rintro e wk ⟨rfl, rfl⟩))
        go_loopw [8, 9] (fun ov i wr => ∃ j : Nat, j ≤ n + 1 - s ∧ i = .int .i64 (j : Int) ∧ Hid (wr.ownsRow w.heap.size 3 1 ov j ((S.take j).map (Value.int .i64))) ∧ Hid (Below w.heap.size w wr)) (fun _ i _ => n + 1 - s - (intOf i).toNat)
        case atStart => exact ⟨0, Nat.zero_le _, by go_num, World.ownsRow_made (base := w.heap.size) (e := 3) (size := 1) w #[] 0 (Nat.le_refl _) (by simp [maxLen]) (by simp), (Below.refl _ _).alloc (Nat.le_refl _) _⟩
        case round =>
          obtain ⟨j, hj, rfl, ho, hw⟩ := hrel
          have hwr := hw.out.size
          by_cases hlt : s + j ≤ n
          · rcases (HN.out.below hw.out).2.2.2 with h0 | ⟨b, off, rfl, hbw, hcs⟩
            · omega
            · clear hcs
              have hP := Lib.hid (Nums.part (i := j) (s := s) (HN.out.below hw.out) (by omega))
              have hst := HST.out j (by omega)
              obtain ⟨x, hx⟩ : ∃ x, x = Agg.number k ((l.drop j).take s) := ⟨_, rfl⟩
              have hF := s_fold_any k hk (some ⟨b, off + j, none⟩) s (cap - j) _ _ hP.out (part_ok hi j s)
              have hok := Agg.ok_fold_all hk (part_ok hi j s)
              obtain ⟨⟨vx, vy, vz⟩, hV⟩ : ∃ V, V = Agg.fold k ((l.drop j).take s) := ⟨_, rfl⟩
              have hxe : Agg.num k ⟨vx, vy, vz⟩ = x := by rw [hx, Agg.number, hV]
              rw [← hV] at hF hok
              have hG := fun w => s_number_any k hk vx vy vz w hok
              rw [hxe] at hG
              rw [← hx] at hst
              have HF := Lib.hid hF
              have HG := Lib.hid hG
              have HS2 := Lib.hid hst
              clear hF hst hx hP hG hV hok hxe
              have hj0 : (0 : Int) ≤ (j : Int) := by omega
              have hj2 : (j : Int) + s ≤ (n : Int) := by omega
              have hj4 : (j : Int) + (s : Int) - (j : Int) = (s : Int) := by omega
              have hj5 : (j : Int) ≤ (j : Int) + (s : Int) := by omega
              go_wp2_with fail
              refine (HF.out).mono ?_
              rintro e w1 ⟨rfl, hb1⟩
              have HW1 := Lib.hid (hw.out.trans (hb1.mono hwr))
              have HO1 := Lib.hid (ho.out.kept (Below.grownNone hb1 none) (by cases hv : u8.ownBlock <;> simp))
              clear hb1
              go_wp2_with fail
              refine (HG.out _).mono ?_
              rintro e w2 ⟨rfl, hb2⟩
              have HO2 := Lib.hid (HO1.out.kept (Below.grownNone hb2 none) (by cases hv : u8.ownBlock <;> simp))
              have HW2 := Lib.hid (HW1.out.trans (hb2.mono HW1.out.size))
              have hlt' : ∀ q, u8.ownBlock = some q → w.heap.size ≤ q := fun q hq => (ho.out.lt q hq).1
              clear hb2
              have hn60 : n ≤ 60 := by omega
              have hsz2 := HW2.out.size
              go_wp2_with (at_builtin; refine wpList_append_own _ rfl (.tmp 36) (.tmp 47) 22 rfl w.heap.size 3 i0 (.int .i64 0) 1 8 Try.underlying22 hi0 hz0 hz1 hz2 rfl (by decide) _ _ _ rfl (HO2.out.alloc _) ⟨w2.heap.size, 0, none⟩ 1 1 [.int .i64 x] rfl rfl (cell_one_new _ _ _) (ints_oneCell .i64 [x]) (by unfold maxLen; omega) (by omega) (by simp; omega) ?_; intro v' w3 hown3 hgrow3 hnil3; have HO3 := Lib.hid hown3; have HW3 := Lib.hid ((HW2.out.alloc HW2.out.size _).grown hgrow3 (by have := HW2.out.size; simp; omega) hlt'); clear hown3 hgrow3 hnil3)
              go_roundw
              case rel =>
                refine ⟨j + 1, by omega, by go_num, Lib.hid ?_, HW3⟩
                rw [HS2.out, List.map_append]
                exact HO3.out
              case measure => simp [intOf]; omega
          · obtain hjn : j = n + 1 - s := by omega
            have hlt2 : ¬ ((j : Int) + s ≤ (n : Int)) := by omega
            have hall : S.take j = S := List.take_of_length_le (by have := HSL.out; omega)
            have ho2 := ho.out
            rw [hall] at ho2
            have HO2 := Lib.hid ho2
            clear ho2 hall hjn
            go_wp2
            go_returns
            exact ⟨_, _, rfl, OwnR.made HO2.out hw.out.size, hw.out⟩
      · have e : Agg.slideOk k l size = false := by simp [Agg.slideOk]; intro _ _ _; omega
        rw [Agg.slideOut, e, if_neg (by simp)]
        clear e
        rcases (show size < 1 ∨ 60 < size by omega) with hsz | hsz
        all_goals
          clear hs
          go_enter Try.func5, Try.ntmps5
          go_wp2_with (first | (go_at_call 13; refine (s_kind_any _ _).mono ?_; rintro e wk ⟨rfl, rfl⟩) | (go_at_call 14; refine (s_items_any _ _ _ l _ (HN.out.below (by go_grown))).mono ?_; rintro e wk ⟨rfl, rfl⟩))
          go_returns
          exact ⟨_, 0, rfl, OwnR.made (l := []) (World.ownsRow_made (base := w.heap.size) (e := 3) (size := 1) w #[] 0 (Nat.le_refl _) (by simp [maxLen]) (by simp)) (by simp), (Below.refl _ _).alloc (Nat.le_refl _) _⟩
end Go.Proofs.Ytmlkdbmhekiniaa
