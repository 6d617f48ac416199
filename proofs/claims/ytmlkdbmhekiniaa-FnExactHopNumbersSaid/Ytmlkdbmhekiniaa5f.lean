/-
  HopNumbers, in the program and in the model.
-/
import Derived.Test.Ytmlkdbmhekiniaa2s
import Derived.Test.Ytmlkdbmhekiniaa5a
namespace Go.Proofs.Ytmlkdbmhekiniaa
set_option linter.unusedSimpArgs false
set_option linter.unusedVariables false
open Go.RowKit
def Agg.hopsIn (k : Int) (l : List Int) (s h : Int) : Bool := Agg.isKind k && Agg.itemsOk l && Agg.hopsOk s h
def Agg.hopsOut (k : Int) (l : List Int) (s h : Int) : List Int := if Agg.hopsIn k l s h then Agg.hops k l s.toNat h.toNat else []
theorem Agg.hops_len (k : Int) (l : List Int) (s h : Nat) : (Agg.hops k l s h).length = Agg.rowsN l.length s h := Agg.nums_len _ _ _
theorem Agg.hopsOut_len (k : Int) (l : List Int) (s h : Int) : (Agg.hopsOut k l s h).length ≤ 60 := by
  unfold Agg.hopsOut
  split
  · rename_i e
    simp only [Agg.hopsIn, Agg.hopsOk, Bool.and_eq_true, decide_eq_true_eq] at e
    have := Agg.items_len e.1.2
    have h2 := Agg.rowsN_le (n := l.length) (s := s.toNat) (h := h.toNat) (by omega)
    rw [Agg.hops_len]; omega
  · simp
theorem s_sizes_any (s h : Int) (w : World) :
    Calls Try.prog 22 #[.int .i64 s, .int .i64 h] w fun e w' => e = .returned (.bool (Agg.hopsOk s h)) ∧ w = w' := by
  cases hok : Agg.hopsOk s h
  · have hn : ¬ (1 ≤ s ∧ s ≤ 60 ∧ 1 ≤ h ∧ h ≤ 60) := by simp [Agg.hopsOk] at hok; omega
    clear hok
    go_enter Try.func22, Try.ntmps22
    go_wp2
    all_goals first
      | (exfalso; omega)
      | (go_returns; exact ⟨ret_bool (by simp <;> omega), rfl⟩)
  · have hn : 1 ≤ s ∧ s ≤ 60 ∧ 1 ≤ h ∧ h ≤ 60 := by simp [Agg.hopsOk] at hok; omega
    obtain ⟨h1, h2, h3, h4⟩ := hn
    clear hok
    go_enter Try.func22, Try.ntmps22
    go_wp2
    all_goals first
      | (exfalso; omega)
      | (go_returns; exact ⟨ret_bool (by simp <;> omega), rfl⟩)
set_option maxRecDepth 4000 in
set_option maxHeartbeats 1000000 in
theorem hopNumbers_any (k : Int) (a : Option Addr) (n cap : Nat) (l : List Int) (size hop : Int) (w : World) (h : Nums .i64 w a n cap l) :
    Calls Try.prog 12 #[.int .i64 k, .slice a n cap, .int .i64 size, .int .i64 hop] w (RowOut (Agg.hopsOut k l size hop) (Agg.hopsIn k l size hop) w) := by
  have hll : l.length = n := h.1
  have hnc : n ≤ cap := h.2.1
  have hcm : cap ≤ 9223372036854775807 := by have := h.2.2.1; unfold maxLen at this; omega
  have HN := Lib.hid h; clear h
  cases hk : Agg.isKind k
  · have e : Agg.hopsIn k l size hop = false := by simp [Agg.hopsIn, hk]
    rw [Agg.hopsOut, e, if_neg (by simp)]
    go_enter Try.func12, Try.ntmps12
    go_wp2_with fail
    refine (kindValid_any _ _).mono ?_
    rintro e wk ⟨rfl, rfl⟩
    rw [hk]
    go_wp2_with fail
    go_returns
    exact RowOut.none_ (Below.refl _ _)
  · cases hi : Agg.itemsOk l
    · have e : Agg.hopsIn k l size hop = false := by simp [Agg.hopsIn, hi]
      rw [Agg.hopsOut, e, if_neg (by simp)]
      go_enter Try.func12, Try.ntmps12
      go_wp2_with fail
      refine (kindValid_any _ _).mono ?_
      rintro e wk ⟨rfl, rfl⟩
      rw [hk]
      go_wp2_with fail
      refine (areItems_any _ _ _ l _ HN.out).mono ?_
      rintro e wk ⟨rfl, rfl⟩
      rw [hi]
      go_wp2_with fail
      go_returns
      exact RowOut.none_ (Below.refl _ _)
    · cases hv : Agg.hopsOk size hop
      · have e : Agg.hopsIn k l size hop = false := by simp [Agg.hopsIn, hv]
        rw [Agg.hopsOut, e, if_neg (by simp)]
        go_enter Try.func12, Try.ntmps12
        go_wp2_with fail
        refine (kindValid_any _ _).mono ?_
        rintro e wk ⟨rfl, rfl⟩
        rw [hk]
        go_wp2_with fail
        refine (areItems_any _ _ _ l _ HN.out).mono ?_
        rintro e wk ⟨rfl, rfl⟩
        rw [hi]
        go_wp2_with fail
        refine (hopsValid_any _ _ _).mono ?_
        rintro e wk ⟨rfl, rfl⟩
        rw [hv]
        go_wp2_with fail
        go_returns
        exact RowOut.none_ (Below.refl _ _)
      · have e : Agg.hopsIn k l size hop = true := by simp [Agg.hopsIn, hk, hi, hv]
        rw [Agg.hopsOut, e, if_pos rfl]
        have hsz : 1 ≤ size ∧ size ≤ 60 ∧ 1 ≤ hop ∧ hop ≤ 60 := by simp [Agg.hopsOk] at hv; omega
        obtain ⟨hs1, hs2, hs3, hs4⟩ := hsz
        obtain ⟨s, rfl⟩ := Int.eq_ofNat_of_zero_le (show 0 ≤ size by omega)
        obtain ⟨h, rfl⟩ := Int.eq_ofNat_of_zero_le (show 0 ≤ hop by omega)
        rw [Int.toNat_natCast, Int.toNat_natCast]
        have hlen := Agg.items_len hi
        have hn60 : n ≤ 60 := by omega
        rw [Agg.hops, hll]
        have hR := Agg.rowsN_le (n := n) (s := s) (h := h) (by omega)
        have HC := Lib.hid (fun w h' => rowsOf_int a n cap l s h hn60 (by omega) (by omega) (by omega) (by omega) w h')
        have HF := Lib.hid (fun a cap w h' => foldNumbers_any k hk a (Agg.rowsN n s h) cap (fun j => (l.drop (j * h)).take s) (by omega) (fun i _ => part_ok hi (i * h) s) w h')
        obtain ⟨R, hRe⟩ : ∃ R, R = Agg.rowsN n s h := ⟨_, rfl⟩
        obtain ⟨f, hf⟩ : ∃ f : Nat → List Int, f = fun j => (l.drop (j * h)).take s := ⟨_, rfl⟩
        rw [← hRe] at hR
        rw [← hf, ← hRe] at HC HF ⊢
        clear hf hRe e
        go_enter Try.func12, Try.ntmps12
        go_wp2_with fail
        refine (kindValid_any _ _).mono ?_
        rintro e wk ⟨rfl, rfl⟩
        rw [hk]
        go_wp2_with fail
        refine (areItems_any _ _ _ l _ HN.out).mono ?_
        rintro e wk ⟨rfl, rfl⟩
        rw [hi]
        go_wp2_with fail
        refine (hopsValid_any _ _ _).mono ?_
        rintro e wk ⟨rfl, rfl⟩
        rw [hv]
        go_wp2_with fail
        refine (HC.out _ HN.out).mono ?_
        rintro e w1 ⟨a1, c1, rfl, hr, hb⟩
        have hs1' := hb.size
        have HR1 := Lib.hid hr
        have HB1 := Lib.hid hb
        clear hr hb
        go_wp2_with fail
        refine (HF.out _ _ _ HR1.out).mono ?_
        rintro e w2 ⟨v2, rfl, ho, hb2⟩
        have HB2 := Lib.hid (HB1.out.trans (hb2.mono hs1'))
        have HO2 := Lib.hid ho
        clear hb2 ho
        go_wp2_with fail
        go_returns
        exact ⟨_, _, rfl, ⟨owns_lower HO2.out.1 hs1', Nat.le_trans hs1' HO2.out.2.1, HO2.out.2.2.1, HO2.out.2.2.2⟩, HB2.out⟩
set_option maxRecDepth 4000 in
set_option maxHeartbeats 1000000 in
theorem s_hopNumbers_any (k : Int) (a : Option Addr) (n cap : Nat) (l : List Int) (size hop : Int) (w : World) (h : Nums .i64 w a n cap l) :
    Calls Try.prog 11 #[.int .i64 k, .slice a n cap, .int .i64 size, .int .i64 hop] w (RowOut (Agg.hopsOut k l size hop) (Agg.hopsIn k l size hop) w) := by
  obtain ⟨i0, hi0, hz0, hz1, hz2⟩ := info_parts infoInt
  have hll : l.length = n := h.1
  have hnc : n ≤ cap := h.2.1
  have hcm : cap ≤ 9223372036854775807 := by have := h.2.2.1; unfold maxLen at this; omega
  have HN := Lib.hid h; clear h
  cases hk : Agg.isKind k
  · have e : Agg.hopsIn k l size hop = false := by simp [Agg.hopsIn, hk]
    rw [Agg.hopsOut, e, if_neg (by simp)]
    go_enter Try.func11, Try.ntmps11
    go_wp2_with fail
    refine (s_kind_any _ _).mono ?_
    rintro e wk ⟨rfl, rfl⟩
    rw [hk]
    go_wp2_with fail
    go_returns
    exact ⟨_, 0, rfl, OwnR.made (l := []) (World.ownsRow_made (base := w.heap.size) (e := 3) (size := 1) w #[] 0 (Nat.le_refl _) (by simp [maxLen]) (by simp)) (by simp), (Below.refl _ _).alloc (Nat.le_refl _) _⟩
  · cases hi : Agg.itemsOk l
    · have e : Agg.hopsIn k l size hop = false := by simp [Agg.hopsIn, hi]
      rw [Agg.hopsOut, e, if_neg (by simp)]
      go_enter Try.func11, Try.ntmps11
      go_wp2_with fail
      refine (s_kind_any _ _).mono ?_
      rintro e wk ⟨rfl, rfl⟩
      rw [hk]
      go_wp2_with fail
      refine (s_items_any _ _ _ l _ (HN.out.below (by go_grown))).mono ?_
      rintro e wk ⟨rfl, rfl⟩
      rw [hi]
      go_wp2_with fail
      go_returns
      exact ⟨_, 0, rfl, OwnR.made (l := []) (World.ownsRow_made (base := w.heap.size) (e := 3) (size := 1) w #[] 0 (Nat.le_refl _) (by simp [maxLen]) (by simp)) (by simp), (Below.refl _ _).alloc (Nat.le_refl _) _⟩
    · cases hv : Agg.hopsOk size hop
      · have e : Agg.hopsIn k l size hop = false := by simp [Agg.hopsIn, hv]
        rw [Agg.hopsOut, e, if_neg (by simp)]
        go_enter Try.func11, Try.ntmps11
        go_wp2_with fail
        refine (s_kind_any _ _).mono ?_
        rintro e wk ⟨rfl, rfl⟩
        rw [hk]
        go_wp2_with fail
        refine (s_items_any _ _ _ l _ (HN.out.below (by go_grown))).mono ?_
        rintro e wk ⟨rfl, rfl⟩
        rw [hi]
        go_wp2_with fail
        refine (s_sizes_any _ _ _).mono ?_
        rintro e wk ⟨rfl, rfl⟩
        rw [hv]
        go_wp2_with fail
        go_returns
        exact ⟨_, 0, rfl, OwnR.made (l := []) (World.ownsRow_made (base := w.heap.size) (e := 3) (size := 1) w #[] 0 (Nat.le_refl _) (by simp [maxLen]) (by simp)) (by simp), (Below.refl _ _).alloc (Nat.le_refl _) _⟩
      · have e : Agg.hopsIn k l size hop = true := by simp [Agg.hopsIn, hk, hi, hv]
        rw [Agg.hopsOut, e, if_pos rfl]
        have hsz : 1 ≤ size ∧ size ≤ 60 ∧ 1 ≤ hop ∧ hop ≤ 60 := by simp [Agg.hopsOk] at hv; omega
        obtain ⟨hs1, hs2, hs3, hs4⟩ := hsz
        obtain ⟨s, rfl⟩ := Int.eq_ofNat_of_zero_le (show 0 ≤ size by omega)
        obtain ⟨h, rfl⟩ := Int.eq_ofNat_of_zero_le (show 0 ≤ hop by omega)
        rw [Int.toNat_natCast, Int.toNat_natCast]
        have hlen := Agg.items_len hi
        have hn60 : n ≤ 60 := by omega
        rw [Agg.hops, hll]
        have hR := fun j => Agg.rowsN_lt (n := n) (s := s) (h := h) (j := j) (by omega)
        have hR60 := Agg.rowsN_le (n := n) (s := s) (h := h) (by omega)
        have hsl := Agg.nums_len k (fun j => (l.drop (j * h)).take s) (Agg.rowsN n s h)
        have hst := fun j => Agg.nums_step k (fun j => (l.drop (j * h)).take s) (Agg.rowsN n s h) j
        obtain ⟨S, hS⟩ : ∃ S, S = Agg.nums k (fun j => (l.drop (j * h)).take s) (Agg.rowsN n s h) := ⟨_, rfl⟩
        rw [← hS] at hsl ⊢
        simp only [← hS] at hst
        obtain ⟨R, hRe⟩ : ∃ R, R = Agg.rowsN n s h := ⟨_, rfl⟩
        rw [← hRe] at hsl hR60
        simp only [← hRe] at hst hR
        have HSL := Lib.hid hsl
        have HST := Lib.hid hst
        have HR := Lib.hid hR
        have HI := Lib.hid hi
        clear hsl hst hS e hRe hR
        go_enter Try.func11, Try.ntmps11
        go_wp2_with fail
        refine (s_kind_any _ _).mono ?_
        rintro e wk ⟨rfl, rfl⟩
        rw [hk]
        go_wp2_with fail
        refine (s_items_any _ _ _ l _ (HN.out.below (by go_grown))).mono ?_
        rintro e wk ⟨rfl, rfl⟩
        rw [hi]
        go_wp2_with fail
        refine (s_sizes_any _ _ _).mono ?_
        rintro e wk ⟨rfl, rfl⟩
        rw [hv]
        clear hi hv
        go_wp2_with fail
        go_loopw [10, 11] (fun ov i wr => ∃ j c : Nat, j ≤ R ∧ Hid (c = j * h) ∧ c ≤ 120 ∧ i = .int .i64 (c : Int) ∧ Hid (wr.ownsRow w.heap.size 3 1 ov j ((S.take j).map (Value.int .i64))) ∧ Hid (Below w.heap.size w wr)) (fun _ i _ => 200 - (intOf i).toNat)
        case atStart => exact ⟨0, 0, Nat.zero_le _, Lib.hid (by simp), by omega, by go_num, World.ownsRow_made (base := w.heap.size) (e := 3) (size := 1) w #[] 0 (Nat.le_refl _) (by simp [maxLen]) (by simp), (Below.refl _ _).alloc (Nat.le_refl _) _⟩
        case round =>
          obtain ⟨j, c, hj, he, he2, rfl, ho, hw⟩ := hrel
          have hwr := hw.out.size
          by_cases hlt : s + c ≤ n
          · have hjR : j < R := (HR.out j).2 (by have := he.out; omega)
            rcases (HN.out.below hw.out).2.2.2 with h0 | ⟨b, off, rfl, hbw, hcs⟩
            · omega
            · clear hcs
              have hP := Lib.hid (Nums.part (i := c) (s := s) (HN.out.below hw.out) (by omega))
              have hst := HST.out j hjR
              rw [← he.out] at hst
              obtain ⟨x, hx⟩ : ∃ x, x = Agg.number k ((l.drop c).take s) := ⟨_, rfl⟩
              have hF := s_fold_any k hk (some ⟨b, off + c, none⟩) s (cap - c) _ _ hP.out (part_ok HI.out c s)
              have hok := Agg.ok_fold_all hk (part_ok HI.out c s)
              obtain ⟨⟨vx, vy, vz⟩, hV⟩ : ∃ V, V = Agg.fold k ((l.drop c).take s) := ⟨_, rfl⟩
              have hxe : Agg.num k ⟨vx, vy, vz⟩ = x := by rw [hx, Agg.number, hV]
              rw [← hV] at hF hok
              have hG := fun w => s_number_any k hk vx vy vz w hok
              rw [hxe] at hG
              rw [← hx] at hst
              have HF := Lib.hid hF
              have HG := Lib.hid hG
              have HS2 := Lib.hid hst
              clear hF hst hx hP hG hV hok hxe
              have hj0 : (0 : Int) ≤ (c : Int) := by omega
              have hj2 : (c : Int) + s ≤ (n : Int) := by omega
              have hj4 : (c : Int) + (s : Int) - (c : Int) = (s : Int) := by omega
              have hj5 : (c : Int) ≤ (c : Int) + (s : Int) := by omega
              go_wp2_with fail
              refine (HF.out).mono ?_
              rintro e w1 ⟨rfl, hb1⟩
              have HW1 := Lib.hid (hw.out.trans (hb1.mono hwr))
              have HO1 := Lib.hid (ho.out.kept (Below.grownNone hb1 none) (by cases hv : u10.ownBlock <;> simp))
              clear hb1
              go_wp2_with fail
              refine (HG.out _).mono ?_
              rintro e w2 ⟨rfl, hb2⟩
              have HO2 := Lib.hid (HO1.out.kept (Below.grownNone hb2 none) (by cases hv : u10.ownBlock <;> simp))
              have HW2 := Lib.hid (HW1.out.trans (hb2.mono HW1.out.size))
              have hlt' : ∀ q, u10.ownBlock = some q → w.heap.size ≤ q := fun q hq => (ho.out.lt q hq).1
              clear hb2
              have hsz2 := HW2.out.size
              go_wp2_with (at_builtin; refine wpList_append_own _ rfl (.tmp 37) (.tmp 48) 22 rfl w.heap.size 3 i0 (.int .i64 0) 1 8 Try.underlying22 hi0 hz0 hz1 hz2 rfl (by decide) _ _ _ rfl (HO2.out.alloc _) ⟨w2.heap.size, 0, none⟩ 1 1 [.int .i64 x] rfl rfl (cell_one_new _ _ _) (ints_oneCell .i64 [x]) (by unfold maxLen; omega) (by omega) (by simp; omega) ?_; intro v' w3 hown3 hgrow3 hnil3; have HO3 := Lib.hid hown3; have HW3 := Lib.hid ((HW2.out.alloc HW2.out.size _).grown hgrow3 (by have := HW2.out.size; simp; omega) hlt'); clear hown3 hgrow3 hnil3)
              go_roundw
              case rel =>
                refine ⟨j + 1, c + h, hjR, Lib.hid (by rw [he.out, Nat.add_mul, Nat.one_mul]), by omega, by go_num, Lib.hid ?_, HW3⟩
                rw [HS2.out, List.map_append]
                exact HO3.out
              case measure => simp [intOf]; omega
          · obtain rfl : j = R := by
              have := (HR.out j)
              have h2 := he.out
              rcases Nat.lt_or_ge j R with h3 | h3
              · have := this.1 h3; omega
              · omega
            have hlt2 : ¬ ((c : Int) + s ≤ (n : Int)) := by omega
            have hall : S.take j = S := List.take_of_length_le (by have := HSL.out; omega)
            have ho2 := ho.out
            rw [hall] at ho2
            have HO2 := Lib.hid ho2
            clear ho2 hall
            go_wp2
            go_returns
            exact ⟨_, _, rfl, OwnR.made HO2.out hw.out.size, hw.out⟩
end Go.Proofs.Ytmlkdbmhekiniaa
