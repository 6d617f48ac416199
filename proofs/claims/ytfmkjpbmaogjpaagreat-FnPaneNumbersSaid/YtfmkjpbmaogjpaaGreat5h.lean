/-
  PanesOf, in the program and in the model.
-/
import Derived.Test.YtfmkjpbmaogjpaaGreat5e
import Derived.Test.YtfmkjpbmaogjpaaGreat5a
import Derived.Test.YtfmkjpbmaogjpaaGreatRw
import Derived.Deep.DeepMust
namespace Go.Proofs.YtfmkjpbmaogjpaaGreat
set_option linter.unusedSimpArgs false
set_option linter.unusedVariables false
open Go.RowKit
/-- The folds of n rows. -/
def Agg.folds (k : Int) (f : Nat → List Int) (n : Nat) : List Agg.V := (List.range n).map fun i => Agg.fold k (f i)
theorem Agg.folds_len (k : Int) (f : Nat → List Int) (n : Nat) : (Agg.folds k f n).length = n := by simp [Agg.folds]
theorem Agg.folds_step (k : Int) (f : Nat → List Int) (n j : Nat) (h : j < n) : (Agg.folds k f n).take (j + 1) = (Agg.folds k f n).take j ++ [Agg.fold k (f j)] := by
  rw [List.take_succ_eq_append_getElem (by rw [Agg.folds_len]; exact h)]
  simp [Agg.folds]
theorem Agg.folds_at (k : Int) (f : Nat → List Int) (n j : Nat) (h : j < n) : (Agg.folds k f n)[j]?.getD Agg.zero = Agg.fold k (f j) := by simp [Agg.folds, h]
/-- The panes of s items. -/
def Agg.panes (k : Int) (l : List Int) (s : Nat) : List Agg.V := Agg.folds k (fun j => (l.drop (j * s)).take s) (Agg.rowsN l.length s s)
def Agg.panesOk (k : Int) (l : List Int) (s : Int) : Bool := Agg.isKind k && Agg.itemsOk l && decide (1 ≤ s ∧ s ≤ 60)
def Agg.panesOut (k : Int) (l : List Int) (s : Int) : List Agg.V := if Agg.panesOk k l s then Agg.panes k l s.toNat else []
theorem Agg.panes_len (k : Int) (l : List Int) (s : Nat) : (Agg.panes k l s).length = Agg.rowsN l.length s s := Agg.folds_len _ _ _
theorem Agg.panesOut_len (k : Int) (l : List Int) (s : Int) : (Agg.panesOut k l s).length ≤ 60 := by
  unfold Agg.panesOut
  split
  · rename_i e
    simp only [Agg.panesOk, Bool.and_eq_true, decide_eq_true_eq] at e
    have := Agg.items_len e.1.2
    have h2 := Agg.rowsN_le (n := l.length) (s := s.toNat) (h := s.toNat) (by omega)
    rw [Agg.panes_len]; omega
  · simp
/-- A row of aggregates of the call's own, and whether there is one. -/
def ValsOut (l : List Agg.V) (b : Bool) (w : World) (e : Ending) (w' : World) : Prop :=
  ∃ (v : Value) (n : Nat), e = .returned (.tuple #[v, .bool b]) ∧ OwnV w' w.heap.size w'.heap.size v n l ∧ Below w.heap.size w w'
theorem ValsOut.none_ {w w' : World} (h : Below w.heap.size w w') : ValsOut [] false w (.returned (.tuple #[.slice none 0 0, .bool false])) w' :=
  ⟨_, 0, rfl, OwnV.made (World.ownsRow_nil _ _ _ _) h.size, h⟩
theorem ValsOut.empty_ (w : World) (T : TypeId) (hT : T = 24) : ValsOut [] false w (.returned (.tuple #[.slice (some ⟨w.heap.size, 0, none⟩) 0 0, .bool false])) (w.alloc (.cells #[] T)) := by
  subst hT
  exact ⟨_, 0, rfl, OwnV.made (l := []) (by simpa [valRow] using World.ownsRow_made (base := w.heap.size) (e := 24) (size := 3) w #[] 0 (Nat.le_refl _) (by simp [maxLen]) (by simp)) (by simp), (Below.refl _ _).alloc (Nat.le_refl _) _⟩
/-- A row of aggregates of the call's own. -/
def ValsRow (l : List Agg.V) (w : World) (e : Ending) (w' : World) : Prop :=
  ∃ (v : Value) (n : Nat), e = .returned v ∧ OwnV w' w.heap.size w'.heap.size v n l ∧ Below w.heap.size w w'
set_option maxRecDepth 4000 in
set_option maxHeartbeats 1000000 in
theorem panesOf_any (k : Int) (a : Option Addr) (n cap : Nat) (l : List Int) (size : Int) (w : World) (h : Nums .i64 w a n cap l) :
    Calls Tryz.prog 46 #[.int .i64 k, .slice a n cap, .int .i64 size] w (ValsOut (Agg.panesOut k l size) (Agg.panesOk k l size) w) := by
  obtain ⟨i0, hi0, hz0, hz1, hz2⟩ := info_parts infoVal
  have hll : l.length = n := h.1
  have hnc : n ≤ cap := h.2.1
  have hcm : cap ≤ 9223372036854775807 := by have := h.2.2.1; unfold maxLen at this; omega
  have HN := Lib.hid h; clear h
  cases hk : Agg.isKind k
  · have e : Agg.panesOk k l size = false := by simp [Agg.panesOk, hk]
    rw [Agg.panesOut, e, if_neg (by simp)]
    go_enter Tryz.func46, Tryz.ntmps46
    go_wp2_with fail
    refine (kindValid_any _ _).mono ?_
    rintro e wk ⟨rfl, rfl⟩
    rw [hk]
    go_wp2_with fail
    go_returns
    exact ValsOut.none_ (Below.refl _ _)
  · cases hi : Agg.itemsOk l
    · have e : Agg.panesOk k l size = false := by simp [Agg.panesOk, hi]
      rw [Agg.panesOut, e, if_neg (by simp)]
      go_enter Tryz.func46, Tryz.ntmps46
      go_wp2_with fail
      refine (kindValid_any _ _).mono ?_
      rintro e wk ⟨rfl, rfl⟩
      rw [hk]
      go_wp2_with fail
      refine (areItems_any _ _ _ l _ HN.out).mono ?_
      rintro e wk ⟨rfl, rfl⟩
      rw [hi]
      go_wp2_with fail
      go_returns
      exact ValsOut.none_ (Below.refl _ _)
    · by_cases hs : 1 ≤ size ∧ size ≤ 60
      · have e : Agg.panesOk k l size = true := by simp [Agg.panesOk, hk, hi, hs.1, hs.2]
        rw [Agg.panesOut, e, if_pos rfl]
        obtain ⟨hs1, hs2⟩ := hs
        obtain ⟨s, rfl⟩ := Int.eq_ofNat_of_zero_le (show 0 ≤ size by omega)
        rw [Int.toNat_natCast]
        have hlen := Agg.items_len hi
        have hn60 : n ≤ 60 := by omega
        rw [Agg.panes, hll]
        have hR := Agg.rowsN_le (n := n) (s := s) (h := s) (by omega)
        have HC := Lib.hid (fun w h' => rowsOf_int a n cap l s s hn60 (by omega) (by omega) (by omega) (by omega) w h')
        have HOK := Lib.hid (fun i => part_ok hi (i * s) s)
        obtain ⟨R, hRe⟩ : ∃ R, R = Agg.rowsN n s s := ⟨_, rfl⟩
        obtain ⟨f, hf⟩ : ∃ f : Nat → List Int, f = fun j => (l.drop (j * s)).take s := ⟨_, rfl⟩
        have HOKF := Lib.hid (show ∀ i, Agg.itemsOk (f i) = true by intro i; rw [hf]; exact HOK.out i)
        rw [← hRe] at hR
        rw [← hf, ← hRe] at HC ⊢
        have hsl := Agg.folds_len k f R
        have hst := fun j => Agg.folds_step k f R j
        obtain ⟨S, hS⟩ : ∃ S, S = Agg.folds k f R := ⟨_, rfl⟩
        rw [← hS] at hsl ⊢
        simp only [← hS] at hst
        have HSL := Lib.hid hsl
        have HST := Lib.hid hst
        clear hf hRe e hsl hst hS HOK
        go_enter Tryz.func46, Tryz.ntmps46
        go_wp2_with fail
        refine (kindValid_any _ _).mono ?_
        rintro e wk ⟨rfl, rfl⟩
        rw [hk]
        go_wp2_with fail
        refine (areItems_any _ _ _ l _ HN.out).mono ?_
        rintro e wk ⟨rfl, rfl⟩
        rw [hi]
        go_wp2_with fail
        refine (within_any _ _ _ _).mono ?_
        rintro e wk ⟨rfl, rfl⟩
        go_wp2_with fail
        refine (HC.out _ HN.out).mono ?_
        rintro e w1 ⟨a1, c1, rfl, hr, hb⟩
        have hs1' := hb.size
        have hnc1 := hr.1
        have hcm1 := hr.2.1
        have HR1 := Lib.hid hr
        have HB1 := Lib.hid hb
        clear hr hb hi
        go_wp2_with fail
        go_loopw [8, 31] (fun ov i wr => ∃ j : Nat, j ≤ R ∧ i = .int .i64 j ∧ Hid (wr.ownsRow w1.heap.size 24 3 ov j (valRow (S.take j))) ∧ Hid (Below w1.heap.size w1 wr)) (fun _ i _ => R - (intOf i).toNat)
        case atStart => exact ⟨0, Nat.zero_le _, rfl, Lib.hid (by simpa [valRow] using World.ownsRow_nil w1 w1.heap.size 24 3), Below.refl _ _⟩
        case round =>
          obtain ⟨j, hj, rfl, ho, hv⟩ := hrel
          have hvr := hv.out.size
          by_cases hlt : j < R
          · rcases (HR1.out.below hv.out).2.2 with h0 | ⟨b, off, rfl, hbw, hcs⟩
            · omega
            · obtain ⟨a2, m, c, hcell, hN⟩ := hcs j hlt
              clear hcs
              have HNN := Lib.hid hN; clear hN
              have hst := HST.out j hlt
              have hF := fun w h => foldItems_any k a2 m c (f j) w h
              rw [Agg.aFold_of hk (HOKF.out j)] at hF
              obtain ⟨⟨vx, vy, vz⟩, hV⟩ : ∃ V, V = Agg.fold k (f j) := ⟨_, rfl⟩
              rw [← hV] at hF hst
              have HF := Lib.hid hF
              have HS2 := Lib.hid hst
              clear hF hst hV
              have hk0 : (0 : Int) ≤ (j : Int) := Int.natCast_nonneg _
              have hkn : (j : Int) < (R : Int) := by omega
              have hlt' : ∀ q, u8.ownBlock = some q → w1.heap.size ≤ q := fun q hq => (ho.out.lt q hq).1
              go_wp2_with fail
              refine (HF.out _ HNN.out).mono ?_
              rintro e w3 ⟨rfl, hb3⟩
              have HO3 := Lib.hid ((ho.out.kept (Below.grownNone hb3 none) (by cases hv : u8.ownBlock <;> simp)).alloc (.cells #[.int .i64 vx, .int .i64 vy, .int .i64 vz] 24))
              have hs4 : w1.heap.size ≤ w3.heap.size := Nat.le_trans hvr hb3.size
              have HV3 := Lib.hid ((hv.out.trans (hb3.mono hvr)).alloc hs4 (.cells #[.int .i64 vx, .int .i64 vy, .int .i64 vz] 24))
              clear hb3 hcell HF
              have hc3 := cell_three_new (w3.alloc (.cells #[.int .i64 vx, .int .i64 vy, .int .i64 vz] 24)) vx vy vz 24
              rw [show (w3.alloc (.cells #[.int .i64 vx, .int .i64 vy, .int .i64 vz] 24)).heap.size = w3.heap.size + 1 by simp] at hc3
              have HC3 := Lib.hid hc3
              clear hc3
              go_wp2_with (at_builtin; go_must (refine wpList_append_own _ rfl (.tmp 41) (.tmp 43) 60 rfl w1.heap.size 24 i0 (.agg #[.int .i64 0, .int .i64 0, .int .i64 0]) 3 24 Tryz.underlying60 hi0 hz0 hz1 hz2 rfl (by decide) _ _ _ rfl (HO3.out.alloc _) ⟨w3.heap.size + 1, 0, none⟩ 1 1 [.int .i64 vx, .int .i64 vy, .int .i64 vz] rfl rfl HC3.out (three_oneCell vx vy vz) (by unfold maxLen; omega) (by omega) (by simp; omega) ?_); intro v' w5 hown5 hgrow5 hnil5; have HO5 := Lib.hid hown5; have HV5 := Lib.hid ((HV3.out.alloc HV3.out.size _).grown hgrow5 (by have := HV3.out.size; simp; omega) hlt'); clear hown5 hgrow5 hnil5)
              go_roundw
              case rel =>
                refine ⟨j + 1, by omega, by go_num, Lib.hid ?_, HV5⟩
                rw [HS2.out, valRow_snoc]
                exact HO5.out
              case measure => simp [intOf]; omega
          · obtain rfl : j = R := by omega
            have ho2 := ho.out
            rw [List.take_of_length_le (by have := HSL.out; omega)] at ho2
            have HO2 := Lib.hid ho2
            clear ho2
            have HW2 := Lib.hid (HB1.out.trans (hv.out.mono hs1'))
            go_wp2
            go_returns
            exact ⟨_, _, rfl, OwnV.made (owns_lower HO2.out hs1') HW2.out.size, HW2.out⟩
      · have e : Agg.panesOk k l size = false := by simp [Agg.panesOk]; intro _ _ _; omega
        have hw : (decide (1 ≤ size) && decide (size ≤ 60)) = false := by simp; omega
        rw [Agg.panesOut, e, if_neg (by simp)]
        clear e hs
        go_enter Tryz.func46, Tryz.ntmps46
        go_wp2_with fail
        refine (kindValid_any _ _).mono ?_
        rintro e wk ⟨rfl, rfl⟩
        rw [hk]
        go_wp2_with fail
        refine (areItems_any _ _ _ l _ HN.out).mono ?_
        rintro e wk ⟨rfl, rfl⟩
        rw [hi]
        go_wp2_with fail
        refine (within_any _ _ _ _).mono ?_
        rintro e wk ⟨rfl, rfl⟩
        go_wp2_with fail
        go_returns
        exact ValsOut.none_ (Below.refl _ _)
set_option maxRecDepth 4000 in
set_option maxHeartbeats 1000000 in
theorem s_panes_any (k : Int) (hk : Agg.isKind k = true) (a : Option Addr) (n cap : Nat) (l : List Int) (hi : Agg.itemsOk l = true) (s : Nat) (hs1 : 1 ≤ s) (hs2 : s ≤ 60) (w : World) (h : Nums .i64 w a n cap l) :
    Calls Tryz.prog 86 #[.int .i64 k, .slice a n cap, .int .i64 s] w (ValsRow (Agg.panes k l s) w) := by
  obtain ⟨i0, hi0, hz0, hz1, hz2⟩ := info_parts infoVal
  have hll : l.length = n := h.1
  have hnc : n ≤ cap := h.2.1
  have hcm : cap ≤ 9223372036854775807 := by have := h.2.2.1; unfold maxLen at this; omega
  have HN := Lib.hid h; clear h
  have hlen := Agg.items_len hi
  have hn60 : n ≤ 60 := by omega
  rw [Agg.panes, hll]
  have hR := fun j => Agg.rowsN_lt (n := n) (s := s) (h := s) (j := j) (by omega)
  have hR60 := Agg.rowsN_le (n := n) (s := s) (h := s) (by omega)
  have hsl := Agg.folds_len k (fun j => (l.drop (j * s)).take s) (Agg.rowsN n s s)
  have hst := fun j => Agg.folds_step k (fun j => (l.drop (j * s)).take s) (Agg.rowsN n s s) j
  obtain ⟨S, hS⟩ : ∃ S, S = Agg.folds k (fun j => (l.drop (j * s)).take s) (Agg.rowsN n s s) := ⟨_, rfl⟩
  rw [← hS] at hsl ⊢
  simp only [← hS] at hst
  obtain ⟨R, hRe⟩ : ∃ R, R = Agg.rowsN n s s := ⟨_, rfl⟩
  rw [← hRe] at hsl hR60
  simp only [← hRe] at hst hR
  have HSL := Lib.hid hsl
  have HST := Lib.hid hst
  have HR := Lib.hid hR
  have HI := Lib.hid hi
  clear hsl hst hS hRe hR hi
  go_enter Tryz.func86, Tryz.ntmps86
  go_wp2_with fail
  go_loopw [7, 8] (fun ov i wr => ∃ j c : Nat, j ≤ R ∧ Hid (c = j * s) ∧ c ≤ 120 ∧ i = .int .i64 (c : Int) ∧ Hid (wr.ownsRow w.heap.size 24 3 ov j (valRow (S.take j))) ∧ Hid (Below w.heap.size w wr)) (fun _ i _ => 200 - (intOf i).toNat)
  case atStart => exact ⟨0, 0, Nat.zero_le _, Lib.hid (by simp), by omega, by go_num, Lib.hid (by simpa [valRow] using World.ownsRow_made (base := w.heap.size) (e := 24) (size := 3) w #[] 0 (Nat.le_refl _) (by simp [maxLen]) (by simp)), (Below.refl _ _).alloc (Nat.le_refl _) _⟩
  case round =>
    obtain ⟨j, c, hj, he, he2, rfl, ho, hw⟩ := hrel
    have hwr := hw.out.size
    by_cases hlt : s + c ≤ n
    · have hjR : j < R := (HR.out j).2 (by have := he.out; omega)
      rcases (HN.out.below hw.out).2.2.2 with h0 | ⟨b, off, rfl, hbw, hcs⟩
      · omega
      · clear hcs
        have hP := Lib.hid (Nums.part (i := c) (s := s) (HN.out.below hw.out) (by omega))
        have hst := HST.out j hjR
        rw [← he.out] at hst
        have hF := s_fold_any k hk (some ⟨b, off + c, none⟩) s (cap - c) _ _ hP.out (part_ok HI.out c s)
        obtain ⟨⟨vx, vy, vz⟩, hV⟩ : ∃ V, V = Agg.fold k ((l.drop c).take s) := ⟨_, rfl⟩
        rw [← hV] at hF hst
        have HF := Lib.hid hF
        have HS2 := Lib.hid hst
        clear hF hst hP hV
        have hj0 : (0 : Int) ≤ (c : Int) := by omega
        have hj2 : (c : Int) + s ≤ (n : Int) := by omega
        have hj4 : (c : Int) + (s : Int) - (c : Int) = (s : Int) := by omega
        have hj5 : (c : Int) ≤ (c : Int) + (s : Int) := by omega
        go_wp2_with fail
        refine (HF.out).mono ?_
        rintro e w1 ⟨rfl, hb1⟩
        have HW1 := Lib.hid (hw.out.trans (hb1.mono hwr))
        have HO1 := Lib.hid (ho.out.kept (Below.grownNone hb1 none) (by cases hv : u7.ownBlock <;> simp))
        have hlt' : ∀ q, u7.ownBlock = some q → w.heap.size ≤ q := fun q hq => (ho.out.lt q hq).1
        have hsz1 := HW1.out.size
        clear hb1 HF
        go_wp2_with (at_builtin; go_must (refine wpList_append_own _ rfl (.tmp 19) (.tmp 28) 60 rfl w.heap.size 24 i0 (.agg #[.int .i64 0, .int .i64 0, .int .i64 0]) 3 24 Tryz.underlying60 hi0 hz0 hz1 hz2 rfl (by decide) _ _ _ rfl (HO1.out.alloc _) ⟨w1.heap.size, 0, none⟩ 1 1 [.int .i64 vx, .int .i64 vy, .int .i64 vz] rfl rfl (cell_three_new _ _ _ _ _) (three_oneCell vx vy vz) (by unfold maxLen; omega) (by omega) (by simp; omega) ?_); intro v' w5 hown5 hgrow5 hnil5; have HO5 := Lib.hid hown5; have HW5 := Lib.hid ((HW1.out.alloc HW1.out.size _).grown hgrow5 (by have := HW1.out.size; simp; omega) hlt'); clear hown5 hgrow5 hnil5)
        go_roundw
        case rel =>
          refine ⟨j + 1, c + s, hjR, Lib.hid (by rw [he.out, Nat.add_mul, Nat.one_mul]), by omega, by go_num, Lib.hid ?_, HW5⟩
          rw [HS2.out, valRow_snoc]
          exact HO5.out
        case measure => simp [intOf]; omega
    · obtain rfl : j = R := by
        have := (HR.out j)
        have h2 := he.out
        rcases Nat.lt_or_ge j R with h3 | h3
        · have := this.1 h3; omega
        · omega
      have hlt2 : ¬ ((c : Int) + s ≤ (n : Int)) := by omega
      have hall : S.take j = S := List.take_of_length_le (by have := HSL.out; omega)
      have ho2 := ho.out
      rw [hall] at ho2
      have HO2 := Lib.hid ho2
      clear ho2 hall
      go_wp2
      go_returns
      exact ⟨_, _, rfl, OwnV.made HO2.out hw.out.size, hw.out⟩
end Go.Proofs.YtfmkjpbmaogjpaaGreat
