/-
  Arguments that the model draws; the law FnQueriesValid, walked.
-/
import Derived.Test.Ytofpnmjadflebaa9u
namespace Go.Proofs.Ytofpnmjadflebaa
set_option linter.unusedSimpArgs false
set_option linter.unusedVariables false
open Go.RowKit
/-- A query of a valid list is valid; no two are equal; and the other way round. -/
theorem nodup_snoc9 (l : List (Int × Int)) (a : Int × Int) : (l ++ [a]).Nodup ↔ l.Nodup ∧ l.contains a = false := by
  rw [List.nodup_append]
  constructor
  · rintro ⟨h1, -, h2⟩
    refine ⟨h1, ?_⟩
    cases hc : l.contains a
    · rfl
    · exact absurd rfl (h2 a (by simpa using hc) a (by simp))
  · rintro ⟨h1, h2⟩
    refine ⟨h1, by simp, ?_⟩
    rintro x hx y hy rfl
    have hxa : x = a := by simpa using hy
    subst hxa
    have : l.contains x = true := by simpa using hx
    rw [this] at h2
    cases h2
theorem Agg.qrysTo_iff (l : List (Int × Int)) : ∀ i, i ≤ l.length → (Agg.qrysTo l i = true ↔ (∀ q ∈ l.take i, Agg.qryOk q = true) ∧ (l.take i).Nodup)
  | 0, _ => by simp [Agg.qrysTo]
  | i + 1, h => by
    have e : l.take (i + 1) = l.take i ++ [qryAt l i] := by
      rw [List.take_succ_eq_append_getElem h]; simp [qryAt, show i < l.length from h]
    have ih := Agg.qrysTo_iff l i (by omega)
    rw [e, nodup_snoc9]
    have e2 : (∀ q ∈ l.take i ++ [qryAt l i], Agg.qryOk q = true) ↔ (∀ q ∈ l.take i, Agg.qryOk q = true) ∧ Agg.qryOk (qryAt l i) = true := by
      constructor
      · intro h
        exact ⟨fun q hq => h q (List.mem_append_left _ hq), h _ (List.mem_append_right _ (List.mem_singleton.2 rfl))⟩
      · rintro ⟨h1, h2⟩ q hq
        rcases List.mem_append.1 hq with hq | hq
        · exact h1 q hq
        · rw [List.mem_singleton.1 hq]; exact h2
    rw [e2]
    simp only [Agg.qrysTo, Bool.and_eq_true, Bool.not_eq_true']
    rw [ih]
    exact ⟨fun ⟨⟨a, b⟩, c, d⟩ => ⟨⟨a, c⟩, b, d⟩, fun ⟨⟨a, c⟩, b, d⟩ => ⟨⟨a, b⟩, c, d⟩⟩
theorem Agg.qrysOk_iff (l : List (Int × Int)) : Agg.qrysOk l = true ↔ l.length ≤ 8 ∧ (∀ q ∈ l, Agg.qryOk q = true) ∧ l.Nodup := by
  have := Agg.qrysTo_iff l l.length (Nat.le_refl _)
  rw [List.take_length] at this
  simp only [Agg.qrysOk, Bool.and_eq_true, decide_eq_true_eq, this]
theorem Agg.qrysOk_take {l : List (Int × Int)} (h : Agg.qrysOk l = true) (i : Nat) : Agg.qrysOk (l.take i) = true := by
  rw [Agg.qrysOk_iff] at h ⊢
  obtain ⟨h1, h2, h3⟩ := h
  exact ⟨by rw [List.length_take]; omega, fun q hq => h2 q (List.mem_of_mem_take hq), h3.sublist (List.take_sublist _ _)⟩
theorem Agg.qrysOk_drop {l : List (Int × Int)} (h : Agg.qrysOk l = true) (i : Nat) : Agg.qrysOk (l.drop i) = true := by
  rw [Agg.qrysOk_iff] at h ⊢
  obtain ⟨h1, h2, h3⟩ := h
  exact ⟨by rw [List.length_drop]; omega, fun q hq => h2 q (List.mem_of_mem_drop hq), h3.sublist (List.drop_sublist _ _)⟩
/-- Queries are drawn out of bytes. -/
def QrysNew (w : World) (e : Ending) (w' : World) : Prop :=
  ∃ v n l, e = .returned v ∧ OwnQy w' w.heap.size w'.heap.size v n l ∧ n ≤ 9 ∧ Below w.heap.size w w'
theorem Qrs.tail {w : World} {g n cap : Nat} {l : List (Int × Int)} (h : Qrs w (some ⟨g, 0, none⟩) n cap l) (hn : n ≠ 0) : Qrs w (some ⟨g, 2, none⟩) (n - 1) (cap - 1) (l.drop 1) := by
  obtain ⟨h1, h2, h3, h4⟩ := h
  refine ⟨by rw [List.length_drop, h1], by omega, by omega, ?_⟩
  rcases h4 with h4 | ⟨b, off, ha, hb, hc⟩
  · omega
  · injection ha with ha
    injection ha with ha1 ha2 ha3
    subst ha1 ha2
    refine .inr ⟨_, 2, rfl, hb, fun i hi => ?_⟩
    have := hc (i + 1) (by omega)
    rw [List.getElem?_drop, show 1 + i = i + 1 by omega, show 2 + i * 2 = 0 + (i + 1) * 2 by omega]
    exact this
set_option maxHeartbeats 1000000 in
theorem drawQueriesValid_any (a : Option Addr) (n cap : Nat) (l : List Int) (w : World) (h : Bytes w a n cap l) :
    Calls Try.prog 9 #[.slice a n cap] w (QrysNew w) := by
  have HB := Lib.hid h; clear h
  go_enter Try.func9, Try.ntmps9
  go_wp2_with fail
  refine (open_any _ _ _ l _ HB.out).mono ?_
  rintro e w2 ⟨c, rfl, hr, hb⟩
  have hs2 := hb.size
  have hc1 := hr.1
  have HR := Lib.hid hr
  have HW2 := Lib.hid hb
  clear hr hb
  go_wp2_with fail
  refine (l9Draw_any _ c _ _ HR.out (by omega)).mono ?_
  rintro e w3 ⟨v, m, L, p', rfl, ho, hm, -, -, -, hg⟩
  have HO := Lib.hid (ho.wide (lo' := w.heap.size) (hi' := w3.heap.size) hs2 (Nat.le_refl _) (Nat.le_refl _))
  have HW3 := Lib.hid (HW2.out.trans (grown_below hg hs2 hc1))
  clear ho hg
  go_wp2_with fail
  go_returns
  exact ⟨_, m, L, rfl, HO.out, hm, HW3.out⟩
set_option maxRecDepth 8000 in
set_option maxHeartbeats 2000000 in
theorem law_FnQueriesValid (a : Option Addr) (n cap : Nat) (zs : List Int) (w : World) (hrow : IsRow .u8 w a n cap zs) :
    Calls Try.prog 3 #[.slice a n cap] w fun e w' => e = .returned (.bool true) ∧ Below w.heap.size w w' := by
  have HB := Lib.hid (Bytes.of_row hrow)
  have hm : cap ≤ 9223372036854775807 := HB.out.2.1
  have hnc : n ≤ cap := HB.out.1
  clear hrow
  by_cases hn : n ≤ 1048576
  · go_enter Try.func3, Try.ntmps3
    go_wp2_with fail
    refine (drawQueriesValid_any _ _ _ _ _ HB.out).mono ?_
    rintro e w1 ⟨v, m, L, rfl, ho, hm9, hb1⟩
    obtain ⟨la, lc, rfl, hq⟩ := ho.ops
    have hqn : m ≤ lc := hq.2.1
    have hqm : lc ≤ 9223372036854775807 := by have := hq.2.2.1; unfold maxLen at this; omega
    have HQ := Lib.hid hq
    have HOW := Lib.hid ho.1
    have HW1 := Lib.hid hb1
    obtain ⟨b, hb⟩ : ∃ b, b = Agg.qrysOk L := ⟨_, rfl⟩
    have H1 := Lib.hid (fun X (hX : Below w1.heap.size w1 X) => queriesValid_any la m lc L X (HQ.out.below hX))
    have H2 := Lib.hid (fun X (hX : Below w1.heap.size w1 X) => s_queriesValid_any la m lc L X (HQ.out.below hX))
    rw [← hb] at H1 H2
    have HBB := Lib.hid hb
    clear hb hq ho hb1
    go_wp2_with fail
    refine (H1.out _ (Below.refl _ _)).mono ?_
    rintro e w2 ⟨rfl, hb2⟩
    have HT2 := Lib.hid hb2
    clear hb2
    go_wp2_with fail
    refine (H2.out _ HT2.out).mono ?_
    rintro e w3 ⟨rfl, hb3⟩
    have HT3 := Lib.hid (HT2.out.trans (hb3.mono HT2.out.size))
    clear hb3 HT2
    cases b
    · go_wp2_with fail
      refine (H2.out _ HT3.out).mono ?_
      rintro e w4 ⟨rfl, hb4⟩
      have HW4 := Lib.hid (HW1.out.trans ((HT3.out.trans (hb4.mono HT3.out.size)).mono HW1.out.size))
      clear hb4
      go_wp2_with fail
      go_returns
      exact ⟨rfl, HW4.out⟩
    · by_cases hm0 : m = 0
      · subst hm0
        go_wp2_with fail
        refine (H2.out _ HT3.out).mono ?_
        rintro e w4 ⟨rfl, hb4⟩
        have HW4 := Lib.hid (HW1.out.trans ((HT3.out.trans (hb4.mono HT3.out.size)).mono HW1.out.size))
        clear hb4
        go_wp2_with fail
        go_returns
        exact ⟨rfl, HW4.out⟩
      · have hmp : (0 : Int) < (m : Int) := by omega
        obtain ⟨g, rfl, -, -⟩ := qrow_addr HOW.out hm0
        have hcast : ((m : Int) - 1) = ((m - 1 : Nat) : Int) := by omega
        have HT1 := Lib.hid (fun X (hX : Below w1.heap.size w1 X) => queriesValid_any (some ⟨g, 0, none⟩) (m - 1) lc (L.take (m - 1)) X ((HQ.out.take (by omega)).below hX))
        have HT4 := Lib.hid (fun X (hX : Below w1.heap.size w1 X) => queriesValid_any (some ⟨g, 2, none⟩) (m - 1) (lc - 1) (L.drop 1) X ((HQ.out.tail hm0).below hX))
        rw [Agg.qrysOk_take HBB.out.symm] at HT1
        rw [Agg.qrysOk_drop HBB.out.symm] at HT4
        go_wp2_with fail
        refine (HT1.out _ HT3.out).mono ?_
        rintro e w4 ⟨rfl, hb4⟩
        have HT5 := Lib.hid (HT3.out.trans (hb4.mono HT3.out.size))
        clear hb4
        have h1 : (1 : Int) ≤ (m : Int) := by omega
        have h2 : (1 : Int) ≤ (lc : Int) := by omega
        by_cases hc1 : lc = 1
        · subst hc1
          obtain rfl : m = 1 := by omega
          have hnil : L.drop 1 = [] := List.eq_nil_of_length_eq_zero (by rw [List.length_drop, HQ.out.1])
          have HT6 := Lib.hid (fun X (hX : Below w1.heap.size w1 X) => queriesValid_any (some ⟨g, 0, none⟩) 0 0 [] X ⟨rfl, Nat.le_refl _, by simp [maxLen], .inl rfl⟩)
          rw [show Agg.qrysOk [] = true from rfl] at HT6
          go_wp2_with fail
          refine (HT6.out _ HT5.out).mono ?_
          rintro e w5 ⟨rfl, hb5⟩
          have HW5 := Lib.hid (HW1.out.trans ((HT5.out.trans (hb5.mono HT5.out.size)).mono HW1.out.size))
          clear hb5
          go_wp2_with fail
          go_returns
          exact ⟨rfl, HW5.out⟩
        · have h3 : (1 : Int) < (lc : Int) := by omega
          have h4 : ¬ (lc - 1 = 0) := by omega
          go_wp2_with fail
          refine (HT4.out _ HT5.out).mono ?_
          rintro e w5 ⟨rfl, hb5⟩
          have HW5 := Lib.hid (HW1.out.trans ((HT5.out.trans (hb5.mono HT5.out.size)).mono HW1.out.size))
          clear hb5
          go_wp2_with fail
          go_returns
          exact ⟨rfl, HW5.out⟩
  · go_enter Try.func3, Try.ntmps3
    go_wp2
    go_returns
    exact ⟨rfl, Below.refl _ _⟩
end Go.Proofs.Ytofpnmjadflebaa
