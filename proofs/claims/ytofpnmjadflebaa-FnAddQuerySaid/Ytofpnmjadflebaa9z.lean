/-
  The law FnAddQuery, walked.
-/
import Derived.Test.Ytofpnmjadflebaa9x
namespace Go.Proofs.Ytofpnmjadflebaa
set_option linter.unusedSimpArgs false
set_option linter.unusedVariables false
open Go.RowKit
theorem Agg.qrys_at {l : List (Int × Int)} {q : Int × Int} (h : Agg.qrysOk l = true) (hq : q ∈ l) : ∃ ix, ix < l.length ∧ ∀ j, j < l.length → (qryAt l j = q ↔ j = ix) := by
  obtain ⟨ix, hix, rfl⟩ := List.getElem_of_mem hq
  have hnd := ((Agg.qrysOk_iff l).1 h).2.2
  have hp := List.pairwise_iff_getElem.1 hnd
  refine ⟨ix, hix, fun j hj => ⟨fun e => ?_, fun e => by subst e; simp [qryAt, hix]⟩⟩
  have e2 : l[j] = l[ix] := by simpa [qryAt, hj] using e
  rcases Nat.lt_trichotomy j ix with h1 | h1 | h1
  · exact absurd e2 (hp j ix hj hix h1)
  · exact h1
  · exact absurd e2.symm (hp ix j hix hj h1)
theorem Agg.addQ_at {l : List (Int × Int)} (q : Int × Int) {j : Nat} (hj : j < l.length) : qryAt (Agg.addQ l q) j = qryAt l j := by
  unfold Agg.addQ
  split
  · rfl
  · exact Agg.qryAt_append hj
theorem Agg.addQ_mem (l : List (Int × Int)) (q : Int × Int) : q ∈ Agg.addQ l q := by
  unfold Agg.addQ
  split
  · rename_i h
    simpa using h
  · exact List.mem_append_right _ (List.mem_singleton.2 rfl)
theorem Agg.addQ_len (l : List (Int × Int)) (q : Int × Int) : l.length ≤ (Agg.addQ l q).length := by
  unfold Agg.addQ
  split
  · exact Nat.le_refl _
  · simp
set_option maxRecDepth 8000 in
set_option maxHeartbeats 3000000 in
theorem law_FnAddQuery (a : Option Addr) (n cap : Nat) (zs : List Int) (w : World) (hrow : IsRow .u8 w a n cap zs) :
    Calls Try.prog 4 #[.slice a n cap] w fun e w' => e = .returned (.bool true) ∧ Below w.heap.size w w' := by
  have HB := Lib.hid (Bytes.of_row hrow)
  have hm : cap ≤ 9223372036854775807 := HB.out.2.1
  have hnc : n ≤ cap := HB.out.1
  clear hrow
  by_cases hn : n ≤ 1048576
  · go_enter Try.func4, Try.ntmps4
    go_wp2_with fail
    refine (drawAddQuery_any _ _ _ _ _ HB.out).mono ?_
    rintro e w1 ⟨v, m, L, x, y, rfl, ho, hm9, hb1⟩
    obtain ⟨la, lc, rfl, hq⟩ := ho.ops
    have hqn : m ≤ lc := hq.2.1
    have hqm : lc ≤ 9223372036854775807 := by have := hq.2.2.1; unfold maxLen at this; omega
    have hs1 := hb1.size
    obtain ⟨W, hW⟩ : ∃ W, W = w1.alloc (.cells #[.int .i64 x, .int .i64 y] 28) := ⟨_, rfl⟩
    have hbw : Below w1.heap.size w1 W := by rw [hW]; exact (Below.refl _ _).alloc (Nat.le_refl _) _
    have HX := Lib.hid (show Box2h W w1.heap.size 28 x y from by rw [hW]; exact Box2h.new _ _ _ _)
    have HQ := Lib.hid (fun X (hX : Below W.heap.size W X) => (hq.below hbw).below hX)
    have HW1 := Lib.hid (show Below w.heap.size w W from hb1.trans (hbw.mono hs1))
    obtain ⟨g, hg⟩ : ∃ g, g = w1.heap.size := ⟨_, rfl⟩
    go_upto_region 4 with (fail)
    rw [← hW, ← hg]
    rw [← hg] at HX
    clear hW hg hs1 hb1 hbw ho hq
    obtain ⟨b, hb⟩ : ∃ b, b = Agg.addOk L (x, y) := ⟨_, rfl⟩
    obtain ⟨RO, hRO⟩ : ∃ RO, RO = Agg.addOut L (x, y) := ⟨_, rfl⟩
    have H1 := Lib.hid (fun X (hX : Below W.heap.size W X) => addQuery_any la m lc L x y X (HQ.out X hX) (by omega))
    have H2 := Lib.hid (fun X (hX : Below W.heap.size W X) => s_addQuery_any la m lc L x y X (HQ.out X hX) (by omega))
    rw [← hb, ← hRO] at H1 H2
    have HBB := Lib.hid hb
    have HRO := Lib.hid hRO
    clear hb hRO
    obtain ⟨q0, q1⟩ := HX.out.cells
    go_wp2_with fail
    refine (H1.out _ (Below.refl _ _)).mono ?_
    rintro e w2 ⟨v2, m2, rfl, ho2, hb2⟩
    obtain ⟨na, nc, rfl, hq2⟩ := ho2.ops
    have hnn : m2 ≤ nc := hq2.2.1
    have hnm : nc ≤ 9223372036854775807 := by have := hq2.2.2.1; unfold maxLen at this; omega
    have hl2 : RO.length = m2 := hq2.1
    have HN2 := Lib.hid (fun X (hX : Below w2.heap.size w2 X) => hq2.below hX)
    have HT2 := Lib.hid hb2
    have HX2 := Lib.hid (HX.out.call hb2)
    clear ho2 hq2 hb2 q0 q1 HX
    obtain ⟨q0, q1⟩ := HX2.out.cells
    go_wp2_with fail
    refine (H2.out _ HT2.out).mono ?_
    rintro e w3 ⟨v3, m3, rfl, ho3, hb3⟩
    obtain ⟨wa, wc, rfl, hq3⟩ := ho3.ops
    have hl3 : RO.length = m3 := hq3.1
    obtain rfl : m3 = m2 := by omega
    have hwn : m3 ≤ wc := hq3.2.1
    have hwm : wc ≤ 9223372036854775807 := by have := hq3.2.2.1; unfold maxLen at this; omega
    have HN3 := Lib.hid (fun X (hX : Below w3.heap.size w3 X) => hq3.below hX)
    have HN2 := Lib.hid (fun X (hX : Below w3.heap.size w3 X) => HN2.out X (hb3.trans (hX.mono hb3.size)))
    have HQ3 := Lib.hid (fun X (hX : Below w3.heap.size w3 X) => HQ.out X (HT2.out.trans ((hb3.trans (hX.mono hb3.size)).mono HT2.out.size)))
    have HX3 := Lib.hid (HX2.out.call hb3)
    have HW3 := Lib.hid (HW1.out.trans ((HT2.out.trans (hb3.mono HT2.out.size)).mono HW1.out.size))
    have HLL := Lib.hid hl3
    clear ho3 hq3 hb3 q0 q1 HX2 HT2 HQ H1 H2 hl2 hl3 HW1
    cases b
    · go_wp2_with fail
      go_returns
      exact ⟨rfl, HW3.out⟩
    · have hro : RO = Agg.addQ L (x, y) := by rw [HRO.out, Agg.addOut, ← HBB.out]; rfl
      have hok : Agg.qrysOk RO = true := by rw [hro]; exact HBB.out.symm
      have hmem : (x, y) ∈ RO := by rw [hro]; exact Agg.addQ_mem _ _
      have hpre : ∀ j, j < L.length → qryAt RO j = qryAt L j := fun j hj => by rw [hro]; exact Agg.addQ_at _ hj
      obtain ⟨ix, hix, hat⟩ := Agg.qrys_at hok hmem
      have hagain := Agg.add_has hok (show RO.contains (x, y) = true by simpa using hmem)
      have HAT := Lib.hid hat
      have HPR := Lib.hid hpre
      have HAG := Lib.hid hagain
      have HOK := Lib.hid hok
      have HIX := Lib.hid (show ix < m3 by rw [← HLL.out]; exact hix)
      clear hro hok hmem hpre hat hagain hix HRO HBB
      go_wp2_with fail
      go_loopw [9, 10] (fun t i wr => ∃ (j : Nat) (s : Int), j ≤ m3 ∧ i = .int .i64 j ∧ t = .int .i64 s ∧ Hid (s = if ix < j then 1 else 0) ∧ Hid (Below w3.heap.size w3 wr)) (fun _ i _ => m3 - (intOf i).toNat)
      case atStart => exact ⟨0, 0, Nat.zero_le _, rfl, rfl, Lib.hid (by simp), Below.refl _ _⟩
      case round =>
        obtain ⟨j, s, hj, rfl, rfl, hs, hw⟩ := hrel
        have hk0 : (0 : Int) ≤ (j : Int) := Int.natCast_nonneg _
        have hs01 : 0 ≤ s ∧ s ≤ 1 := by rw [hs.out]; split <;> omega
        obtain ⟨hs0, hs1⟩ := hs01
        have HXR := Lib.hid (HX3.out.call hw.out)
        obtain ⟨q0, q1⟩ := HXR.out.cells
        by_cases hlt : j < m3
        · rcases (HN2.out _ hw.out).2.2.2 with h4 | ⟨bk, off, rfl, hbl, hcs⟩
          · omega
          rcases (HN3.out _ hw.out).2.2.2 with h4 | ⟨bk3, off3, rfl, hbl3, hcs3⟩
          · omega
          obtain ⟨n0, n1⟩ := hcs j hlt
          obtain ⟨o0, o1⟩ := hcs3 j hlt
          clear hcs hcs3
          have hat := HAT.out j (by rw [HLL.out]; exact hlt)
          have hpr : ∀ (hjm : j < m), qryAt L j = RO[j]?.getD (0, 0) := fun hjm => (HPR.out j (by rw [(HQ3.out _ (Below.refl _ _)).1]; exact hjm)).symm
          have hro : qryAt RO j = RO[j]?.getD (0, 0) := rfl
          rw [hro] at hat
          obtain ⟨⟨p, q⟩, hpq⟩ : ∃ o, o = RO[j]?.getD (0, 0) := ⟨_, rfl⟩
          rw [← hpq] at n0 n1 o0 o1 hat hpr
          have HPQ := Lib.hid hat
          have HPL := Lib.hid hpr
          simp only at n0 n1 o0 o1
          clear hpq hro hat hpr
          have hkn : (j : Int) < (m3 : Int) := by omega
          by_cases hjm : j < m
          · rcases (HQ3.out _ hw.out).2.2.2 with h4 | ⟨bk1, off1, rfl, hbl1, hcs1⟩
            · omega
            obtain ⟨r0, r1⟩ := hcs1 j hjm
            have hpl := HPL.out hjm
            rw [show L[j]?.getD (0, 0) = (p, q) from hpl] at r0 r1
            simp only at r0 r1
            clear hcs1 hpl
            have hjm' : (j : Int) < (m : Int) := by omega
            by_cases hxp : p = x
            · subst hxp
              by_cases hyq : q = y
              · subst hyq
                have hji : j = ix := HPQ.out.1 rfl
                have HST := Lib.hid (show s + 1 = if ix < j + 1 then 1 else 0 by rw [hs.out, if_neg (by omega), if_pos (by omega)]; rfl)
                clear hji
                go_wp2_with fail
                go_quiet (fail)
                all_goals (try go_wp2_with fail)
                go_quiet (fail)
                all_goals (try go_wp2_with fail)
                all_goals (
                  go_roundw
                  case rel => exact ⟨j + 1, _, by omega, by go_num, rfl, HST, by first | exact hw | exact Lib.hid (below_drewN hw.out _)⟩
                  case measure => simp [intOf]; omega)
              · have hji : j ≠ ix := fun e => hyq (by have := HPQ.out.2 e; simpa using this)
                have HST := Lib.hid (show s = if ix < j + 1 then 1 else 0 by rw [hs.out]; split <;> split <;> omega)
                clear hji
                go_wp2_with fail
                go_quiet (fail)
                all_goals (try go_wp2_with fail)
                go_quiet (fail)
                all_goals (try go_wp2_with fail)
                all_goals (
                  go_roundw
                  case rel => exact ⟨j + 1, _, by omega, by go_num, rfl, HST, by first | exact hw | exact Lib.hid (below_drewN hw.out _)⟩
                  case measure => simp [intOf]; omega)
            · have hji : j ≠ ix := fun e => hxp (by have := HPQ.out.2 e; simp at this; exact this.1)
              have HST := Lib.hid (show s = if ix < j + 1 then 1 else 0 by rw [hs.out]; split <;> split <;> omega)
              clear hji
              go_wp2_with fail
              go_quiet (fail)
              all_goals (try go_wp2_with fail)
              go_quiet (fail)
              all_goals (try go_wp2_with fail)
              all_goals (
                go_roundw
                case rel => exact ⟨j + 1, _, by omega, by go_num, rfl, HST, by first | exact hw | exact Lib.hid (below_drewN hw.out _)⟩
                case measure => simp [intOf]; omega)
          · have hjm' : ¬ ((j : Int) < (m : Int)) := by omega
            by_cases hxp : p = x
            · subst hxp
              by_cases hyq : q = y
              · subst hyq
                have hji : j = ix := HPQ.out.1 rfl
                have HST := Lib.hid (show s + 1 = if ix < j + 1 then 1 else 0 by rw [hs.out, if_neg (by omega), if_pos (by omega)]; rfl)
                clear hji
                go_wp2_with fail
                go_quiet (fail)
                all_goals (try go_wp2_with fail)
                go_quiet (fail)
                all_goals (try go_wp2_with fail)
                all_goals (
                  go_roundw
                  case rel => exact ⟨j + 1, _, by omega, by go_num, rfl, HST, by first | exact hw | exact Lib.hid (below_drewN hw.out _)⟩
                  case measure => simp [intOf]; omega)
              · have hji : j ≠ ix := fun e => hyq (by have := HPQ.out.2 e; simpa using this)
                have HST := Lib.hid (show s = if ix < j + 1 then 1 else 0 by rw [hs.out]; split <;> split <;> omega)
                clear hji
                go_wp2_with fail
                go_quiet (fail)
                all_goals (try go_wp2_with fail)
                go_quiet (fail)
                all_goals (try go_wp2_with fail)
                all_goals (
                  go_roundw
                  case rel => exact ⟨j + 1, _, by omega, by go_num, rfl, HST, by first | exact hw | exact Lib.hid (below_drewN hw.out _)⟩
                  case measure => simp [intOf]; omega)
            · have hji : j ≠ ix := fun e => hxp (by have := HPQ.out.2 e; simp at this; exact this.1)
              have HST := Lib.hid (show s = if ix < j + 1 then 1 else 0 by rw [hs.out]; split <;> split <;> omega)
              clear hji
              go_wp2_with fail
              go_quiet (fail)
              all_goals (try go_wp2_with fail)
              go_quiet (fail)
              all_goals (try go_wp2_with fail)
              all_goals (
                go_roundw
                case rel => exact ⟨j + 1, _, by omega, by go_num, rfl, HST, by first | exact hw | exact Lib.hid (below_drewN hw.out _)⟩
                case measure => simp [intOf]; omega)
        · have hjm : j = m3 := by omega
          have hse : s = 1 := by rw [hs.out, if_pos (by have := HIX.out; omega)]
          subst hse
          clear hs
          have hlt' : ¬ ((j : Int) < (m3 : Int)) := by omega
          have HAA := Lib.hid (fun X (hX : Below w3.heap.size w3 X) => addQuery_any na m3 nc RO x y X (HN2.out X hX) (by have := addOut_len RO (x, y); rw [HAG.out.2, HLL.out] at this; omega))
          rw [HAG.out.1, HAG.out.2] at HAA
          have HVV := Lib.hid (fun X (hX : Below w3.heap.size w3 X) => queriesValid_any na m3 nc RO X (HN2.out X hX))
          rw [HOK.out] at HVV
          go_wp2_with fail
          refine (HAA.out _ hw.out).mono ?_
          rintro e w5 ⟨v5, m5, rfl, ho5, hb5⟩
          obtain ⟨ga, gc, rfl, hq5⟩ := ho5.ops
          obtain rfl : m5 = m3 := by have := hq5.1; rw [HLL.out] at this; omega
          have HT5 := Lib.hid (hw.out.trans (hb5.mono hw.out.size))
          clear ho5 hq5 hb5 q0 q1
          go_wp2_with fail
          refine (HVV.out _ HT5.out).mono ?_
          rintro e w6 ⟨rfl, hb6⟩
          have HW6 := Lib.hid (HW3.out.trans ((HT5.out.trans (hb6.mono HT5.out.size)).mono HW3.out.size))
          clear hb6
          go_wp2_with fail
          go_returns
          exact ⟨rfl, HW6.out⟩
  · go_enter Try.func4, Try.ntmps4
    go_wp2
    go_returns
    exact ⟨rfl, Below.refl _ _⟩
end Go.Proofs.Ytofpnmjadflebaa
