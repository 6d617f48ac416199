/-
  The law that panes are parts.
-/
import Derived.Test.YtohllpdmopofoaaGreat5j
import Derived.Test.YtohllpdmopofoaaGreatAp
import Derived.Deep.RegionWith
namespace Go.Proofs.YtohllpdmopofoaaGreat
set_option linter.unusedSimpArgs false
set_option linter.unusedVariables false
open Go.RowKit
theorem Nums.front5 {k : IntKind} {w : World} {b n cap : Nat} {l : List Int} (h : Nums k w (some ⟨b, 0, none⟩) n cap l) {c : Nat} (hc : c ≤ n) : Nums k w (some ⟨b, 0, none⟩) c cap (l.take c) := by
  have := Nums.part h (i := 0) (s := c) (by omega)
  simpa using this
theorem Agg.panes_join {k : Int} {l : List Int} (hk : Agg.isKind k = true) (hi : Agg.itemsOk l = true) (c s : Nat) :
    Agg.aComb k (Agg.fold k (l.take c)) (Agg.fold k ((l.drop c).take s)) = (Agg.fold k (l.take (c + s)), true) := by
  have h := Agg.aFold_of hk (Agg.items_take hi (c + s))
  have := (Agg.aFold_parts h c).2.2
  rw [List.take_take, Nat.min_eq_left (by omega), List.drop_take, Nat.add_sub_cancel_left] at this
  exact this
set_option maxRecDepth 8000 in
set_option maxHeartbeats 1000000 in
theorem law_FnPanesOf (a : Option Addr) (n cap : Nat) (zs : List Int) (w : World) (hrow : IsRow .u8 w a n cap zs) :
    Calls Tryz.prog 4 #[.slice a n cap] w fun e w' => e = .returned (.bool true) ∧ Below w.heap.size w w' := by
  have HB := Lib.hid (Bytes.of_row hrow)
  have hm : cap ≤ 9223372036854775807 := HB.out.2.1
  have hnc : n ≤ cap := HB.out.1
  clear hrow
  by_cases hn : n ≤ 1048576
  · go_enter Tryz.func4, Tryz.ntmps4
    go_wp2_with fail
    refine (drawPanesOf_any _ _ _ _ _ HB.out).mono ?_
    rintro e w1 ⟨k, s, b, m, mc, l, rfl, hN, hm1000, hb1⟩
    have hs1 := hb1.size
    have hml : m ≤ mc := hN.2.1
    have hmc : mc ≤ 9223372036854775807 := by have := hN.2.2.1; unfold maxLen at this; omega
    have hll : l.length = m := hN.1
    have HN := Lib.hid hN
    have HW1 := Lib.hid hb1
    clear hN hb1 HB
    have h1 := panesOf_any k (some ⟨b, 0, none⟩) m mc l s w1 HN.out
    have h2 := fun w h => s_panesOf_any k (some ⟨b, 0, none⟩) m mc l s w h
    obtain ⟨S, hS⟩ : ∃ S, S = Agg.panesOut k l s := ⟨_, rfl⟩
    obtain ⟨o, ho⟩ : ∃ o, o = Agg.panesOk k l s := ⟨_, rfl⟩
    rw [← hS, ← ho] at h1 h2
    have H1 := Lib.hid h1
    have H2 := Lib.hid h2
    have HS := Lib.hid hS
    have HO := Lib.hid ho
    clear h1 h2 hS ho
    go_wp2_with fail
    refine H1.out.mono ?_
    rintro e w2 ⟨v2, n2, rfl, r2, hb2⟩
    have hs2 := hb2.size
    have R2 := Lib.hid r2
    have HN2 := Lib.hid (HN.out.below hb2)
    have HW2 := Lib.hid (HW1.out.trans (hb2.mono hs1))
    clear r2 hb2 H1 HN HW1
    go_wp2_with fail
    refine (H2.out _ HN2.out).mono ?_
    rintro e w3 ⟨v3, n3, rfl, r3, hb3⟩
    have hs3 := hb3.size
    have hl2 := R2.out.len
    obtain ⟨a2, c2, rfl, hp2⟩ := (R2.out.below hb3).vals
    obtain ⟨a3, c3, rfl, hp3⟩ := r3.vals
    have P2 := Lib.hid hp2
    have P3 := Lib.hid hp3
    have HN3 := Lib.hid (HN2.out.below hb3)
    have HW3 := Lib.hid (HW2.out.trans (hb3.mono HW2.out.size))
    have hc2 : c2 ≤ 9223372036854775807 := by have := hp2.2.2.1; unfold maxLen at this; omega
    have hnc2 : n2 ≤ c2 := hp2.2.1
    clear r3 hb3 H2 HN2 HW2 R2 hp2 hp3
    go_wp2_with fail
    refine (waValues_same5 _ _ _ _ _ _ S _ P2.out P3.out).mono ?_
    rintro e w4 ⟨rfl, hb4⟩
    have hs4 := hb4.size
    have Q2 := Lib.hid (P2.out.below hb4)
    have Q3 := Lib.hid (P3.out.below hb4)
    have HN4 := Lib.hid (HN3.out.below hb4)
    have HW4 := Lib.hid (HW3.out.trans (hb4.mono HW3.out.size))
    clear hb4 P2 P3 HN3 HW3
    cases o
    · go_wp2_with fail
      refine (waValues_same5 _ _ _ _ _ _ S _ Q2.out Q3.out).mono ?_
      rintro e w5 ⟨rfl, hb5⟩
      have HW5 := Lib.hid (HW4.out.trans (hb5.mono HW4.out.size))
      clear hb5
      go_wp2_with fail
      go_returns
      exact ⟨rfl, HW5.out⟩
    · have hok := HO.out.symm
      simp only [Agg.panesOk, Bool.and_eq_true, decide_eq_true_eq] at hok
      obtain ⟨⟨hk, hi⟩, hsz1, hsz2⟩ := hok
      obtain ⟨sn, rfl⟩ := Int.eq_ofNat_of_zero_le (show 0 ≤ s by omega)
      have hm60 : m ≤ 60 := by have := Agg.items_len hi; omega
      have hSS : S = Agg.folds k (fun j => (l.drop (j * sn)).take sn) (Agg.rowsN m sn sn) := by rw [HS.out, Agg.panesOut, ← HO.out, if_pos rfl, Int.toNat_natCast, Agg.panes, hll]
      have hSl : n2 = m / sn := by rw [← hl2, hSS, Agg.folds_len, Agg.rowsN_div (by omega)]
      have hR := fun j => Agg.rowsN_lt (n := m) (s := sn) (h := sn) (j := j) (by omega)
      rw [Agg.rowsN_div (by omega), ← hSl] at hSS
      simp only [Agg.rowsN_div (show 1 ≤ sn by omega), ← hSl] at hR
      have HSL := Lib.hid hSl
      have HSS := Lib.hid hSS
      have HI := Lib.hid hi
      have HR := Lib.hid hR
      clear HS HO hSS hi hl2 hSl Q3 hR
      have hU := fun w => unitOf_any k w
      rw [show Agg.aUnit k = (Agg.fold k (l.take 0), true) by simp [Agg.aUnit, Agg.give, hk, Agg.fold_nil]] at hU
      obtain ⟨⟨ux, uy, uz⟩, hUV⟩ : ∃ V, V = Agg.fold k (l.take 0) := ⟨_, rfl⟩
      rw [← hUV] at hU
      have HU := Lib.hid hU
      have HUV := Lib.hid hUV
      clear hU hUV
      go_wp2_with fail
      refine (HU.out _).mono ?_
      rintro e w5 ⟨rfl, hb5⟩
      have hs5 := hb5.size
      have HW5 := Lib.hid hb5
      clear hb5 HU
      have HVB := Lib.hid (Box.new w5 40 ux uy uz)
      have HWB := Lib.hid (HW5.out.alloc hs5 (.cells #[.int .i64 ux, .int .i64 uy, .int .i64 uz] 40))
      go_wp2_with fail
      go_loopw [12] (fun i wr => ∃ (j : Nat) (V : Agg.V), j ≤ n2 ∧ i = .int .i64 j ∧ Hid (V = Agg.fold k (l.take (j * sn))) ∧ Hid (Box wr w5.heap.size 40 V.x V.y V.z) ∧ Hid (Below w4.heap.size w4 wr)) (fun i _ => n2 - (intOf i).toNat)
      case atStart => exact ⟨0, ⟨ux, uy, uz⟩, Nat.zero_le _, rfl, Lib.hid (by rw [HUV.out]; simp), HVB, HWB⟩
      case round =>
        obtain ⟨j, ⟨ax, ay, az⟩, hj, rfl, hval, hvb, hw⟩ := hrel
        clear HVB HWB
        have hwr := hw.out.size
        by_cases hlt : j < n2
        · have hat := Agg.folds_at k (fun j => (l.drop (j * sn)).take sn) n2 j hlt
          rw [← HSS.out] at hat
          have hjo := Agg.panes_join hk HI.out (j * sn) sn
          rw [← hval.out, show j * sn + sn = (j + 1) * sn by rw [Nat.add_mul, Nat.one_mul]] at hjo
          obtain ⟨⟨x, y, z⟩, hV⟩ : ∃ V, V = Agg.fold k ((l.drop (j * sn)).take sn) := ⟨_, rfl⟩
          obtain ⟨⟨rx, ry, rz⟩, hR2⟩ : ∃ V, V = Agg.fold k (l.take ((j + 1) * sn)) := ⟨_, rfl⟩
          rw [← hV] at hat hjo
          rw [← hR2] at hjo
          have hC := fun w => combineValues_any k ax ay az x y z w
          rw [hjo] at hC
          have HC := Lib.hid hC
          have HAT := Lib.hid hat
          have HR2 := Lib.hid hR2
          clear hat hjo hV hC hR2
          have hj0 : (0 : Int) ≤ (j : Int) := by omega
          have hjn : (j : Int) < (n2 : Int) := by omega
          have hQ := Q2.out.below hw.out
          rcases hQ.2.2.2 with h0 | ⟨b', off, rfl, hbw, hcs⟩
          · omega
          · obtain ⟨p0, p1, p2⟩ := hcs j hlt
            rw [HAT.out] at p0 p1 p2
            obtain ⟨v0, v1, v2⟩ := hvb.out.cells
            have hvl := hvb.out.lt
            clear hcs hQ
            go_wp2_with fail
            go_region_with (go_at_call 18; refine (HC.out _).mono ?_; rintro e w6 ⟨rfl, hb6⟩; have HV6 := Lib.hid (hvb.out.callD hb6); have HW6 := Lib.hid (hw.out.drew.trans (hb6.mono hwr)); obtain ⟨o0, o1, o2⟩ := HV6.out.cells; have f0 := HV6.out.free 0; have f1 := HV6.out.free 1; have f2 := HV6.out.free 2; clear hb6)
            all_goals
              go_wp2_with fail
              go_roundw
              case rel => exact ⟨j + 1, ⟨rx, ry, rz⟩, by omega, by go_num, HR2, Lib.hid (HV6.out.set rx ry rz), Lib.hid (((HW6.out.setCell hs5 _).setCell hs5 _).setCell hs5 _)⟩
              case measure => simp [intOf]; omega
        · obtain rfl : j = n2 := by omega
          obtain ⟨c, hc⟩ : ∃ c, c = j * sn := ⟨_, rfl⟩
          have hdm := Nat.div_add_mod m sn
          have hml2 := Nat.mod_lt m (show 0 < sn by omega)
          have hcm : c ≤ m ∧ m < c + sn := by
            rw [hc, HSL.out, Nat.mul_comm]; omega
          obtain ⟨hcm1, hcm2⟩ := hcm
          have hP := Nums.front5 (HN4.out.below hw.out) hcm1
          have hF := fun w h => foldItems_any k (some ⟨b, 0, none⟩) c mc (l.take c) w h
          rw [Agg.aFold_of hk (Agg.items_take HI.out c)] at hF
          have hval2 := hval.out
          rw [← hc] at hval2
          rw [← hval2] at hF
          have HP := Lib.hid hP
          have HF := Lib.hid hF
          have hm1 : IntKind.i64.wrap ((j : Int) * (sn : Int)) = (c : Int) := by rw [IntWalk.i64_in _ (by rw [show (j : Int) * (sn : Int) = ((c : Nat) : Int) by rw [hc]; simp]; omega), hc]; simp
          have hj2 : (c : Int) ≤ (m : Int) := by omega
          have hj3 : (m : Int) - (c : Int) < (sn : Int) := by omega
          have hj8 : (c : Int) ≤ (mc : Int) := by omega
          obtain ⟨v0, v1, v2⟩ := hvb.out.cells
          have hvl := hvb.out.lt
          clear hP hF hval hval2 hc hdm hml2
          go_wp2_with fail
          refine (HF.out _ HP.out).mono ?_
          rintro e w6 ⟨rfl, hb6⟩
          have HV6 := Lib.hid (hvb.out.call hb6)
          have HW6 := Lib.hid (hw.out.trans (hb6.mono hwr))
          have hvl6 := HV6.out.lt
          have HBB := Lib.hid (HW4.out.trans ((HW6.out.alloc HW6.out.size (.cells #[.int .i64 ax, .int .i64 ay, .int .i64 az] 40)).mono HW4.out.size))
          obtain ⟨o0, o1, o2⟩ := HV6.out.cells
          clear v0 v1 v2 hb6
          go_wp2_with fail
          go_returns
          exact ⟨by first | rfl | exact ret_bool (by simp <;> omega), HBB.out⟩
  · go_enter Tryz.func4, Tryz.ntmps4
    go_wp2
    go_returns
    exact ⟨rfl, Below.refl _ _⟩
end Go.Proofs.YtohllpdmopofoaaGreat
