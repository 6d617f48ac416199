/-
  The law FnStacksStart, walked.
-/
import Derived.Test.Ytebdiknhamplmaa3y
import Derived.Test.Ytebdiknhamplmaa3v
import Derived.Test.YtebdiknhamplmaaDk
namespace Go.Proofs.Ytebdiknhamplmaa
set_option linter.unusedSimpArgs false
set_option linter.unusedVariables false
open Go.RowKit
theorem vals_none (w : World) : Vals w none 0 0 [] := ⟨rfl, Nat.le_refl _, by simp [maxLen], .inl rfl⟩
theorem nums_none (w : World) : Nums .i64 w none 0 0 [] := ⟨rfl, Nat.le_refl _, by simp [maxLen], .inl rfl⟩
theorem Agg.start_ok {k : Int} (hk : Agg.isKind k = true) : Agg.sOk k ⟨[], [], Agg.unit k, 0, 0⟩ = true := by
  simp [Agg.sOk, hk, Agg.S.size, Agg.itemsOk, Agg.fold_nil]
theorem drawStacksStart_any (a : Option Addr) (n cap : Nat) (l : List Int) (w : World) (h : Bytes w a n cap l) :
    Calls Try.prog 4 #[.slice a n cap] w (DrawnNum w) := by
  have HB := Lib.hid h; clear h
  go_enter Try.func4, Try.ntmps4
  go_wp2_with fail
  refine (drawKindValid_any _ _ _ l _ HB.out).mono ?_
  rintro e w1 ⟨k, rfl, hb1⟩
  have HB1 := Lib.hid hb1
  clear hb1
  go_wp2_with fail
  go_returns
  exact ⟨k, rfl, HB1.out⟩
set_option maxRecDepth 8000 in
set_option maxHeartbeats 4000000 in
theorem law_FnStacksStart (a : Option Addr) (n cap : Nat) (zs : List Int) (w : World) (hrow : IsRow .u8 w a n cap zs) :
    Calls Try.prog 3 #[.slice a n cap] w fun e w' => e = .returned (.bool true) ∧ Below w.heap.size w w' := by
  have HB := Lib.hid (Bytes.of_row hrow)
  have hm : cap ≤ 9223372036854775807 := HB.out.2.1
  have hnc : n ≤ cap := HB.out.1
  clear hrow
  by_cases hn : n ≤ 1048576
  · go_enter Try.func3, Try.ntmps3
    go_wp2_with fail
    refine (drawStacksStart_any _ _ _ _ _ HB.out).mono ?_
    rintro e w1 ⟨k, rfl, hb1⟩
    have HW1 := Lib.hid hb1
    clear hb1
    obtain ⟨⟨x, y, z⟩, hV⟩ : ∃ V, V = Agg.first k := ⟨_, rfl⟩
    obtain ⟨b, hb⟩ : ∃ b, b = Agg.isKind k := ⟨_, rfl⟩
    have h1 := fun w => stacksStart_any k w
    have h2 := fun w => s_stacksStart_any k w
    rw [← hV, ← hb] at h1 h2
    have H1 := Lib.hid h1
    have H2 := Lib.hid h2
    have HV := Lib.hid hV
    have HBK := Lib.hid hb
    clear h1 h2 hV hb
    go_wp2_with fail
    refine (H1.out _).mono ?_
    rintro e w2 ⟨rfl, hb2⟩
    have HW2 := Lib.hid (HW1.out.trans (hb2.mono HW1.out.size))
    clear hb2
    go_wp2_with fail
    refine (H2.out _).mono ?_
    rintro e w3 ⟨rfl, hb3⟩
    have HX3 := Lib.hid ((Box7.new w2 29 (.slice none 0 0) (.slice none 0 0) (.int .i64 x) (.int .i64 y) (.int .i64 z) (.int .i64 0) (.int .i64 0)).call hb3)
    have HW3 := Lib.hid ((HW2.out.alloc HW2.out.size _).trans (hb3.mono (HW2.out.alloc HW2.out.size _).size))
    have hl3 := HX3.out.lt
    obtain ⟨q0, q1, q2, q3, q4, q5, q6⟩ := HX3.out.cells
    obtain ⟨c, hc⟩ : ∃ c, c = w2.heap.size := ⟨_, rfl⟩
    clear hb3
    go_wp2_with fail
    refine (waStacks_same none 0 0 none 0 0 none 0 none 0 x y z 0 0 [] [] _ (vals_none _) (nums_none _) (vals_none _) (nums_none _)).mono ?_
    rintro e w4 ⟨rfl, hb4⟩
    have HX4 := Lib.hid ((HX3.out.alloc _).call hb4)
    have HY4 := Lib.hid ((Box7.new w3 29 (.slice none 0 0) (.slice none 0 0) (.int .i64 x) (.int .i64 y) (.int .i64 z) (.int .i64 0) (.int .i64 0)).call hb4)
    have HW4 := Lib.hid ((HW3.out.alloc HW3.out.size _).trans (hb4.mono (HW3.out.alloc HW3.out.size _).size))
    clear hb4 q0 q1 q2 q3 q4 q5 q6 HX3
    obtain ⟨q0, q1, q2, q3, q4, q5, q6⟩ := HX4.out.cells
    obtain ⟨r0, r1, r2, r3, r4, r5, r6⟩ := HY4.out.cells
    cases b
    · go_wp2_with fail
      refine (waStacks_same none 0 0 none 0 0 none 0 none 0 x y z 0 0 [] [] _ (vals_none _) (nums_none _) (vals_none _) (nums_none _)).mono ?_
      rintro e w5 ⟨rfl, hb5⟩
      have HW5 := Lib.hid (HW4.out.trans (hb5.mono HW4.out.size))
      clear hb5
      go_wp2_with fail
      go_returns
      exact ⟨by first | rfl | simp, HW5.out⟩
    · have hk : Agg.isKind k = true := HBK.out.symm
      have hu : Agg.unit k = ⟨x, y, z⟩ := by rw [HV.out, Agg.first, if_pos hk]
      have hsok := Agg.start_ok hk
      rw [hu] at hsok
      have hsv := fun w => stacksValue_any k none 0 0 none 0 0 x y z 0 0 [] [] w (vals_none w) (nums_none w) (by omega) (by omega)
      have hav : Agg.aValS k ⟨[], [], ⟨x, y, z⟩, 0, 0⟩ = (⟨x, y, z⟩, true) := by
        have := Agg.aVal_unit hsok (by simp)
        rw [← this, hu, Agg.aComb]
        have hob : Agg.ok k ⟨x, y, z⟩ = true := by rw [← hu]; exact Agg.ok_unit hk
        have hcb := Agg.comb_unit_left hk hob
        rw [hu] at hcb
        simp [Agg.valid, hk, hob, hcb, Agg.give]
      rw [hav] at hsv
      have huo := fun w => unitOf_any k w
      rw [show Agg.aUnit k = (⟨x, y, z⟩, true) by simp [Agg.aUnit, Agg.give, hk, hu]] at huo
      have hva := fun w => stacksValid_any k none 0 0 none 0 0 x y z 0 0 [] [] w (vals_none w) (nums_none w) (by omega) (by omega)
      rw [hsok] at hva
      have HSV := Lib.hid hsv
      have HUO := Lib.hid huo
      have HVA := Lib.hid hva
      clear hsv huo hva hav hsok hu hk HV HBK
      go_wp2_with fail
      refine (HSV.out _).mono ?_
      rintro e w5 ⟨rfl, hb5⟩
      have HX5 := Lib.hid (HX4.out.call hb5)
      have HW5 := Lib.hid (HW4.out.trans (hb5.mono HW4.out.size))
      have hl5 := HX5.out.lt
      clear hb5 q0 q1 q2 q3 q4 q5 q6 r0 r1 r2 r3 r4 r5 r6 HX4 HY4
      go_wp2_with fail
      refine (HUO.out _).mono ?_
      rintro e w6 ⟨rfl, hb6⟩
      have HX6 := Lib.hid ((HX5.out.alloc _).call hb6)
      have HV6 := Lib.hid ((Box.new w5 27 x y z).call hb6)
      have HW6 := Lib.hid ((HW5.out.alloc HW5.out.size _).trans (hb6.mono (HW5.out.alloc HW5.out.size _).size))
      have hl6 := HX6.out.lt
      have hv6 := HV6.out.lt
      obtain ⟨q0, q1, q2, q3, q4, q5, q6⟩ := HX6.out.cells
      obtain ⟨v0, v1, v2⟩ := HV6.out.cells
      clear hb6 HX5
      go_wp2_with fail
      refine (HVA.out _).mono ?_
      rintro e w7 ⟨rfl, hb7⟩
      have HX7 := Lib.hid ((HX6.out.alloc _).call hb7)
      have HV7 := Lib.hid ((HV6.out.alloc _).call hb7)
      have HU7 := Lib.hid ((Box.new w6 27 x y z).call hb7)
      have HW7 := Lib.hid ((HW6.out.alloc HW6.out.size _).trans (hb7.mono (HW6.out.alloc HW6.out.size _).size))
      clear q0 q1 q2 q3 q4 q5 q6 v0 v1 v2 hb7 HX6 HV6
      obtain ⟨q0, q1, q2, q3, q4, q5, q6⟩ := HX7.out.cells
      obtain ⟨v0, v1, v2⟩ := HV7.out.cells
      obtain ⟨u0, u1, u2⟩ := HU7.out.cells
      go_wp2_with fail
      refine (stacksSize_any none 0 0 none 0 0 x y z 0 0 _ (by omega) (by omega)).mono ?_
      rintro e w8 ⟨rfl, hb8⟩
      have HW8 := Lib.hid (HW7.out.trans (hb8.mono HW7.out.size))
      clear hb8
      go_wp2_with fail
      go_returns
      exact ⟨by first | rfl | simp, HW8.out⟩
  · go_enter Try.func3, Try.ntmps3
    go_wp2
    go_returns
    exact ⟨rfl, Below.refl _ _⟩
end Go.Proofs.Ytebdiknhamplmaa
