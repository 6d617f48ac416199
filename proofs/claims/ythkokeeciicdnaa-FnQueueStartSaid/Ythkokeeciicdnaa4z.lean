/-
  The law FnQueueStart, walked.
-/
import Derived.Test.Ythkokeeciicdnaa3y
import Derived.Test.Ythkokeeciicdnaa3z
import Derived.Test.Ythkokeeciicdnaa4g
import Derived.Test.Ythkokeeciicdnaa4j
import Derived.Test.YthkokeeciicdnaaDq
namespace Go.Proofs.Ythkokeeciicdnaa
set_option linter.unusedSimpArgs false
set_option linter.unusedVariables false
open Go.RowKit
set_option maxRecDepth 8000 in
set_option maxHeartbeats 4000000 in
theorem waQueue_same (ia : Option Addr) (m ic : Nat) (fa : Option Addr) (fn fc : Nat) (ia' : Option Addr) (ic' : Nat) (fa' : Option Addr) (fc' : Nat) (pl pr pa pb co : Int) (F : List Agg.V) (I : List Int) (w : World)
    (hF : Vals w fa fn fc F) (hI : Nums .i64 w ia m ic I) (hF' : Vals w fa' fn fc' F) (hI' : Nums .i64 w ia' m ic' I) :
    Calls Try.prog 9 #[.agg #[.slice ia m ic, .slice fa fn fc, .int .i64 pl, .int .i64 pr, .int .i64 pa, .int .i64 pb, .int .i64 co], .agg #[.slice ia' m ic', .slice fa' fn fc', .int .i64 pl, .int .i64 pr, .int .i64 pa, .int .i64 pb, .int .i64 co]] w fun e w' => e = .returned (.bool true) ∧ Below w.heap.size w w' := by
  have HF := Lib.hid hF
  have HI := Lib.hid hI
  have HF' := Lib.hid hF'
  have HI' := Lib.hid hI'
  clear hF hI hF' hI'
  obtain ⟨W, hW⟩ : ∃ W, W = ((w.alloc (.cells #[.slice ia m ic, .slice fa fn fc, .int .i64 pl, .int .i64 pr, .int .i64 pa, .int .i64 pb, .int .i64 co] 27)).alloc (.cells #[.slice ia' m ic', .slice fa' fn fc', .int .i64 pl, .int .i64 pr, .int .i64 pa, .int .i64 pb, .int .i64 co] 27)) := ⟨_, rfl⟩
  have HA := Lib.hid (show Box7 W w.heap.size 27 (.slice ia m ic) (.slice fa fn fc) (.int .i64 pl) (.int .i64 pr) (.int .i64 pa) (.int .i64 pb) (.int .i64 co) from by rw [hW]; exact (Box7.new w _ _ _ _ _ _ _ _).alloc _)
  have HR := Lib.hid (show Box7 W (w.heap.size + 1) 27 (.slice ia' m ic') (.slice fa' fn fc') (.int .i64 pl) (.int .i64 pr) (.int .i64 pa) (.int .i64 pb) (.int .i64 co) from by rw [hW]; exact Box7.new1 (Y := w.alloc _) _ _ _ _ _ _ _ _ (by simp))
  have HB := Lib.hid (show Below w.heap.size w W from by rw [hW]; exact ((Below.refl _ _).alloc (Nat.le_refl _) _).alloc (by simp) _)
  go_enter Try.func9, Try.ntmps9
  go_wp2_with fail
  rw [← hW]
  clear hW
  refine (waInts_eq _ _ _ _ _ _ I _ (HI.out.below HB.out) (HI'.out.below HB.out)).mono ?_
  rintro e w1 ⟨rfl, hb1⟩
  have HA1 := Lib.hid (HA.out.call hb1)
  have HR1 := Lib.hid (HR.out.call hb1)
  have HB1 := Lib.hid (HB.out.trans (hb1.mono HB.out.size))
  obtain ⟨q0, q1, q2, q3, q4, q5, q6⟩ := HA1.out.cells
  obtain ⟨r0, r1, r2, r3, r4, r5, r6⟩ := HR1.out.cells
  clear hb1 HA HR HB
  go_wp2_with fail
  refine (waValues_same _ _ _ _ _ _ F _ (HF.out.below HB1.out) (HF'.out.below HB1.out)).mono ?_
  rintro e w2 ⟨rfl, hb2⟩
  have HA2 := Lib.hid (HA1.out.call hb2)
  have HR2 := Lib.hid (HR1.out.call hb2)
  have HB2 := Lib.hid (HB1.out.trans (hb2.mono HB1.out.size))
  clear hb2 HA1 HR1 HB1 q0 q1 q2 q3 q4 q5 q6 r0 r1 r2 r3 r4 r5 r6
  obtain ⟨q0, q1, q2, q3, q4, q5, q6⟩ := HA2.out.cells
  obtain ⟨r0, r1, r2, r3, r4, r5, r6⟩ := HR2.out.cells
  go_wp2_with fail
  go_returns
  exact ⟨by simp, HB2.out⟩
theorem drawQueueStart_any (a : Option Addr) (n cap : Nat) (l : List Int) (w : World) (h : Bytes w a n cap l) :
    Calls Try.prog 6 #[.slice a n cap] w (DrawnNum w) := by
  have HB := Lib.hid h; clear h
  go_enter Try.func6, Try.ntmps6
  go_wp2_with fail
  refine (drawKindValid_any _ _ _ l _ HB.out).mono ?_
  rintro e w1 ⟨k, rfl, hb1⟩
  have HB1 := Lib.hid hb1
  clear hb1
  go_wp2_with fail
  go_returns
  exact ⟨k, rfl, HB1.out⟩
set_option maxRecDepth 8000 in
set_option maxHeartbeats 4000000 in
theorem law_FnQueueStart (a : Option Addr) (n cap : Nat) (zs : List Int) (w : World) (hrow : IsRow .u8 w a n cap zs) :
    Calls Try.prog 3 #[.slice a n cap] w fun e w' => e = .returned (.bool true) ∧ Below w.heap.size w w' := by
  have HB := Lib.hid (Bytes.of_row hrow)
  have hm : cap ≤ 9223372036854775807 := HB.out.2.1
  have hnc : n ≤ cap := HB.out.1
  clear hrow
  by_cases hn : n ≤ 1048576
  · go_enter Try.func3, Try.ntmps3
    go_wp2_with fail
    refine (drawQueueStart_any _ _ _ _ _ HB.out).mono ?_
    rintro e w1 ⟨k, rfl, hb1⟩
    have HW1 := Lib.hid hb1
    clear hb1
    obtain ⟨b, hb⟩ : ∃ b, b = Agg.isKind k := ⟨_, rfl⟩
    have h1 := fun w => queueStart_any k w
    have h2 := fun w => s_queueStart_any k w
    rw [← hb] at h1 h2
    have H1 := Lib.hid h1
    have H2 := Lib.hid h2
    have HBK := Lib.hid hb
    clear h1 h2 hb
    go_wp2_with fail
    refine (H1.out _).mono ?_
    rintro e w2 ⟨rfl, hb2⟩
    have HW2 := Lib.hid (HW1.out.trans (hb2.mono HW1.out.size))
    clear hb2
    go_wp2_with fail
    refine (H2.out _).mono ?_
    rintro e w3 ⟨rfl, hb3⟩
    have HX3 := Lib.hid ((Box7.new w2 27 (.slice none 0 0) (.slice none 0 0) (.int .i64 0) (.int .i64 0) (.int .i64 0) (.int .i64 0) (.int .i64 0)).call hb3)
    have HW3 := Lib.hid ((HW2.out.alloc HW2.out.size _).trans (hb3.mono (HW2.out.alloc HW2.out.size _).size))
    have hl3 := HX3.out.lt
    obtain ⟨q0, q1, q2, q3, q4, q5, q6⟩ := HX3.out.cells
    obtain ⟨c, hc⟩ : ∃ c, c = w2.heap.size := ⟨_, rfl⟩
    clear hb3
    go_wp2_with fail
    refine (waQueue_same none 0 0 none 0 0 none 0 none 0 0 0 0 0 0 [] [] _ (vals_none _) (nums_none _) (vals_none _) (nums_none _)).mono ?_
    rintro e w4 ⟨rfl, hb4⟩
    have HX4 := Lib.hid ((HX3.out.alloc _).call hb4)
    have HY4 := Lib.hid ((Box7.new w3 27 (.slice none 0 0) (.slice none 0 0) (.int .i64 0) (.int .i64 0) (.int .i64 0) (.int .i64 0) (.int .i64 0)).call hb4)
    have HW4 := Lib.hid ((HW3.out.alloc HW3.out.size _).trans (hb4.mono (HW3.out.alloc HW3.out.size _).size))
    clear hb4 q0 q1 q2 q3 q4 q5 q6 HX3
    obtain ⟨q0, q1, q2, q3, q4, q5, q6⟩ := HX4.out.cells
    obtain ⟨r0, r1, r2, r3, r4, r5, r6⟩ := HY4.out.cells
    cases b
    · go_wp2_with fail
      refine (waQueue_same none 0 0 none 0 0 none 0 none 0 0 0 0 0 0 [] [] _ (vals_none _) (nums_none _) (vals_none _) (nums_none _)).mono ?_
      rintro e w5 ⟨rfl, hb5⟩
      have HW5 := Lib.hid (HW4.out.trans (hb5.mono HW4.out.size))
      clear hb5
      go_wp2_with fail
      go_returns
      exact ⟨by first | rfl | simp, HW5.out⟩
    · have hk : Agg.isKind k = true := HBK.out.symm
      obtain ⟨⟨x, y, z⟩, hu⟩ : ∃ V, Agg.unit k = V := ⟨_, rfl⟩
      have hsok : Agg.qOk k ⟨[], [], 0, 0, 0, 0, 0⟩ = true := Agg.qOk_of hk rfl rfl rfl ⟨by decide, by decide⟩ rfl
      have hsv := fun w => queueValue_any k none 0 0 none 0 0 0 0 0 0 0 [] [] w (vals_none w) (nums_none w) (by omega) (by omega)
      have hav : Agg.aValQ k ⟨[], [], 0, 0, 0, 0, 0⟩ = (⟨x, y, z⟩, true) := by
        have h1 : Agg.frontQ k ⟨[], [], 0, 0, 0, 0, 0⟩ = Agg.unit k := rfl
        have h2 : Agg.backQ k ⟨[], [], 0, 0, 0, 0, 0⟩ = Agg.unit k := rfl
        simp only [Agg.aValQ, hsok, Agg.give, if_true, Agg.valQ, h1, h2]
        rw [Agg.comb_unit_left hk (Agg.ok_unit hk), hu]
      rw [hav] at hsv
      have huo := fun w => unitOf_any k w
      rw [show Agg.aUnit k = (⟨x, y, z⟩, true) by simp [Agg.aUnit, Agg.give, hk, hu]] at huo
      have hva := fun w => queueValid_any k none 0 0 none 0 0 0 0 0 0 0 [] [] w (vals_none w) (nums_none w) (by omega) (by omega)
      rw [hsok] at hva
      have HSV := Lib.hid hsv
      have HUO := Lib.hid huo
      have HVA := Lib.hid hva
      clear hsv huo hva hav hsok hu hk HBK
      go_wp2_with fail
      refine (HSV.out _).mono ?_
      rintro e w5 ⟨rfl, hb5⟩
      have HX5 := Lib.hid (HX4.out.call hb5)
      have HW5 := Lib.hid (HW4.out.trans (hb5.mono HW4.out.size))
      have hl5 := HX5.out.lt
      clear hb5 q0 q1 q2 q3 q4 q5 q6 r0 r1 r2 r3 r4 r5 r6 HX4 HY4
      go_wp2_with fail
      refine (HUO.out _).mono ?_
      rintro e w6 ⟨rfl, hb6⟩
      have HX6 := Lib.hid ((HX5.out.alloc _).call hb6)
      have HV6 := Lib.hid ((Box.new w5 32 x y z).call hb6)
      have HW6 := Lib.hid ((HW5.out.alloc HW5.out.size _).trans (hb6.mono (HW5.out.alloc HW5.out.size _).size))
      have hl6 := HX6.out.lt
      have hv6 := HV6.out.lt
      obtain ⟨q0, q1, q2, q3, q4, q5, q6⟩ := HX6.out.cells
      obtain ⟨v0, v1, v2⟩ := HV6.out.cells
      clear hb6 HX5
      go_wp2_with fail
      refine (HVA.out _).mono ?_
      rintro e w7 ⟨rfl, hb7⟩
      have HX7 := Lib.hid ((HX6.out.alloc _).call hb7)
      have HV7 := Lib.hid ((HV6.out.alloc _).call hb7)
      have HU7 := Lib.hid ((Box.new w6 32 x y z).call hb7)
      have HW7 := Lib.hid ((HW6.out.alloc HW6.out.size _).trans (hb7.mono (HW6.out.alloc HW6.out.size _).size))
      clear q0 q1 q2 q3 q4 q5 q6 v0 v1 v2 hb7 HX6 HV6
      obtain ⟨q0, q1, q2, q3, q4, q5, q6⟩ := HX7.out.cells
      obtain ⟨v0, v1, v2⟩ := HV7.out.cells
      obtain ⟨u0, u1, u2⟩ := HU7.out.cells
      go_wp2_with fail
      go_returns
      exact ⟨by first | rfl | simp, HW7.out⟩
  · go_enter Try.func3, Try.ntmps3
    go_wp2
    go_returns
    exact ⟨rfl, Below.refl _ _⟩
end Go.Proofs.Ythkokeeciicdnaa
