import Derived.Test.YtolgclajlklmaaaGreatQy
namespace Go.Proofs.YtolgclajlklmaaaGreat
set_option linter.unusedSimpArgs false
set_option linter.unusedVariables false
open Go.RowKit
theorem Agg.dqNum_not {k : Int} {d : Agg.Dq} (h : Agg.dqOk k d = false ∨ d.items.length = 0) : Agg.aDqNum k d = (0, false) := by
  rcases h with h | h <;> simp [Agg.aDqNum, h]
theorem Agg.dqNum_of {k : Int} {d : Agg.Dq} (h : Agg.dqOk k d = true) (h0 : d.items.length ≠ 0) : Agg.aDqNum k d = (d.items[0]?.getD 0, true) := by
  have : 0 < d.items.length := by omega
  simp [Agg.aDqNum, h, this]
set_option maxHeartbeats 4000000 in
theorem dequeNumber_any (k : Int) (ia : Option Addr) (n ic : Nat) (pa : Option Addr) (m pc : Nat) (fi nx dr : Int) (I P : List Int) (w : World) (hI : Nums .i64 w ia n ic I) (hP : Nums .i64 w pa m pc P) :
    Calls Tryz.prog 36 #[.int .i64 k, .agg #[.slice ia n ic, .slice pa m pc, .int .i64 fi, .int .i64 nx, .int .i64 dr]] w fun e w' => e = .returned (.tuple #[.int .i64 (Agg.aDqNum k ⟨I, P, fi, nx, dr⟩).1, .bool (Agg.aDqNum k ⟨I, P, fi, nx, dr⟩).2]) ∧ Below w.heap.size w w' := by
  obtain ⟨R, hR⟩ : ∃ R, R = Agg.aDqNum k ⟨I, P, fi, nx, dr⟩ := ⟨_, rfl⟩
  obtain ⟨rn, rb⟩ := R
  rw [← hR]
  have hIl : I.length = n := hI.1
  have hnc := hI.2.1
  have hcm : ic ≤ 9223372036854775807 := by have := hI.2.2.1; unfold maxLen at this; omega
  obtain ⟨W, hW⟩ : ∃ W, W = w.alloc (.cells #[.slice ia n ic, .slice pa m pc, .int .i64 fi, .int .i64 nx, .int .i64 dr] 28) := ⟨_, rfl⟩
  have HX := Lib.hid (show Box5 W w.heap.size 28 (.slice ia n ic) (.slice pa m pc) (.int .i64 fi) (.int .i64 nx) (.int .i64 dr) from by rw [hW]; exact Box5.new _ _ _ _ _ _ _)
  have HB := Lib.hid (show Below w.heap.size w W from by rw [hW]; exact (Below.refl _ _).alloc (Nat.le_refl _) _)
  have HI := Lib.hid (hI.below HB.out)
  have HP := Lib.hid (hP.below HB.out)
  clear hI hP
  obtain ⟨q0, q1, q2, q3, q4⟩ := HX.out.cells
  have hV := fun w h h' => dequeValid_any k ia n ic pa m pc fi nx dr I P w h h'
  obtain ⟨b, hb⟩ : ∃ b, b = Agg.dqOk k ⟨I, P, fi, nx, dr⟩ := ⟨_, rfl⟩
  rw [← hb] at hV
  have HV := Lib.hid hV
  clear hV
  cases b
  · have e := hR.trans (Agg.dqNum_not (.inl hb.symm))
    simp only [Prod.mk.injEq] at e
    obtain ⟨rfl, rfl⟩ := e
    clear hb hR
    go_enter Tryz.func36, Tryz.ntmps36
    go_upto_region 1 with (fail)
    rw [← hW]
    clear hW
    go_wp2_with fail
    refine (HV.out _ HI.out HP.out).mono ?_
    rintro e w1 ⟨rfl, hb1⟩
    have HB1 := Lib.hid (HB.out.trans (hb1.mono HB.out.size))
    clear hb1
    go_wp2_with fail
    go_returns
    exact ⟨rfl, HB1.out⟩
  · by_cases h0 : n = 0
    · have e := hR.trans (Agg.dqNum_not (.inr (by show I.length = 0; omega)))
      simp only [Prod.mk.injEq] at e
      obtain ⟨rfl, rfl⟩ := e
      subst h0
      clear hb hR hIl
      go_enter Tryz.func36, Tryz.ntmps36
      go_upto_region 1 with (fail)
      rw [← hW]
      clear hW
      go_wp2_with fail
      refine (HV.out _ HI.out HP.out).mono ?_
      rintro e w1 ⟨rfl, hb1⟩
      have HX1 := Lib.hid (HX.out.call hb1)
      have HB1 := Lib.hid (HB.out.trans (hb1.mono HB.out.size))
      clear hb1 q0 q1 q2 q3 q4
      obtain ⟨q0, q1, q2, q3, q4⟩ := HX1.out.cells
      go_wp2_with fail
      go_returns
      exact ⟨rfl, HB1.out⟩
    · have e := hR.trans (Agg.dqNum_of hb.symm (by show I.length ≠ 0; omega))
      simp only [Prod.mk.injEq] at e
      obtain ⟨hrn, rfl⟩ := e
      have h0I : ¬ ((n : Int) = 0) := by omega
      have hpI : (0 : Int) < (n : Int) := by omega
      have hpN : 0 < n := by omega
      clear hb hR
      go_enter Tryz.func36, Tryz.ntmps36
      go_upto_region 1 with (fail)
      rw [← hW]
      clear hW
      go_wp2_with fail
      refine (HV.out _ HI.out HP.out).mono ?_
      rintro e w1 ⟨rfl, hb1⟩
      have HX1 := Lib.hid (HX.out.call hb1)
      have HB1 := Lib.hid (HB.out.trans (hb1.mono HB.out.size))
      have HI1 := Lib.hid (HI.out.below hb1)
      clear hb1 q0 q1 q2 q3 q4
      obtain ⟨q0, q1, q2, q3, q4⟩ := HX1.out.cells
      rcases HI1.out.2.2.2 with h | ⟨ib0, ioff, rfl, hib, hics⟩
      · omega
      · have hc := hics 0 hpN
        rw [← hrn, Nat.add_zero] at hc
        clear hrn
        go_wp2_with fail
        go_returns
        exact ⟨rfl, HB1.out⟩
end Go.Proofs.YtolgclajlklmaaaGreat
