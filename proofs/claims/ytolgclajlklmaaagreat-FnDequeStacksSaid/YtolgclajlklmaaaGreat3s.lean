/-
  Two stacks: their size, whether they are valid, in the program and in the model.
-/
import Derived.Test.YtolgclajlklmaaaGreatRw
import Derived.Test.YtolgclajlklmaaaGreatM
import Derived.Test.YtolgclajlklmaaaGreatN
import Derived.Test.YtolgclajlklmaaaGreatMa
import Derived.Test.YtolgclajlklmaaaGreatL
namespace Go.Proofs.YtolgclajlklmaaaGreat
set_option linter.unusedSimpArgs false
set_option linter.unusedVariables false
open Go.RowKit
theorem stacksSize_any (fa : Option Addr) (fn fc : Nat) (ia : Option Addr) (m ic : Nat) (bx by' bz fl co : Int) (w : World) (h1 : fn ≤ 4611686018427387) (h2 : m ≤ 4611686018427387) :
    Calls Tryz.prog 81 #[.agg #[.slice fa fn fc, .slice ia m ic, .int .i64 bx, .int .i64 by', .int .i64 bz, .int .i64 fl, .int .i64 co]] w fun e w' => e = .returned (.int .i64 ((fn : Int) + (m : Int))) ∧ Below w.heap.size w w' := by
  go_enter Tryz.func81, Tryz.ntmps81
  go_wp2
  go_returns
  exact ⟨rfl, (by first | (go_grown; done) | (refine below_drewN ?_ _; go_grown; done) | (refine (below_drewN _ ?_); go_grown; done))⟩
theorem Agg.sOk_size {k : Int} {s : Agg.S} (h : ¬ s.size ≤ 60) : Agg.sOk k s = false := by simp [Agg.sOk, h]
theorem Agg.sOk_flips {k : Int} {s : Agg.S} (h : (decide (0 ≤ s.flips) && decide (s.flips ≤ 1000000)) = false) : Agg.sOk k s = false := by
  have : decide (0 ≤ s.flips ∧ s.flips ≤ 1000000) = false := by rw [Bool.decide_and]; exact h
  simp [Agg.sOk, this]
theorem Agg.sOk_cost {k : Int} {s : Agg.S} (h : (decide (0 ≤ s.cost) && decide (s.cost ≤ 1000000)) = false) : Agg.sOk k s = false := by
  have : decide (0 ≤ s.cost ∧ s.cost ≤ 1000000) = false := by rw [Bool.decide_and]; exact h
  simp [Agg.sOk, this]
theorem Agg.sOk_front {k : Int} {s : Agg.S} {i : Nat} (hi : i < s.front.length) (h : Agg.valid k (s.front[i]?.getD Agg.zero) = false) : Agg.sOk k s = false := by
  rw [Bool.eq_false_iff]
  intro hs
  simp only [Agg.sOk, Bool.and_eq_true, decide_eq_true_eq, List.all_eq_true] at hs
  have h1 := hs.1.1.2 (s.front[i]?.getD Agg.zero) (by simp [hi])
  have h2 := hs.1.1.1.1.1.1
  rw [Agg.valid, h2, h1] at h
  simp at h
theorem Agg.sOk_rest {k : Int} {s : Agg.S} (hs : s.size ≤ 60) (h1 : (decide (0 ≤ s.flips) && decide (s.flips ≤ 1000000)) = true) (h2 : (decide (0 ≤ s.cost) && decide (s.cost ≤ 1000000)) = true)
    (hf : ∀ i, i < s.front.length → Agg.valid k (s.front[i]?.getD Agg.zero) = true) : Agg.sOk k s = ((Agg.isKind k && Agg.itemsOk s.items) && decide (s.back = Agg.fold k s.items)) := by
  simp only [Bool.and_eq_true, decide_eq_true_eq] at h1 h2
  have hall : Agg.isKind k = true → s.front.all (Agg.ok k) = true := by
    intro hk
    rw [List.all_eq_true]
    intro v hv
    obtain ⟨i, hi, rfl⟩ := List.getElem_of_mem hv
    have := hf i hi
    simp only [hi, Agg.valid, hk, Bool.true_and, List.getElem?_eq_getElem, Option.getD_some] at this
    exact this
  unfold Agg.sOk
  cases hk : Agg.isKind k
  · simp
  · simp [hall hk, hs, h1, h2]
set_option maxRecDepth 8000 in
set_option maxHeartbeats 2000000 in
theorem stacksValid_any (k : Int) (fa : Option Addr) (fn fc : Nat) (ia : Option Addr) (m ic : Nat) (bx by' bz fl co : Int) (F : List Agg.V) (I : List Int) (w : World) (hF : Vals w fa fn fc F) (hI : Nums .i64 w ia m ic I) (h1 : fn ≤ 4611686018427387) (h2 : m ≤ 4611686018427387) :
    Calls Tryz.prog 80 #[.int .i64 k, .agg #[.slice fa fn fc, .slice ia m ic, .int .i64 bx, .int .i64 by', .int .i64 bz, .int .i64 fl, .int .i64 co]] w fun e w' => e = .returned (.bool (Agg.sOk k ⟨F, I, ⟨bx, by', bz⟩, fl, co⟩)) ∧ Below w.heap.size w w' := by
  have hFl : F.length = fn := hF.1
  have hIl : I.length = m := hI.1
  have hfc := hF.2.1
  have hfm := hF.2.2.1
  unfold maxLen at hfm
  obtain ⟨b, hb⟩ : ∃ b, b = Agg.sOk k ⟨F, I, ⟨bx, by', bz⟩, fl, co⟩ := ⟨_, rfl⟩
  rw [← hb]
  have HBB := Lib.hid hb
  clear hb
  have HF := Lib.hid hF
  have HI := Lib.hid hI
  have HFL := Lib.hid hFl
  have HIL := Lib.hid hIl
  clear hF hI hFl hIl
  have HS := Lib.hid (fun w => stacksSize_any fa fn fc ia m ic bx by' bz fl co w h1 h2)
  by_cases hsz : 60 < fn + m
  · have hbf := Agg.sOk_size (k := k) (s := ⟨F, I, ⟨bx, by', bz⟩, fl, co⟩) (by have := HFL.out; have := HIL.out; simp [Agg.S.size]; omega)
    rw [← HBB.out] at hbf
    subst hbf
    have hsz' : (60 : Int) < (fn : Int) + (m : Int) := by omega
    go_enter Tryz.func80, Tryz.ntmps80
    go_wp2_with fail
    refine (HS.out _).mono ?_
    rintro e w1 ⟨rfl, hb1⟩
    have HW1 := Lib.hid (((Below.refl w.heap.size w).alloc (Nat.le_refl _) _).trans (hb1.mono (by simp)))
    clear hb1
    go_wp2_with fail
    go_returns
    exact ⟨rfl, HW1.out⟩
  · have hsz' : ¬ ((60 : Int) < (fn : Int) + (m : Int)) := by omega
    obtain ⟨c1, hc1⟩ : ∃ c : Bool, c = (decide (0 ≤ fl) && decide (fl ≤ 1000000)) := ⟨_, rfl⟩
    obtain ⟨c2, hc2⟩ : ∃ c : Bool, c = (decide (0 ≤ co) && decide (co ≤ 1000000)) := ⟨_, rfl⟩
    have hW1 := fun w => within_any fl 0 1000000 w
    have hW2 := fun w => within_any co 0 1000000 w
    rw [← hc1] at hW1
    rw [← hc2] at hW2
    have HC1 := Lib.hid hc1
    have HC2 := Lib.hid hc2
    have HN1 := Lib.hid hW1
    have HN2 := Lib.hid hW2
    clear hc1 hc2 hW1 hW2
    cases c1
    · have hbf := Agg.sOk_flips (k := k) (s := ⟨F, I, ⟨bx, by', bz⟩, fl, co⟩) HC1.out.symm
      rw [← HBB.out] at hbf
      subst hbf
      go_enter Tryz.func80, Tryz.ntmps80
      go_wp2_with fail
      refine (HS.out _).mono ?_
      rintro e w1 ⟨rfl, hb1⟩
      obtain ⟨hc1, hf1⟩ := bcell hb1
      have HW1 := Lib.hid (((Below.refl w.heap.size w).alloc (Nat.le_refl _) _).trans (hb1.mono (by simp)))
      clear hb1
      go_wp2_with fail
      refine (HN1.out _).mono ?_
      rintro e w2 ⟨rfl, rfl⟩
      go_wp2_with fail
      go_returns
      exact ⟨rfl, HW1.out⟩
    · cases c2
      · have hbf := Agg.sOk_cost (k := k) (s := ⟨F, I, ⟨bx, by', bz⟩, fl, co⟩) HC2.out.symm
        rw [← HBB.out] at hbf
        subst hbf
        go_enter Tryz.func80, Tryz.ntmps80
        go_wp2_with fail
        refine (HS.out _).mono ?_
        rintro e w1 ⟨rfl, hb1⟩
        obtain ⟨hc1, hf1⟩ := bcell hb1
        have HW1 := Lib.hid (((Below.refl w.heap.size w).alloc (Nat.le_refl _) _).trans (hb1.mono (by simp)))
        clear hb1
        go_wp2_with fail
        refine (HN1.out _).mono ?_
        rintro e w2 ⟨rfl, rfl⟩
        go_wp2_with fail
        refine (HN2.out _).mono ?_
        rintro e w2 ⟨rfl, rfl⟩
        go_wp2_with fail
        go_returns
        exact ⟨rfl, HW1.out⟩
      · go_enter Tryz.func80, Tryz.ntmps80
        go_wp2_with fail
        refine (HS.out _).mono ?_
        rintro e w1 ⟨rfl, hb1⟩
        obtain ⟨hc1, hf1⟩ := bcell hb1
        have HW1 := Lib.hid (((Below.refl w.heap.size w).alloc (Nat.le_refl _) _).trans (hb1.mono (by simp)))
        have HX1 := Lib.hid hb1
        clear hb1
        go_wp2_with fail
        refine (HN1.out _).mono ?_
        rintro e w2 ⟨rfl, rfl⟩
        go_wp2_with fail
        refine (HN2.out _).mono ?_
        rintro e w2 ⟨rfl, rfl⟩
        go_wp2_with fail
        clear hc1 hf1
        go_loopw [27] (fun i wr => ∃ j : Nat, j ≤ fn ∧ i = .int .i64 j ∧ Hid (∀ i, i < j → Agg.valid k (F[i]?.getD Agg.zero) = true) ∧ Hid (Below w.heap.size w wr) ∧ Hid (Below (w.heap.size + 1) (w.alloc (.cells #[.slice fa fn fc, .slice ia m ic, .int .i64 bx, .int .i64 by', .int .i64 bz, .int .i64 fl, .int .i64 co] 42)) wr)) (fun i _ => fn - (intOf i).toNat)
        case atStart => exact ⟨0, Nat.zero_le _, rfl, Lib.hid (fun i hi => absurd hi (Nat.not_lt_zero _)), HW1, Lib.hid (HX1.out.mono (by simp))⟩
        case round =>
          obtain ⟨j, hj, rfl, HV, HW, HX⟩ := hrel
          clear HW1 HX1
          have hwr := HW.out.size
          by_cases hlt : j < fn
          · rcases HF.out.2.2.2 with h4 | ⟨fb, foff, rfl, hfb, hfcs⟩
            · omega
            · have hck := (HW.out.cell (p := ⟨fb, foff + j * 3, none⟩) hfb).trans (hfcs j hlt).1
              have hcl := (HW.out.cell (p := ⟨fb, foff + j * 3 + 1, none⟩) hfb).trans (hfcs j hlt).2.1
              have hcn := (HW.out.cell (p := ⟨fb, foff + j * 3 + 2, none⟩) hfb).trans (hfcs j hlt).2.2
              clear hfcs
              obtain ⟨⟨x, y, z⟩, hx⟩ : ∃ x, x = F[j]?.getD Agg.zero := ⟨_, rfl⟩
              rw [← hx] at hck hcl hcn
              have HXX := Lib.hid hx
              clear hx
              have hk0 : (0 : Int) ≤ (j : Int) := Int.natCast_nonneg _
              have hkn : (j : Int) < (fn : Int) := by omega
              obtain ⟨vb, hvb⟩ : ∃ vb, vb = Agg.valid k ⟨x, y, z⟩ := ⟨_, rfl⟩
              have hVV := fun w => valueValid_any k x y z w
              rw [← hvb] at hVV
              have HVV := Lib.hid hVV
              have HVB := Lib.hid hvb
              clear hVV hvb
              cases vb
              · have hbf := Agg.sOk_front (k := k) (s := ⟨F, I, ⟨bx, by', bz⟩, fl, co⟩) (i := j) (by have := HFL.out; simp; omega) (by rw [← HXX.out]; exact HVB.out.symm)
                rw [← HBB.out] at hbf
                subst hbf
                go_wp2_with fail
                refine (HVV.out _).mono ?_
                rintro e w2 ⟨rfl, hb2⟩
                have HW2 := Lib.hid ((HW.out.alloc hwr _).trans (hb2.mono (by simp; omega)))
                clear hb2
                go_wp2_with fail
                go_returns
                exact ⟨rfl, HW2.out⟩
              · go_wp2_with fail
                refine (HVV.out _).mono ?_
                rintro e w2 ⟨rfl, hb2⟩
                have hwx := HX.out.size
                have HW2 := Lib.hid ((HW.out.alloc hwr _).trans (hb2.mono (by simp; omega)))
                have HX2 := Lib.hid ((HX.out.alloc (by simpa using hwx) _).trans (hb2.mono (by simp at hwx; simp; omega)))
                clear hb2
                go_wp2_with fail
                go_roundw
                case rel => exact ⟨j + 1, by omega, by go_num, Lib.hid (fun i hi => by rcases Nat.lt_succ_iff_lt_or_eq.1 hi with h | rfl; exact HV.out i h; rw [← HXX.out]; exact HVB.out.symm), HW2, HX2⟩
                case measure => simp [intOf]; omega
          · obtain rfl : j = fn := by omega
            have hrest := Agg.sOk_rest (k := k) (s := ⟨F, I, ⟨bx, by', bz⟩, fl, co⟩) (by have := HFL.out; have := HIL.out; simp [Agg.S.size]; omega) HC1.out.symm HC2.out.symm (by have := HFL.out; simpa [this] using HV.out)
            rw [← HBB.out] at hrest
            simp only at hrest
            obtain ⟨hcx, hfx⟩ : wr.cell? ⟨w.heap.size, 1, none⟩ = some (.slice ia m ic) ∧ (wr.cell? ⟨w.heap.size, 2, none⟩ = some (.int .i64 bx) ∧ wr.cell? ⟨w.heap.size, 3, none⟩ = some (.int .i64 by') ∧ wr.cell? ⟨w.heap.size, 4, none⟩ = some (.int .i64 bz)) :=
              ⟨(HX.out.cell (p := ⟨w.heap.size, 1, none⟩) (by simp)).trans (by simp [World.cell?_alloc_new]), (HX.out.cell (p := ⟨w.heap.size, 2, none⟩) (by simp)).trans (by simp [World.cell?_alloc_new]), (HX.out.cell (p := ⟨w.heap.size, 3, none⟩) (by simp)).trans (by simp [World.cell?_alloc_new]), (HX.out.cell (p := ⟨w.heap.size, 4, none⟩) (by simp)).trans (by simp [World.cell?_alloc_new])⟩
            obtain ⟨hx2, hx3, hx4⟩ := hfx
            have hh := fun w h => foldItems_any k ia m ic I w h
            cases hc3 : (Agg.isKind k && Agg.itemsOk I)
            · rw [hc3] at hrest
              have e3 : Agg.aFold k I = (Agg.zero, false) := by simp [Agg.aFold, Agg.give, hc3]
              rw [e3] at hh
              have hbf : b = false := by rw [hrest]; rfl
              subst hbf
              have HH := Lib.hid hh
              clear hh hrest hc3 e3
              go_wp2_with fail
              refine (HH.out _ (HI.out.below HW.out)).mono ?_
              rintro e w2 ⟨rfl, hb2⟩
              obtain ⟨hc2, hf2⟩ := bcell hb2
              have HW2 := Lib.hid (HW.out.trans (hb2.mono hwr))
              have hwx := HX.out.size
              simp at hwx
              have hs2 := hb2.size
              clear hb2
              go_wp2_with fail
              go_returns
              exact ⟨rfl, HW2.out.alloc HW2.out.size _⟩
            · rw [hc3] at hrest
              have e3 : Agg.aFold k I = (Agg.fold k I, true) := by simp [Agg.aFold, Agg.give, hc3]
              rw [e3] at hh
              obtain ⟨⟨X, Y, Z⟩, hV⟩ : ∃ V, V = Agg.fold k I := ⟨_, rfl⟩
              rw [← hV] at hh hrest
              have HH := Lib.hid hh
              by_cases heq : bx = X ∧ by' = Y ∧ bz = Z
              · obtain ⟨rfl, rfl, rfl⟩ := heq
                have hbf : b = true := by rw [hrest]; simp
                subst hbf
                clear hh hrest hc3 e3 hV
                go_wp2_with fail
                refine (HH.out _ (HI.out.below HW.out)).mono ?_
                rintro e w2 ⟨rfl, hb2⟩
                obtain ⟨hc2, hf2⟩ := bcell hb2
                have HW2 := Lib.hid (HW.out.trans (hb2.mono hwr))
                have hwx := HX.out.size
                simp at hwx
                have hs2 := hb2.size
                have hq1 : w.heap.size < wr.heap.size := by omega
                have hq2 : w.heap.size < w2.heap.size := by omega
                clear hb2 hwx
                go_wp2_with fail
                go_returns
                exact ⟨by first | rfl | simp, HW2.out.alloc HW2.out.size _⟩
              · have hbf : b = false := by rw [hrest]; simpa using heq
                subst hbf
                clear hh hrest hc3 e3 hV
                go_wp2_with fail
                refine (HH.out _ (HI.out.below HW.out)).mono ?_
                rintro e w2 ⟨rfl, hb2⟩
                obtain ⟨hc2, hf2⟩ := bcell hb2
                have HW2 := Lib.hid (HW.out.trans (hb2.mono hwr))
                have hwx := HX.out.size
                simp at hwx
                have hs2 := hb2.size
                have hq1 : w.heap.size < wr.heap.size := by omega
                have hq2 : w.heap.size < w2.heap.size := by omega
                clear hb2 hwx
                have HEQ := Lib.hid heq
                clear heq
                go_wp2_with fail
                all_goals first | (exfalso; apply HEQ.out; refine ⟨?_, ?_, ?_⟩ <;> assumption) | (go_returns; exact ⟨rfl, HW2.out.alloc HW2.out.size _⟩)
end Go.Proofs.YtolgclajlklmaaaGreat
