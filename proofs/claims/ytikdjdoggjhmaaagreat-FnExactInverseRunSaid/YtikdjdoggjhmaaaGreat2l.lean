/-
  OpsValid, in the program and in the model.
-/
import Derived.Test.YtikdjdoggjhmaaaGreat2z
import Derived.Test.YtikdjdoggjhmaaaGreatS0
namespace Go.Proofs.YtikdjdoggjhmaaaGreat
set_option linter.unusedSimpArgs false
set_option linter.unusedVariables false
open Go.RowKit
theorem opsValid_any (a : Option Addr) (n cap : Nat) (l : List (Bool × Int)) (w : World) (h : Ops w a n cap l) :
    Calls Tryz.prog 101 #[.slice a n cap] w fun e w' => e = .returned (.bool (Agg.opsOk l)) ∧ Below w.heap.size w w' := by
  have hW := windowsOf_any a n cap l w h
  obtain ⟨b, hb⟩ : ∃ b, b = Agg.opsOk l := ⟨_, rfl⟩
  rw [← hb] at hW ⊢
  have HW := Lib.hid hW
  clear hW hb h
  go_enter Tryz.func101, Tryz.ntmps101
  go_wp2_with fail
  refine HW.out.mono ?_
  rintro e w1 ⟨ht, hf⟩
  cases b
  · obtain ⟨rfl, hb1⟩ := hf rfl
    have HB := Lib.hid hb1
    clear ht hf hb1
    go_wp2
    go_returns
    exact ⟨rfl, HB.out⟩
  · obtain ⟨v, hs, rfl, -, -, hb1⟩ := ht rfl
    have HB := Lib.hid hb1
    clear ht hf hb1
    go_wp2
    go_returns
    exact ⟨rfl, HB.out⟩
set_option maxRecDepth 8000 in
set_option maxHeartbeats 2000000 in
theorem s_l2Ops_any (a : Option Addr) (n cap : Nat) (l : List (Bool × Int)) (w : World) (h : Ops w a n cap l) :
    Calls Tryz.prog 56 #[.slice a n cap] w fun e w' => e = .returned (.bool (Agg.opsOk l)) ∧ Below w.heap.size w w' := by
  have hll : l.length = n := h.1
  have hnc := h.2.1
  have hcm : cap ≤ 9223372036854775807 := by have := h.2.2.1; unfold maxLen at this; omega
  have H4 := Lib.hid h.2.2.2
  clear h
  obtain ⟨b, hb⟩ : ∃ b, b = Agg.opsOk l := ⟨_, rfl⟩
  rw [← hb]
  have HBB := Lib.hid hb
  clear hb
  go_enter Tryz.func56, Tryz.ntmps56
  go_wp2
  go_loopw [3, 4] (fun nv i wr => ∃ j : Nat, j ≤ n ∧ j ≤ 200 ∧ i = .int .i64 j ∧ nv = .int .i64 ((Agg.winAt l j).length : Int) ∧ Agg.allOk l j = true ∧ Agg.fitTo l j = true ∧ Hid (Below w.heap.size w wr)) (fun _ i _ => n - (intOf i).toNat)
  case atStart => exact ⟨0, Nat.zero_le _, by omega, rfl, by simp [Agg.winAt], rfl, rfl, Below.refl _ _⟩
  case round =>
    obtain ⟨j, hj, hj2, rfl, rfl, hok, hfit, hw⟩ := hrel
    have hwl := Agg.win_len j hfit
    by_cases hlt : j < n ∧ j < 200
    · obtain ⟨hlt, hlt2⟩ := hlt
      rcases H4.out with h4 | ⟨bk, off, rfl, hbk, hcs⟩
      · omega
      · have hck := (hw.out.cell (p := ⟨bk, off + j * 2, none⟩) hbk).trans (hcs j hlt).1
        have hcl := (hw.out.cell (p := ⟨bk, off + j * 2 + 1, none⟩) hbk).trans (hcs j hlt).2
        clear hcs
        have hfj : Agg.fitTo l (j + 1) = (Agg.fitTo l j && Agg.fits (Agg.winAt l j) (Agg.opAt l j)) := rfl
        have haj : Agg.allOk l (j + 1) = (Agg.allOk l j && Agg.opOk (Agg.opAt l j)) := rfl
        have hwj : Agg.winAt l (j + 1) = Agg.stepW (Agg.winAt l j) (Agg.opAt l j) := rfl
        have hno1 : Agg.fitTo l (j + 1) = false → Agg.opsOk l = false := fun h => Agg.opsOk_false_fit (i := j + 1) (by omega) h
        have hno2 : Agg.allOk l (j + 1) = false → Agg.opsOk l = false := fun h => Agg.opsOk_false_all (i := j + 1) (by omega) h
        simp only [Agg.opAt] at hfj haj hwj
        obtain ⟨⟨p, x⟩, hx⟩ : ∃ x, x = l[j]?.getD (false, 0) := ⟨_, rfl⟩
        rw [← hx] at hck hcl hfj haj hwj
        rw [hfit] at hfj
        rw [hok] at haj
        obtain ⟨L, hL⟩ : ∃ L, L = Agg.winAt l j := ⟨_, rfl⟩
        rw [← hL] at hfj hwj hwl ⊢
        clear hx hL
        have hk0 : (0 : Int) ≤ (j : Int) := Int.natCast_nonneg _
        have hkn : (j : Int) < (n : Int) := by omega
        have hk2 : (j : Int) < 200 := by omega
        have hd2 : decide ((j : Int) < 200) = true := decide_eq_true hk2
        cases p
        · simp only [Agg.fits, Agg.stepW, Agg.opOk, Bool.false_eq_true, if_false, Bool.true_and] at hfj haj hwj
          by_cases hL0 : L.length = 0
          · have hno := hno1 (by rw [hfj]; simp [hL0])
            have HNO := Lib.hid hno
            have hneg : ((L.length : Int) - 1 < 0) := by omega
            clear hno1 hno2 hfj haj hwj hno
            go_wp2
            all_goals
              go_returns
              exact ⟨ret_bool (by rw [HBB.out, HNO.out]), hw.out⟩
          · have hneg : ¬ ((L.length : Int) - 1 < 0) := by omega
            by_cases hx0 : x = 0
            · have HF := Lib.hid (show Agg.fitTo l (j + 1) = true by rw [hfj]; simp; omega)
              have HA := Lib.hid (show Agg.allOk l (j + 1) = true by rw [haj]; simp [hx0])
              have HWJ := Lib.hid (show ((Agg.winAt l (j + 1)).length : Int) = (L.length : Int) - 1 by rw [hwj]; simp; omega)
              clear hno1 hno2 hfj haj hwj
              go_wp2
              go_roundw
              case rel => exact ⟨j + 1, by omega, by omega, by go_num, by rw [HWJ.out], HA.out, HF.out, hw.out⟩
              case measure => simp [intOf]; omega
            · have hno := hno2 (by rw [haj]; simp [hx0])
              have HNO := Lib.hid hno
              clear hno1 hno2 hfj haj hwj hno
              go_wp2
              all_goals
                go_returns
                exact ⟨ret_bool (by rw [HBB.out, HNO.out]), hw.out⟩
        · simp only [Agg.fits, Agg.stepW, Agg.opOk, if_true, Bool.true_and] at hfj haj hwj
          cases hit : Agg.isItem x
          · have hno := hno2 (by rw [haj, hit])
            have HNO := Lib.hid hno
            clear hno1 hno2 hfj haj hwj hno
            go_wp2_with (go_at_call 106; refine (s_in_item _ _).mono ?_; rintro e wk ⟨rfl, rfl⟩)
            all_goals
              go_returns
              exact ⟨ret_bool (by rw [HBB.out, HNO.out]), hw.out⟩
          · by_cases hL60 : L.length < 60
            · have hle : ¬ (60 < (L.length : Int) + 1) := by omega
              have HF := Lib.hid (show Agg.fitTo l (j + 1) = true by rw [hfj]; simp [hL60])
              have HA := Lib.hid (show Agg.allOk l (j + 1) = true by rw [haj, hit])
              have HWJ := Lib.hid (show ((Agg.winAt l (j + 1)).length : Int) = (L.length : Int) + 1 by rw [hwj]; simp)
              clear hno1 hno2 hfj haj hwj
              go_wp2_with (go_at_call 106; refine (s_in_item _ _).mono ?_; rintro e wk ⟨rfl, rfl⟩)
              go_roundw
              case rel => exact ⟨j + 1, by omega, by omega, by go_num, by rw [HWJ.out], HA.out, HF.out, hw.out⟩
              case measure => simp [intOf]; omega
            · have hle : 60 < (L.length : Int) + 1 := by omega
              have hno := hno1 (by rw [hfj]; simp; omega)
              have HNO := Lib.hid hno
              clear hno1 hno2 hfj haj hwj hno
              go_wp2_with (go_at_call 106; refine (s_in_item _ _).mono ?_; rintro e wk ⟨rfl, rfl⟩)
              all_goals
                go_returns
                exact ⟨ret_bool (by rw [HBB.out, HNO.out]), hw.out⟩
    · by_cases hjn : j < n
      · have hj200 : ¬ ((j : Int) < 200) := by omega
        have hjn' : (j : Int) < (n : Int) := by omega
        have hbig : ¬ ((n : Int) ≤ 200) := by omega
        have HNO := Lib.hid (show Agg.opsOk l = false by simp [Agg.opsOk]; intro h; omega)
        go_wp2
        go_returns
        exact ⟨ret_bool (by rw [HBB.out, HNO.out]), hw.out⟩
      · obtain rfl : j = n := by omega
        have hle : ((j : Int) ≤ 200) := by omega
        have HY := Lib.hid (show Agg.opsOk l = true by rw [Agg.opsOk, hll, hok, hfit]; simp [hj2])
        clear hlt
        go_wp2
        go_returns
        exact ⟨ret_bool (by rw [HBB.out, HY.out]), hw.out⟩
end Go.Proofs.YtikdjdoggjhmaaaGreat
