/-
  Valid windows with an inverse, in the program and in the model.
-/
import Derived.Test.YtehfijijapfomaaGreat6k
import Derived.Test.YtehfijijapfomaaGreat6b
import Derived.Test.YtehfijijapfomaaGreatM
import Derived.Test.YtehfijijapfomaaGreatL
import Derived.Test.YtehfijijapfomaaGreat3a
import Derived.Deep.RegionHeld3
import Derived.Deep.Cut
namespace Go.Proofs.YtehfijijapfomaaGreat
set_option linter.unusedSimpArgs false
set_option linter.unusedVariables false
open Go.RowKit
set_option maxRecDepth 8000 in
set_option maxHeartbeats 2000000 in
theorem inverseValid_any (k : Int) (ia : Option Addr) (m ic : Nat) (ax ay az : Int) (I : List Int) (w : World) (hI : Nums .i64 w ia m ic I) :
    Calls Tryz.prog 39 #[.int .i64 k, .agg #[.slice ia m ic, .int .i64 ax, .int .i64 ay, .int .i64 az]] w fun e w' => e = .returned (.bool (Agg.ivOk k ⟨I, ⟨ax, ay, az⟩⟩)) ∧ Below w.heap.size w w' := by
  obtain ⟨b, hb⟩ : ∃ b, b = Agg.ivOk k ⟨I, ⟨ax, ay, az⟩⟩ := ⟨_, rfl⟩
  rw [← hb]
  obtain ⟨W, hW⟩ : ∃ W, W = w.alloc (.cells #[.slice ia m ic, .int .i64 ax, .int .i64 ay, .int .i64 az] 32) := ⟨_, rfl⟩
  have HX := Lib.hid (show Box4 W w.heap.size 32 (.slice ia m ic) (.int .i64 ax) (.int .i64 ay) (.int .i64 az) from by rw [hW]; exact Box4.new _ _ _ _ _ _)
  have HB := Lib.hid (show Below w.heap.size w W from by rw [hW]; exact (Below.refl _ _).alloc (Nat.le_refl _) _)
  have HI := Lib.hid (hI.below HB.out)
  clear hI
  cases hr : Agg.removes k
  · have hbf : b = false := by rw [hb]; simp [Agg.ivOk, hr]
    subst hbf
    have HR := Lib.hid hr
    clear hb hr
    go_enter Tryz.func39, Tryz.ntmps39
    go_wp2_with fail
    rw [← hW]
    clear hW
    refine (removerOf_not k _ HR.out).mono ?_
    rintro e w1 ⟨rfl, rfl⟩
    go_wp2_with fail
    go_returns
    exact ⟨rfl, HB.out⟩
  · obtain ⟨T, fu, fl, fc, fr, R⟩ := rem_at hr
    have HRO := Lib.hid R.of
    have hk := Agg.removes_kind hr
    have hh := fun w h => foldItems_any k ia m ic I w h
    obtain ⟨q0, q1, q2, q3⟩ := HX.out.cells
    cases hi : Agg.itemsOk I
    · have hbf : b = false := by rw [hb]; simp [Agg.ivOk, hi]
      subst hbf
      rw [show Agg.aFold k I = (Agg.zero, false) by simp [Agg.aFold, Agg.give, hi]] at hh
      have HH := Lib.hid hh
      clear hh hb hr hi hk R
      go_enter Tryz.func39, Tryz.ntmps39
      go_wp2_with fail
      rw [← hW]
      clear hW
      refine (HRO.out _).mono ?_
      rintro e w1 ⟨rfl, rfl⟩
      go_wp2_with fail
      refine (HH.out _ HI.out).mono ?_
      rintro e w2 ⟨rfl, hb2⟩
      have HB2 := Lib.hid (HB.out.trans (hb2.mono HB.out.size))
      clear hb2
      go_wp2_with fail
      go_returns
      exact ⟨rfl, HB2.out.alloc HB2.out.size _⟩
    · rw [Agg.aFold_of hk hi] at hh
      obtain ⟨⟨X, Y, Z⟩, hV⟩ : ∃ V, V = Agg.fold k I := ⟨_, rfl⟩
      rw [← hV] at hh
      have HH := Lib.hid hh
      have hbd : b = decide ((⟨ax, ay, az⟩ : Agg.V) = ⟨X, Y, Z⟩) := by rw [hb, hV]; simp [Agg.ivOk, hr, hi]
      clear hh hb hr hi hk R hV
      by_cases heq : ax = X ∧ ay = Y ∧ az = Z
      · obtain ⟨rfl, rfl, rfl⟩ := heq
        have hbf : b = true := by rw [hbd]; simp
        subst hbf
        clear hbd
        go_enter Tryz.func39, Tryz.ntmps39
        go_wp2_with fail
        rw [← hW]
        clear hW
        refine (HRO.out _).mono ?_
        rintro e w1 ⟨rfl, rfl⟩
        go_wp2_with fail
        refine (HH.out _ HI.out).mono ?_
        rintro e w2 ⟨rfl, hb2⟩
        have HX2 := Lib.hid (HX.out.call hb2)
        have HB2 := Lib.hid (HB.out.trans (hb2.mono HB.out.size))
        have hl2 := HX2.out.lt
        obtain ⟨p0, p1, p2, p3⟩ := HX2.out.cells
        clear hb2 q0 q1 q2 q3
        go_wp2_with fail
        go_returns
        exact ⟨by first | rfl | simp, HB2.out.alloc HB2.out.size _⟩
      · have hbf : b = false := by rw [hbd]; simpa using heq
        subst hbf
        clear hbd
        have heq3 : ¬ (ax = X) ∨ (ax = X ∧ ¬ (ay = Y)) ∨ (ax = X ∧ ay = Y ∧ ¬ (az = Z)) := by
          by_cases e1 : ax = X
          · by_cases e2 : ay = Y
            · exact .inr (.inr ⟨e1, e2, fun e3 => heq ⟨e1, e2, e3⟩⟩)
            · exact .inr (.inl ⟨e1, e2⟩)
          · exact .inl e1
        clear heq
        rcases heq3 with hne | ⟨rfl, hne⟩ | ⟨rfl, rfl, hne⟩
        all_goals
          go_enter Tryz.func39, Tryz.ntmps39
          go_wp2_with fail
          rw [← hW]
          clear hW
          refine (HRO.out _).mono ?_
          rintro e w1 ⟨rfl, rfl⟩
          go_wp2_with fail
          refine (HH.out _ HI.out).mono ?_
          rintro e w2 ⟨rfl, hb2⟩
          have HX2 := Lib.hid (HX.out.call hb2)
          have HB2 := Lib.hid (HB.out.trans (hb2.mono HB.out.size))
          have hl2 := HX2.out.lt
          obtain ⟨p0, p1, p2, p3⟩ := HX2.out.cells
          clear hb2 q0 q1 q2 q3
          go_wp2_with fail
          go_returns
          exact ⟨by first | rfl | simp [hne], HB2.out.alloc HB2.out.size _⟩
theorem s_l6Has_any (k : Int) (w : World) : Calls Tryz.prog 43 #[.int .i64 k] w fun e w' => e = .returned (.bool (Agg.removes k)) ∧ w = w' := by
  obtain ⟨b, hb⟩ : ∃ b, b = Agg.removes k := ⟨_, rfl⟩
  rw [← hb]
  by_cases h : k = 1 ∨ k = 2 ∨ k = 7 ∨ k = 8
  · have hbt : b = true := by rw [hb]; simpa [Agg.removes] using h
    subst hbt
    clear hb
    rcases h with rfl | rfl | rfl | rfl
    all_goals
      go_enter Tryz.func43, Tryz.ntmps43
      go_wp2
      go_returns
      exact ⟨rfl, rfl⟩
  · have hbt : b = false := by rw [hb]; simpa [Agg.removes] using h
    subst hbt
    clear hb
    have h1 : ¬ k = 1 := fun e => h (by simp [e])
    have h2 : ¬ k = 2 := fun e => h (by simp [e])
    have h3 : ¬ k = 7 := fun e => h (by simp [e])
    have h4 : ¬ k = 8 := fun e => h (by simp [e])
    clear h
    go_enter Tryz.func43, Tryz.ntmps43
    go_wp2
    go_returns
    exact ⟨by simp [h1, h2, h3, h4], rfl⟩
set_option maxRecDepth 8000 in
set_option maxHeartbeats 4000000 in
theorem s_inverseValid_any (k : Int) (ia : Option Addr) (m ic : Nat) (ax ay az : Int) (I : List Int) (w : World) (hI : Nums .i64 w ia m ic I) :
    Calls Tryz.prog 34 #[.int .i64 k, .agg #[.slice ia m ic, .int .i64 ax, .int .i64 ay, .int .i64 az]] w fun e w' => e = .returned (.bool (Agg.ivOk k ⟨I, ⟨ax, ay, az⟩⟩)) ∧ Below w.heap.size w w' := by
  obtain ⟨b, hb⟩ : ∃ b, b = Agg.ivOk k ⟨I, ⟨ax, ay, az⟩⟩ := ⟨_, rfl⟩
  rw [← hb]
  obtain ⟨W, hW⟩ : ∃ W, W = w.alloc (.cells #[.slice ia m ic, .int .i64 ax, .int .i64 ay, .int .i64 az] 32) := ⟨_, rfl⟩
  have HX := Lib.hid (show Box4 W w.heap.size 32 (.slice ia m ic) (.int .i64 ax) (.int .i64 ay) (.int .i64 az) from by rw [hW]; exact Box4.new _ _ _ _ _ _)
  have HB := Lib.hid (show Below w.heap.size w W from by rw [hW]; exact (Below.refl _ _).alloc (Nat.le_refl _) _)
  have HI := Lib.hid (hI.below HB.out)
  have hH := fun w => s_l6Has_any k w
  have hL := fun w h => s_items_any ia m ic I w h
  clear hI
  obtain ⟨q0, q1, q2, q3⟩ := HX.out.cells
  cases hr : Agg.removes k
  · have hbf : b = false := by rw [hb]; simp [Agg.ivOk, hr]
    subst hbf
    rw [hr] at hH
    have HH := Lib.hid hH
    clear hb hr hH hL
    go_enter Tryz.func34, Tryz.ntmps34
    go_upto_region 1 with (fail)
    rw [← hW]
    clear hW
    first | go_region_with (go_at_call 43; refine (HH.out _).mono ?_; rintro e w1 ⟨rfl, rfl⟩) | fail
    all_goals
      go_wp2_with fail
      go_returns
      exact ⟨rfl, HB.out.drew⟩
  · have hk := Agg.removes_kind hr
    rw [hr] at hH
    have HH := Lib.hid hH
    cases hi : Agg.itemsOk I
    · have hbf : b = false := by rw [hb]; simp [Agg.ivOk, hi]
      subst hbf
      rw [hi] at hL
      have HL := Lib.hid hL
      clear hb hr hH hL hk hi
      go_enter Tryz.func34, Tryz.ntmps34
      go_upto_region 1 with (fail)
      rw [← hW]
      clear hW
      first | go_region_with (first | (go_at_call 43; refine (HH.out _).mono ?_; rintro e w1 ⟨rfl, rfl⟩) | (go_at_call 72; refine (HL.out _ (show Nums .i64 W.drew _ _ _ _ from HI.out)).mono ?_; rintro e w1 ⟨rfl, rfl⟩)) | fail
      all_goals
        go_wp2_with fail
        go_returns
        exact ⟨rfl, HB.out.drew⟩
    · rw [hi] at hL
      have HL := Lib.hid hL
      have hF := fun w h => s_fold_all k hk ia m ic I w h hi
      obtain ⟨⟨X, Y, Z⟩, hV⟩ : ∃ V, V = Agg.fold k I := ⟨_, rfl⟩
      rw [← hV] at hF
      have HF := Lib.hid hF
      have hbd : b = decide ((⟨ax, ay, az⟩ : Agg.V) = ⟨X, Y, Z⟩) := by rw [hb, hV]; simp [Agg.ivOk, hr, hi]
      clear hb hr hi hk hV hF hH hL
      by_cases heq : ax = X ∧ ay = Y ∧ az = Z
      · obtain ⟨rfl, rfl, rfl⟩ := heq
        have hbf : b = true := by rw [hbd]; simp
        subst hbf
        clear hbd
        go_enter Tryz.func34, Tryz.ntmps34
        go_upto_region 1 with (fail)
        rw [← hW]
        clear hW
        go_region_held3 (fun w' => w'.cell? ⟨w.heap.size, 0, none⟩ = some (.slice ia m ic) ∧ w'.cell? ⟨w.heap.size, 1, none⟩ = some (.int .i64 ax) ∧ w'.cell? ⟨w.heap.size, 2, none⟩ = some (.int .i64 ay) ∧ w'.cell? ⟨w.heap.size, 3, none⟩ = some (.int .i64 az)) (first | (refine ⟨?_, ?_, ?_, ?_⟩ <;> assumption) | go_keep) (first | (go_at_call 43; refine (HH.out _).mono ?_; rintro e w1 ⟨rfl, rfl⟩) | (go_at_call 72; refine (HL.out _ (show Nums .i64 W.drew _ _ _ _ from HI.out)).mono ?_; rintro e w1 ⟨rfl, rfl⟩) | (go_at_call 73; refine (HF.out _ (show Nums .i64 W.drew _ _ _ _ from HI.out)).mono ?_; rintro e w3 ⟨rfl, hb3⟩; have HX3 := Lib.hid (HX.out.callD hb3); have HB3 := Lib.hid (HB.out.drew.trans (hb3.mono HB.out.size)); obtain ⟨p0, p1, p2, p3⟩ := HX3.out.cells; clear hb3))
        all_goals
          go_wp2_with fail
          go_returns
          exact ⟨by first | rfl | simp, HB3.out⟩
      · have hbf : b = false := by rw [hbd]; simpa using heq
        subst hbf
        clear hbd
        have heq3 : ¬ (ax = X) ∨ (ax = X ∧ ¬ (ay = Y)) ∨ (ax = X ∧ ay = Y ∧ ¬ (az = Z)) := by
          by_cases e1 : ax = X
          · by_cases e2 : ay = Y
            · exact .inr (.inr ⟨e1, e2, fun e3 => heq ⟨e1, e2, e3⟩⟩)
            · exact .inr (.inl ⟨e1, e2⟩)
          · exact .inl e1
        clear heq
        rcases heq3 with hne | ⟨rfl, hne⟩ | ⟨rfl, rfl, hne⟩
        all_goals
          go_enter Tryz.func34, Tryz.ntmps34
          go_upto_region 1 with (fail)
          rw [← hW]
          clear hW
          go_region_held3 (fun w' => w'.cell? ⟨w.heap.size, 0, none⟩ = some (.slice ia m ic) ∧ w'.cell? ⟨w.heap.size, 1, none⟩ = some (.int .i64 ax) ∧ w'.cell? ⟨w.heap.size, 2, none⟩ = some (.int .i64 ay) ∧ w'.cell? ⟨w.heap.size, 3, none⟩ = some (.int .i64 az)) (first | (refine ⟨?_, ?_, ?_, ?_⟩ <;> assumption) | go_keep) (first | (go_at_call 43; refine (HH.out _).mono ?_; rintro e w1 ⟨rfl, rfl⟩) | (go_at_call 72; refine (HL.out _ (show Nums .i64 W.drew _ _ _ _ from HI.out)).mono ?_; rintro e w1 ⟨rfl, rfl⟩) | (go_at_call 73; refine (HF.out _ (show Nums .i64 W.drew _ _ _ _ from HI.out)).mono ?_; rintro e w3 ⟨rfl, hb3⟩; have HX3 := Lib.hid (HX.out.callD hb3); have HB3 := Lib.hid (HB.out.drew.trans (hb3.mono HB.out.size)); obtain ⟨p0, p1, p2, p3⟩ := HX3.out.cells; clear hb3))
          all_goals
            go_wp2_with fail
            go_returns
            exact ⟨by first | rfl | simp [hne], HB3.out⟩
end Go.Proofs.YtehfijijapfomaaGreat
