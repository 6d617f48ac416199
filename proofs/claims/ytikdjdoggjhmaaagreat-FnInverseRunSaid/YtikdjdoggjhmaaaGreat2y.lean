/-
  Changes collected; a push and a take applied to a window.
-/
import Derived.Test.YtikdjdoggjhmaaaGreat2x
namespace Go.Proofs.YtikdjdoggjhmaaaGreat
set_option linter.unusedSimpArgs false
set_option linter.unusedVariables false
open Go.RowKit
theorem infoChg : (Tryz.prog.info? 136).map (fun i => (i.zero, i.size, i.bytes)) = some (some .nilIface, 1, 16) := by kernel_rfl
theorem chg_oneCell (o : Bool × Int) : ∀ u ∈ [chg o], u.oneCell' = true := by
  intro u hu
  obtain rfl := List.mem_singleton.1 hu
  unfold chg
  split <;> rfl
theorem take_at (l : List (Bool × Int)) (j : Nat) (h : j < l.length) : l.take (j + 1) = l.take j ++ [Agg.opAt l j] := by
  rw [List.take_succ_eq_append_getElem h]; simp [Agg.opAt, h]
/-- Changes are collected, if each of them is one. -/
def ChgOut (b : Bool) (l : List (Bool × Int)) (n : Nat) (w : World) (e : Ending) (w' : World) : Prop :=
  (b = true → ∃ v, e = .returned (.tuple #[v, .bool true]) ∧ w'.ownsRow w.heap.size 136 1 v n (l.map chg) ∧ Below w.heap.size w w') ∧
  (b = false → e = .returned (.tuple #[.slice none 0 0, .bool false]) ∧ Below w.heap.size w w')
set_option maxRecDepth 8000 in
set_option maxHeartbeats 2000000 in
theorem changesOf_any (a : Option Addr) (n cap : Nat) (l : List (Bool × Int)) (w : World) (h : Ops w a n cap l) :
    Calls Tryz.prog 111 #[.slice a n cap] w (ChgOut (decide (n ≤ 200) && Agg.allOk l n) l n w) := by
  obtain ⟨i0, hi, hz0, hz1, hz2⟩ := info_parts infoChg
  obtain ⟨hl, hcap, hm, h4⟩ := h
  unfold maxLen at hm
  have HL := Lib.hid hl; clear hl
  have H4 := Lib.hid h4; clear h4
  obtain ⟨bb, hbb⟩ : ∃ bb, bb = (decide (n ≤ 200) && Agg.allOk l n) := ⟨_, rfl⟩
  rw [← hbb]
  have HBB := Lib.hid hbb
  clear hbb
  by_cases hn : n ≤ 200
  · go_enter Tryz.func111, Tryz.ntmps111
    go_wp2_with (at_make; refine wpList_make_own _ rfl _ _ 132 rfl w.heap.size 136 i0 .nilIface 1 Tryz.underlying132 hi hz0 hz1 .i64 .i64 _ n rfl rfl rfl ?b1 ?b2 ?b3 ?_)
    case b1 => rw [hz2]; omega
    case b2 => unfold maxLen; omega
    case b3 => exact Nat.le_refl _
    intro w1 hown hgrow
    have HO := Lib.hid (show w1.ownsRow w.heap.size 136 1 (.slice (some ⟨w.heap.size, 0, none⟩) 0 n) 0 ((l.take 0).map chg) from hown)
    have HB := Lib.hid ((Below.refl w.heap.size w).grown hgrow (Nat.le_refl _) (fun k hk => by simp at hk))
    clear hown hgrow
    go_wp2
    go_loopw [4, 17] (fun ov i wr => ∃ j : Nat, j ≤ n ∧ i = .int .i64 j ∧ Agg.allOk l j = true ∧ Hid (wr.ownsRow w.heap.size 136 1 ov j ((l.take j).map chg)) ∧ Hid (Below w.heap.size w wr)) (fun _ i _ => n - (intOf i).toNat)
    case atStart => exact ⟨0, Nat.zero_le _, rfl, rfl, HO, HB⟩
    case round =>
      obtain ⟨j, hj, rfl, hok, ho, hw⟩ := hrel
      clear HO HB
      have hwr := hw.out.size
      by_cases hlt : j < n
      · rcases H4.out with h4 | ⟨b, off, rfl, hb, hcs⟩
        · omega
        · have hck := (hw.out.cell (p := ⟨b, off + j * 2, none⟩) hb).trans (hcs j hlt).1
          have hcl := (hw.out.cell (p := ⟨b, off + j * 2 + 1, none⟩) hb).trans (hcs j hlt).2
          clear hcs
          have hst := take_at l j (by have := HL.out; omega)
          have hall : Agg.allOk l (j + 1) = (Agg.allOk l j && Agg.opOk (Agg.opAt l j)) := rfl
          simp only [Agg.opAt] at hst hall
          obtain ⟨⟨p, x⟩, hx⟩ : ∃ x, x = l[j]?.getD (false, 0) := ⟨_, rfl⟩
          rw [← hx] at hck hcl hst hall
          have HST := Lib.hid hst
          clear hst hx
          have hbw : b < wr.heap.size := Nat.lt_of_lt_of_le hb hwr
          have hk0 : (0 : Int) ≤ (j : Int) := Int.natCast_nonneg _
          have hkn : (j : Int) < (n : Int) := by omega
          have hC := fun w => changeOf_any p x w
          cases hop : Agg.opOk (p, x)
          · rw [hop] at hC
            simp only [Bool.false_eq_true, if_false] at hC
            have HC := Lib.hid hC
            have hno : Agg.allOk l n = false := by
              cases h2 : Agg.allOk l n
              · rfl
              · have := Agg.allOk_down (i := j + 1) (by omega) h2; rw [hall, hop] at this; simp at this
            clear hC hall
            go_wp2_with fail
            refine (HC.out _).mono ?_
            rintro e w2 ⟨rfl, hb2⟩
            have HW2 := Lib.hid ((hw.out.alloc hwr _).trans (hb2.mono (by simp; omega)))
            clear hb2
            go_wp2_with fail
            go_returns
            exact ⟨fun h => by rw [HBB.out, hno] at h; simp at h, fun _ => ⟨rfl, HW2.out⟩⟩
          · rw [hop, if_pos rfl] at hC
            obtain ⟨T, V, hcv⟩ : ∃ T V, chg (p, x) = .iface T (.agg V) := by cases p <;> exact ⟨_, _, rfl⟩
            rw [hcv] at hC
            have HCV := Lib.hid hcv
            have HC := Lib.hid hC
            clear hcv
            rw [hok, hop] at hall
            have HALL := Lib.hid hall
            clear hC hall
            have hlt' : ∀ g, u4.ownBlock = some g → w.heap.size ≤ g := fun g hg => (ho.out.lt g hg).1
            go_wp2_with fail
            refine (HC.out _).mono ?_
            rintro e w2 ⟨rfl, hb2⟩
            have HW2 := Lib.hid ((hw.out.alloc hwr _).trans (hb2.mono (by simp; omega)))
            have HO2 := Lib.hid ((ho.out.alloc _).kept (Below.grownNone hb2 none) (by cases hv : u4.ownBlock <;> simp))
            have hs2 := HW2.out.size
            clear hb2
            go_wp2_with (at_builtin; refine wpList_append_own _ rfl (.tmp 28) (.tmp 30) 132 rfl w.heap.size 136 i0 .nilIface 1 16 Tryz.underlying132 hi hz0 hz1 hz2 rfl (by decide) _ _ _ rfl (HO2.out.alloc _) ⟨w2.heap.size, 0, none⟩ 1 1 [.iface T (.agg V)] rfl rfl (cell_one_new _ _ _) (fun u hu => by rw [List.mem_singleton.1 hu]; rfl) (by unfold maxLen; omega) (by omega) (by simp; omega) ?_; intro v3 w3 hown3 hgrow3 hnil3; have HO3 := Lib.hid hown3; have HW3 := Lib.hid ((HW2.out.alloc HW2.out.size _).grown hgrow3 (by have := HW2.out.size; simp; omega) hlt'); clear hown3 hgrow3 hnil3)
            go_roundw
            case rel =>
              refine ⟨j + 1, by omega, by go_num, HALL.out, Lib.hid ?_, HW3⟩
              rw [HST.out, List.map_append, List.map_singleton, HCV.out]
              exact HO3.out
            case measure => simp [intOf]; omega
      · obtain rfl : j = n := by omega
        have hall : l.take j = l := List.take_of_length_le (by have := HL.out; omega)
        have ho2 := ho.out
        rw [hall] at ho2
        have HO2 := Lib.hid ho2
        clear ho2 hall
        go_wp2
        go_returns
        exact ⟨fun _ => ⟨_, rfl, HO2.out, hw.out⟩, fun h => by rw [HBB.out, hok] at h; simp [hn] at h⟩
  · go_enter Tryz.func111, Tryz.ntmps111
    go_wp2
    go_returns
    exact ⟨fun h => by rw [HBB.out] at h; simp [hn] at h, fun _ => ⟨rfl, Below.refl _ _⟩⟩
theorem push_fits (x n : Int) (w : World) :
    Calls Tryz.prog 218 #[.agg #[.int .i64 x], .int .i64 n] w fun e w' => e = .returned (.bool (decide (n < 60))) ∧ Below w.heap.size w w' := by
  go_enter Tryz.func218, Tryz.ntmps218
  go_wp2
  all_goals (go_returns; exact ⟨ret_bool (by simp <;> omega), (by first | (go_grown; done) | (refine below_drewN ?_ _; go_grown; done) | (refine (below_drewN _ ?_); go_grown; done))⟩)
theorem take_fits (n : Int) (w : World) :
    Calls Tryz.prog 221 #[.agg #[], .int .i64 n] w fun e w' => e = .returned (.bool (decide (0 < n))) ∧ Below w.heap.size w w' := by
  go_enter Tryz.func221, Tryz.ntmps221
  go_wp2
  all_goals (go_returns; exact ⟨ret_bool (by simp <;> omega), (by first | (go_grown; done) | (refine below_drewN ?_ _; go_grown; done) | (refine (below_drewN _ ?_); go_grown; done))⟩)
set_option maxRecDepth 8000 in
theorem push_apply (base : Nat) (x : Int) (v : Value) (l : List Int) (w : World) (h : Qu w base v l) (hbase : base ≤ w.heap.size) (hl : l.length < 60) :
    Calls Tryz.prog 217 #[.agg #[.int .i64 x], v] w fun e w' => ∃ v', e = .returned v' ∧ Qu w' base v' (l ++ [x]) ∧ (∃ wm, Below w.heap.size w wm ∧ Pushed wm v w' v') ∧ Below base w w' := by
  obtain ⟨i0, hi, hz0, hz1, hz2⟩ := info_parts infoInt
  obtain ⟨a, cap, hv, hlc, hc63⟩ := h.form
  have hbel : Below w.heap.size w ((w.alloc (.cells #[.int .i64 x] 168)).alloc (.cells #[.int .i64 x] 3)) := ((Below.refl _ _).alloc (Nat.le_refl _) _).alloc (by simp) _
  have hq : Qu ((w.alloc (.cells #[.int .i64 x] 168)).alloc (.cells #[.int .i64 x] 3)) base v l := h.kept (Below.grownNone hbel none) (fun g e => by cases e)
  obtain ⟨v', w', hrun, hq', hp, hb'⟩ := run_push (P := Tryz.prog) hq 27 27 i0 Tryz.underlying27 hi hz0 hz1 hz2 (w.heap.size + 1) x 1 (by simp) hl (by simp; omega)
  have HP := Lib.hid (show ∃ wm, Below w.heap.size w wm ∧ Pushed wm v w' v' from ⟨_, hbel, hp⟩)
  have HB := Lib.hid ((hbel.mono hbase).trans hb')
  have HQ := Lib.hid hq'
  subst hv
  have HR := Lib.hid hrun
  clear hrun hp hb' hq' hq hbel h
  go_enter Tryz.func217, Tryz.ntmps217
  go_wp2_with (at_builtin; refine Lib.wpList_append_run _ rfl _ _ _ _ rfl _ _ rfl rfl _ _ HR.out ?_)
  go_returns
  exact ⟨v', rfl, HQ.out, HP.out, HB.out⟩
theorem take_apply (w : World) (g off n cap : Nat) (hn : 0 < n) (hnc : n ≤ cap) (hc : cap ≤ 9223372036854775807) :
    Calls Tryz.prog 220 #[.agg #[], .slice (some ⟨g, off, none⟩) n cap] w fun e w' => ∃ v', e = .returned v' ∧ (v' = .slice (some ⟨g, off + 1, none⟩) (n - 1) (cap - 1) ∨ (cap = 1 ∧ ∃ o, o ≤ off + 1 ∧ v' = .slice (some ⟨g, o, none⟩) 0 0)) ∧ Below w.heap.size w w' := by
  have h0 : ¬ ((n : Int) = 0) := by omega
  have h1 : (1 : Int) ≤ (n : Int) := by omega
  have h2 : (1 : Int) ≤ (cap : Int) := by omega
  by_cases hc1 : cap = 1
  · subst hc1
    obtain rfl : n = 1 := by omega
    go_enter Tryz.func220, Tryz.ntmps220
    go_wp2
    go_returns
    exact ⟨_, rfl, .inr ⟨by first | trivial | rfl, _, by omega, rfl⟩, (by first | (go_grown; done) | (refine below_drewN ?_ _; go_grown; done) | (refine (below_drewN _ ?_); go_grown; done))⟩
  · have h3 : (1 : Int) < (cap : Int) := by omega
    have h4 : ¬ (cap - 1 = 0) := by omega
    go_enter Tryz.func220, Tryz.ntmps220
    go_wp2
    go_returns
    exact ⟨_, rfl, .inl rfl, (by first | (go_grown; done) | (refine below_drewN ?_ _; go_grown; done) | (refine (below_drewN _ ?_); go_grown; done))⟩
set_option maxRecDepth 8000 in
theorem canChange_any (p : Bool) (x n : Int) (w : World) :
    Calls Tryz.prog 69 #[.agg #[.bool p, .int .i64 x], .int .i64 n] w fun e w' => e = .returned (.bool (Agg.can (p, x) n)) ∧ Below w.heap.size w w' := by
  have hC := fun w => changeOf_any p x w
  obtain ⟨b, hb⟩ : ∃ b, b = Agg.can (p, x) n := ⟨_, rfl⟩
  rw [← hb]
  cases hop : Agg.opOk (p, x)
  · rw [hop] at hC
    simp only [Bool.false_eq_true, if_false] at hC
    have hbf : b = false := by rw [hb, Agg.can, hop]; rfl
    subst hbf
    have HC := Lib.hid hC
    clear hC hb hop
    go_enter Tryz.func69, Tryz.ntmps69
    go_wp2_with fail
    refine (HC.out _).mono ?_
    rintro e w1 ⟨rfl, hb1⟩
    have HW1 := Lib.hid (((Below.refl w.heap.size w).alloc (Nat.le_refl _) _).trans (hb1.mono (by simp)))
    clear hb1
    go_wp2_with fail
    go_returns
    exact ⟨rfl, HW1.out⟩
  · rw [hop, if_pos rfl] at hC
    cases p
    · have hbf : b = decide (0 < n) := by rw [hb, Agg.can, hop]; rfl
      subst hbf
      simp only [chg, Bool.false_eq_true, if_false] at hC
      have HC := Lib.hid hC
      clear hC hb hop
      go_enter Tryz.func69, Tryz.ntmps69
      go_wp2_with fail
      refine (HC.out _).mono ?_
      rintro e w1 ⟨rfl, hb1⟩
      have HW1 := Lib.hid (((Below.refl w.heap.size w).alloc (Nat.le_refl _) _).trans (hb1.mono (by simp)))
      clear hb1
      go_wp2_with fail
      refine (take_fits _ _).mono ?_
      rintro e w2 ⟨rfl, hb2⟩
      have HW2 := Lib.hid (HW1.out.trans (hb2.mono (by first | exact HW1.out.size | (have := HW1.out.size; simp; omega))))
      clear hb2
      go_wp2_with fail
      go_returns
      exact ⟨rfl, HW2.out⟩
    · have hbf : b = decide (n < 60) := by rw [hb, Agg.can, hop]; rfl
      subst hbf
      simp only [chg, if_true] at hC
      have HC := Lib.hid hC
      clear hC hb hop
      go_enter Tryz.func69, Tryz.ntmps69
      go_wp2_with fail
      refine (HC.out _).mono ?_
      rintro e w1 ⟨rfl, hb1⟩
      have HW1 := Lib.hid (((Below.refl w.heap.size w).alloc (Nat.le_refl _) _).trans (hb1.mono (by simp)))
      clear hb1
      go_wp2_with fail
      refine (push_fits _ _ _).mono ?_
      rintro e w2 ⟨rfl, hb2⟩
      have HW2 := Lib.hid (HW1.out.trans (hb2.mono (by first | exact HW1.out.size | (have := HW1.out.size; simp; omega))))
      clear hb2
      go_wp2_with fail
      go_returns
      exact ⟨rfl, HW2.out⟩
end Go.Proofs.YtikdjdoggjhmaaaGreat
