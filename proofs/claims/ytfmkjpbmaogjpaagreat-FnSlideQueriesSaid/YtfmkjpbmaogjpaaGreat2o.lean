/-
  SlideOps, in the program and in the model: a row of changes of its own.
-/
import Derived.Test.YtfmkjpbmaogjpaaGreatRw
import Derived.Test.YtfmkjpbmaogjpaaGreatL
import Derived.Test.YtfmkjpbmaogjpaaGreatMa
namespace Go.Proofs.YtfmkjpbmaogjpaaGreat
set_option linter.unusedSimpArgs false
set_option linter.unusedVariables false
open Go.RowKit
/-- The changes of a window of size s over the first j items. -/
def Agg.sOps (l : List Int) (s : Nat) : Nat → List (Bool × Int)
  | 0 => []
  | j + 1 => if s ≤ j then Agg.sOps l s j ++ [(true, l[j]?.getD 0)] ++ [(false, 0)] else Agg.sOps l s j ++ [(true, l[j]?.getD 0)]
theorem Agg.sOps_len (l : List Int) (s : Nat) : ∀ j, (Agg.sOps l s j).length ≤ 2 * j
  | 0 => by simp [Agg.sOps]
  | j + 1 => by have := Agg.sOps_len l s j; simp only [Agg.sOps]; split <;> simp <;> omega
def Agg.sOpsOk (l : List Int) (s : Int) : Bool := Agg.itemsOk l && decide (1 ≤ s ∧ s ≤ 59)
def Agg.sOpsOut (l : List Int) (s : Int) : List (Bool × Int) := if Agg.sOpsOk l s then Agg.sOps l s.toNat l.length else []
theorem Agg.sOpsOut_len (l : List Int) (s : Int) : (Agg.sOpsOut l s).length ≤ 120 := by
  unfold Agg.sOpsOut
  split
  · rename_i h
    simp only [Agg.sOpsOk, Bool.and_eq_true] at h
    have := Agg.items_len h.1
    have := Agg.sOps_len l s.toNat l.length
    omega
  · simp
/-- A row of changes of the call's own, and whether there is one. -/
def OpsOut (l : List (Bool × Int)) (b : Bool) (w : World) (e : Ending) (w' : World) : Prop :=
  ∃ (v : Value) (n : Nat), e = .returned (.tuple #[v, .bool b]) ∧ OwnO w' w.heap.size w'.heap.size v n l ∧ Below w.heap.size w w'
theorem OpsOut.mk' {w w' : World} {v : Value} {n : Nat} {l : List (Bool × Int)} {b : Bool} (h : w'.ownsRow w.heap.size 90 2 v n (opRow l)) (hb : Below w.heap.size w w') : OpsOut l b w (.returned (.tuple #[v, .bool b])) w' :=
  ⟨v, n, rfl, OwnO.made h hb.size, hb⟩
set_option maxRecDepth 4000 in
set_option maxHeartbeats 4000000 in
theorem slideOps_any (a : Option Addr) (n cap : Nat) (l : List Int) (size : Int) (w : World) (h : Nums .i64 w a n cap l) :
    Calls Tryz.prog 30 #[.slice a n cap, .int .i64 size] w (OpsOut (Agg.sOpsOut l size) (Agg.sOpsOk l size) w) := by
  obtain ⟨i0, hi0, hz0, hz1, hz2⟩ := info_parts infoOp
  have hll : l.length = n := h.1
  have hnc : n ≤ cap := h.2.1
  have hcm : cap ≤ 9223372036854775807 := by have := h.2.2.1; unfold maxLen at this; omega
  have HN := Lib.hid h; clear h
  cases hi : Agg.itemsOk l
  · have e : Agg.sOpsOk l size = false := by simp [Agg.sOpsOk, hi]
    rw [Agg.sOpsOut, e, if_neg (by simp)]
    go_enter Tryz.func30, Tryz.ntmps30
    go_wp2_with (first | (go_at_call 70; refine (areItems_any _ _ _ l _ (HN.out.below (by go_grown))).mono ?_; rintro e wk ⟨rfl, rfl⟩) | (go_at_call 72; refine (within_any _ _ _ _).mono ?_; rintro e wk ⟨rfl, rfl⟩))
    go_returns
    exact OpsOut.mk' (World.ownsRow_nil _ _ _ _) (Below.refl _ _)
  · by_cases hs : 1 ≤ size ∧ size ≤ 59
    · have e : Agg.sOpsOk l size = true := by simp [Agg.sOpsOk, hi, hs.1, hs.2]
      rw [Agg.sOpsOut, e, if_pos rfl]
      obtain ⟨s, rfl⟩ := Int.eq_ofNat_of_zero_le (show 0 ≤ size by omega)
      rw [Int.toNat_natCast, hll]
      have hlen := Agg.items_len hi
      obtain ⟨hs1, hs2⟩ := hs
      clear e
      go_enter Tryz.func30, Tryz.ntmps30
      go_wp2_with (first | (go_at_call 70; refine (areItems_any _ _ _ l _ (HN.out.below (by go_grown))).mono ?_; rintro e wk ⟨rfl, rfl⟩) | (go_at_call 72; refine (within_any _ _ _ _).mono ?_; rintro e wk ⟨rfl, rfl⟩))
      go_loopw [6, 19] (fun ov i wr => ∃ j q : Nat, j ≤ n ∧ q ≤ 2 * j ∧ i = .int .i64 j ∧ Hid (wr.ownsRow w.heap.size 90 2 ov q (opRow (Agg.sOps l s j))) ∧ Hid (Below w.heap.size w wr)) (fun _ i _ => n - (intOf i).toNat)
      case atStart => exact ⟨0, 0, Nat.zero_le _, Nat.zero_le _, rfl, World.ownsRow_nil _ _ _ _, Below.refl _ _⟩
      case round =>
        obtain ⟨j, q, hj, hq, rfl, ho, hw⟩ := hrel
        have hwr := hw.out.size
        by_cases hlt : j < n
        · rcases (HN.out.below hw.out).2.2.2 with h0 | ⟨b, off, rfl, hbw, hcs⟩
          · omega
          · have hck := hcs j hlt
            clear hcs
            obtain ⟨x, hx⟩ : ∃ x, x = l[j]?.getD 0 := ⟨_, rfl⟩
            have hst : Agg.sOps l s (j + 1) = if s ≤ j then Agg.sOps l s j ++ [(true, x)] ++ [(false, 0)] else Agg.sOps l s j ++ [(true, x)] := by rw [hx]; rfl
            rw [← hx] at hck
            have HST := Lib.hid hst
            clear hst hx
            have hj0 : (0 : Int) ≤ (j : Int) := by omega
            have hjn : (j : Int) < (n : Int) := by omega
            have hlt' : ∀ g, u6.ownBlock = some g → w.heap.size ≤ g := fun g hg => (ho.out.lt g hg).1
            have hn60 : n ≤ 60 := by omega
            by_cases hsj : s ≤ j
            · have hsj' : (s : Int) ≤ (j : Int) := by omega
              go_wp2_with (first | (at_builtin; refine wpList_append_own _ rfl (.tmp 24) (.tmp 27) 31 rfl w.heap.size 90 i0 (.agg #[.bool false, .int .i64 0]) 2 16 Tryz.underlying31 hi0 hz0 hz1 hz2 rfl (by decide) _ _ _ rfl (ho.out.alloc _) ⟨wr.heap.size, 0, none⟩ 1 1 [.bool true, .int .i64 x] rfl rfl (cell_two_new _ _ _ _) (two_oneCell _ _) (by unfold maxLen; omega) (by omega) (by simp; omega) ?_; intro v1 w1 hown1 hgrow1 hnil1; have HO1 := Lib.hid hown1; have HW1 := Lib.hid ((hw.out.alloc hw.out.size _).grown hgrow1 (by have := hw.out.size; simp; omega) hlt'); have hs1w := HW1.out.size; clear hown1 hgrow1 hnil1) | (at_builtin; refine wpList_append_own _ rfl (.tmp 32) (.tmp 34) 31 rfl w.heap.size 90 i0 (.agg #[.bool false, .int .i64 0]) 2 16 Tryz.underlying31 hi0 hz0 hz1 hz2 rfl (by decide) _ _ _ rfl (HO1.out.alloc _) ⟨w1.heap.size, 0, none⟩ 1 1 [.bool false, .int .i64 0] rfl rfl (cell_two_new _ _ _ _) (two_oneCell _ _) (by unfold maxLen; omega) (by omega) (by simp; omega) ?_; intro v2 w2 hown2 hgrow2 hnil2; have HO2 := Lib.hid hown2; have HW2 := Lib.hid ((HW1.out.alloc HW1.out.size _).grown hgrow2 (by have := HW1.out.size; simp; omega) (fun g hg => (HO1.out.lt g hg).1)); clear hown2 hgrow2 hnil2))
              go_roundw
              case rel =>
                refine ⟨j + 1, q + 1 + 1, by omega, by omega, by go_num, Lib.hid ?_, HW2⟩
                rw [HST.out, if_pos hsj, opRow_snoc, opRow_snoc]
                exact HO2.out
              case measure => simp [intOf]; omega
            · have hsj' : ¬ ((s : Int) ≤ (j : Int)) := by omega
              go_wp2_with (at_builtin; refine wpList_append_own _ rfl (.tmp 24) (.tmp 27) 31 rfl w.heap.size 90 i0 (.agg #[.bool false, .int .i64 0]) 2 16 Tryz.underlying31 hi0 hz0 hz1 hz2 rfl (by decide) _ _ _ rfl (ho.out.alloc _) ⟨wr.heap.size, 0, none⟩ 1 1 [.bool true, .int .i64 x] rfl rfl (cell_two_new _ _ _ _) (two_oneCell _ _) (by unfold maxLen; omega) (by omega) (by simp; omega) ?_; intro v1 w1 hown1 hgrow1 hnil1; have HO1 := Lib.hid hown1; have HW1 := Lib.hid ((hw.out.alloc hw.out.size _).grown hgrow1 (by have := hw.out.size; simp; omega) hlt'); clear hown1 hgrow1 hnil1)
              go_roundw
              case rel =>
                refine ⟨j + 1, q + 1, by omega, by omega, by go_num, Lib.hid ?_, HW1⟩
                rw [HST.out, if_neg hsj, opRow_snoc]
                exact HO1.out
              case measure => simp [intOf]; omega
        · obtain rfl : j = n := by omega
          have hlt2 : ¬ ((j : Int) < (j : Int)) := by omega
          go_wp2
          go_returns
          exact OpsOut.mk' ho.out hw.out
    · have e : Agg.sOpsOk l size = false := by simp [Agg.sOpsOk]; omega
      have hw : (decide (1 ≤ size) && decide (size ≤ 59)) = false := by simp; omega
      rw [Agg.sOpsOut, e, if_neg (by simp)]
      clear e hs
      go_enter Tryz.func30, Tryz.ntmps30
      go_wp2_with (first | (go_at_call 70; refine (areItems_any _ _ _ l _ (HN.out.below (by go_grown))).mono ?_; rintro e wk ⟨rfl, rfl⟩) | (go_at_call 72; refine (within_any _ _ _ _).mono ?_; rintro e wk ⟨rfl, rfl⟩))
      all_goals
        go_returns
        exact OpsOut.mk' (World.ownsRow_nil _ _ _ _) (Below.refl _ _)
end Go.Proofs.YtfmkjpbmaogjpaaGreat
