/-
  The model's queue: its places, the aggregates that it must have.
-/
import Derived.Test.Ytflmkojpblpofaa4p
import Derived.Deep.DeepMust
import Derived.Test.Ytflmkojpblpofaa4m
import Derived.Test.Ytflmkojpblpofaa3a
import Derived.Test.YtflmkojpblpofaaL
import Derived.Deep.RegionHeld3
import Derived.IntWalk
namespace Go.Proofs.Ytflmkojpblpofaa
set_option linter.unusedSimpArgs false
set_option linter.unusedVariables false
open Go.RowKit
theorem take_want (k : Int) (I : List Int) (l r a b : Int) (j : Nat) (h : j < I.length) : (Agg.wantAggs k I l r a b).take (j + 1) = (Agg.wantAggs k I l r a b).take j ++ [Agg.rowAgg k I l r a b j] := by
  have hj : j < (Agg.wantAggs k I l r a b).length := by rw [Agg.want_length]; exact h
  rw [List.take_succ_eq_append_getElem hj]
  have := Agg.want_at k I l r a b h
  simp only [List.getElem?_eq_getElem hj, Option.getD_some] at this
  rw [this]
set_option maxRecDepth 8000 in
set_option maxHeartbeats 8000000 in
theorem s_aggs_any (k : Int) (hk : Agg.isKind k = true) (ia : Option Addr) (m ic : Nat) (fa : Option Addr) (fn fc : Nat) (pl pr pa pb co : Int) (I : List Int) (w : World) (hI : Nums .i64 w ia m ic I) (hit : Agg.itemsOk I = true) (hp : Agg.placesOk m pl pr pa pb = true) :
    Calls Try.prog 27 #[.int .i64 k, .agg #[.slice ia m ic, .slice fa fn fc, .int .i64 pl, .int .i64 pr, .int .i64 pa, .int .i64 pb, .int .i64 co]] w fun e w' => ∃ v, e = .returned v ∧ OwnV w' w.heap.size w'.heap.size v m (Agg.wantAggs k I pl pr pa pb) ∧ Below w.heap.size w w' := by
  obtain ⟨i0, hi0, hz0, hz1, hz2⟩ := info_parts infoVal
  have hIl : I.length = m := hI.1
  have hic := hI.2.1
  have him := hI.2.2.1
  unfold maxLen at him
  have hm60 : m ≤ 60 := by have := Agg.items_len hit; omega
  have HI := Lib.hid hI
  have HIL := Lib.hid hIl
  have HIT := Lib.hid hit
  have HK := Lib.hid hk
  have HP := Lib.hid hp
  clear hI hIl hit hk hp
  go_enter Try.func27, Try.ntmps27
  go_wp2_with fail
  go_loopw [5, 6] (fun ov i wr => ∃ j : Nat, j ≤ m ∧ i = .int .i64 j ∧ Hid (wr.ownsRow (w.heap.size + 1) 48 3 ov j (valRow ((Agg.wantAggs k I pl pr pa pb).take j))) ∧ Hid (Below w.heap.size w wr) ∧ Hid (Box7 wr w.heap.size 25 (.slice ia m ic) (.slice fa fn fc) (.int .i64 pl) (.int .i64 pr) (.int .i64 pa) (.int .i64 pb) (.int .i64 co))) (fun _ i _ => m - (intOf i).toNat)
  case atStart => exact ⟨0, Nat.zero_le _, rfl, Lib.hid (by simpa [valRow] using World.ownsRow_made (base := w.heap.size + 1) (e := 48) (size := 3) (w.alloc (.cells #[.slice ia m ic, .slice fa fn fc, .int .i64 pl, .int .i64 pr, .int .i64 pa, .int .i64 pb, .int .i64 co] 25)) #[] 0 (by simp) (by simp [maxLen]) (by simp)), Lib.hid (((Below.refl _ _).alloc (Nat.le_refl _) _).alloc (by simp) _), Lib.hid ((Box7.new w _ _ _ _ _ _ _ _).alloc _)⟩
  case round =>
    obtain ⟨j, hj, rfl, ho, hw, hx⟩ := hrel
    have hwr := hw.out.size
    have hxl := hx.out.lt
    obtain ⟨q0, q1, q2, q3, q4, q5, q6⟩ := hx.out.cells
    by_cases hlt : j < m
    · rcases HI.out.2.2.2 with h4 | ⟨ib, ioff, rfl, hib, hics⟩
      · omega
      · clear hics
        have hpl := Agg.places_of HP.out (by omega)
        obtain ⟨bn, rfl⟩ := Int.eq_ofNat_of_zero_le (show 0 ≤ pb by omega)
        obtain ⟨rn, rfl⟩ := Int.eq_ofNat_of_zero_le (show 0 ≤ pr by omega)
        have hrow := Agg.row_in HP.out (i := (j : Int)) (by omega) (by omega)
        have hrm := Agg.row_model HP.out (i := (j : Int)) (by omega) (by omega)
        have hj0 : (0 : Int) ≤ (j : Int) := Int.natCast_nonneg _
        obtain ⟨lo, hlo⟩ := Int.eq_ofNat_of_zero_le hrow.1
        obtain ⟨hi, hhi⟩ := Int.eq_ofNat_of_zero_le (show 0 ≤ Agg.rowHi pl rn pa bn j by omega)
        have hpe : (I.drop lo).take (hi - lo) = Agg.part I (Agg.rowLo pl rn pa bn j) (Agg.rowHi pl rn pa bn j) := by rw [hlo, hhi, Agg.part]; congr 1; omega
        have hle : lo ≤ hi := by omega
        have hhm : hi ≤ m := by omega
        have hNS := Nums.sub_ HI.out (i := lo) (s := hi - lo) (by omega)
        obtain ⟨⟨X, Y, Z⟩, hV⟩ : ∃ V, V = Agg.rowAgg k I pl rn pa bn j := ⟨_, rfl⟩
        have hFO := fun w h => s_fold_all k HK.out (some ⟨ib, ioff + lo, none⟩) (hi - lo) (ic - lo) ((I.drop lo).take (hi - lo)) w h (by rw [hpe]; exact Agg.part_items HIT.out _ _)
        rw [show Agg.fold k ((I.drop lo).take (hi - lo)) = ⟨X, Y, Z⟩ by rw [hpe, hV]; rfl] at hFO
        have hst := take_want k I pl rn pa bn j (by have := HIL.out; omega)
        rw [← hV] at hst
        have HNS := Lib.hid hNS
        have HFO := Lib.hid hFO
        have HST := Lib.hid hst
        rw [hlo, hhi] at hrm
        clear hNS hFO hst hV hpe hlo hhi hrow
        obtain g | g | g | g | g : ((bn : Int) ≤ j ∧ bn = lo ∧ (j : Int) + 1 = (hi : Int)) ∨ ((j : Int) < bn ∧ pl ≤ j ∧ (j : Int) < rn ∧ j = lo ∧ rn = hi) ∨ ((j : Int) < bn ∧ pl ≤ j ∧ (rn : Int) ≤ j ∧ (j : Int) < pa ∧ rn = lo ∧ (j : Int) + 1 = (hi : Int)) ∨ ((j : Int) < bn ∧ (j : Int) < pl ∧ (j : Int) < rn ∧ j = lo ∧ bn = hi) ∨ ((j : Int) < bn ∧ pl ≤ j ∧ (rn : Int) ≤ j ∧ pa ≤ (j : Int) ∧ j = lo ∧ bn = hi) := by
          obtain ⟨hr1, hr2⟩ := hrm
          repeat' split at hr1
          all_goals repeat' split at hr2
          all_goals omega
        all_goals
          clear hrm hpl
          (try (obtain ⟨g1, g⟩ := g)); (try (obtain ⟨g2, g⟩ := g)); (try (obtain ⟨g3, g⟩ := g)); (try (obtain ⟨g4, g⟩ := g)); (try (obtain ⟨g5, g⟩ := g))
          (try subst g2); (try subst g4); (try subst g5); (try subst g)
          go_wp2_with fail
          refine (HFO.out _ (HNS.out.below hw.out)).mono ?_
          rintro e w2 ⟨rfl, hb2⟩
          have hs2' := hb2.size
          have HO2 := Lib.hid (ho.out.kept (Below.grownNone hb2 none) (by cases hv : u5.ownBlock <;> simp))
          have HW2 := Lib.hid (hw.out.trans (hb2.mono hwr))
          have HX2 := Lib.hid (hx.out.call hb2)
          have hlt' : ∀ q, u5.ownBlock = some q → w.heap.size + 1 ≤ q := fun q hq => (ho.out.lt q hq).1
          clear hb2 q0 q1 q2 q3 q4 q5 q6
          go_wp2_with (at_builtin; go_must (refine wpList_append_own _ rfl (.tmp 57) (.tmp 65) 23 rfl (w.heap.size + 1) 48 i0 (.agg #[.int .i64 0, .int .i64 0, .int .i64 0]) 3 24 Try.underlying23 hi0 hz0 hz1 hz2 rfl (by decide) _ _ _ rfl (HO2.out.alloc _) ⟨w2.heap.size, 0, none⟩ 1 1 [.int .i64 X, .int .i64 Y, .int .i64 Z] rfl rfl (cell_three_new _ _ _ _ _) (three_oneCell X Y Z) (by unfold maxLen; omega) (by omega) (by simp; omega) ?_); intro v' w3 hown3 hgrow3 hnil3; have HO3 := Lib.hid hown3; have HW3 := Lib.hid ((HW2.out.alloc HW2.out.size _).grown hgrow3 (by have := HW2.out.size; simp; omega) (fun q hq => by have := hlt' q hq; omega)); have HX3 := Lib.hid ((HX2.out.alloc _).grown hgrow3 (fun e => by have := hlt' _ e; omega)); clear hown3 hgrow3 hnil3)
          go_roundw
          case rel =>
            refine ⟨j + 1, by omega, by first | go_num | (simp; omega), Lib.hid ?_, HW3, HX3⟩
            rw [HST.out, valRow_snoc]
            exact HO3.out
          case measure => simp [intOf]; omega
    · obtain rfl : j = m := by omega
      have hall : (Agg.wantAggs k I pl pr pa pb).take j = Agg.wantAggs k I pl pr pa pb := List.take_of_length_le (by rw [Agg.want_length]; have := HIL.out; omega)
      have ho2 := ho.out
      rw [hall] at ho2
      have HO2 := Lib.hid ho2
      clear ho2 hall
      go_wp2
      go_returns
      exact ⟨_, rfl, OwnV.of4 HO2.out (by omega) hw.out.size, hw.out⟩
end Go.Proofs.Ytflmkojpblpofaa
