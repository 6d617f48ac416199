/-
  Where windows begin and end, in the program.
-/
import Derived.Test.Ytofpnmjadflebaa9e
import Derived.Deep.DeepMust
namespace Go.Proofs.Ytofpnmjadflebaa
set_option linter.unusedSimpArgs false
set_option linter.unusedVariables false
open Go.RowKit
/-- Where the first j windows of a query begin and end. -/
def spansI (q : Int × Int) (j : Nat) : List (Int × Int) := (List.range j).map fun i => (((i * Agg.qH q : Nat) : Int), ((i * Agg.qH q + Agg.qS q : Nat) : Int))
theorem spansI_succ (q : Int × Int) (j : Nat) : spansI q (j + 1) = spansI q j ++ [(((j * Agg.qH q : Nat) : Int), ((j * Agg.qH q + Agg.qS q : Nat) : Int))] := by
  simp [spansI, List.range_succ]
theorem spansI_len (q : Int × Int) (j : Nat) : (spansI q j).length = j := by simp [spansI]
theorem spansI_at (q : Int × Int) {j i : Nat} (h : i < j) : (spansI q j)[i]?.getD (0, 0) = (((i * Agg.qH q : Nat) : Int), ((i * Agg.qH q + Agg.qS q : Nat) : Int)) := by
  simp [spansI, h]
/-- From a number on, the blocks of a world are as they were. -/
def Kept (lo : Nat) (w X : World) : Prop := w.heap.size ≤ X.heap.size ∧ ∀ g, lo ≤ g → g < w.heap.size → X.heap[g]? = w.heap[g]?
section
variable {w X Y : World} {lo : Nat}
theorem Kept.refl (lo : Nat) (w : World) : Kept lo w w := ⟨Nat.le_refl _, fun _ _ _ => rfl⟩
theorem Kept.call (h : Kept lo w X) (hb : Below X.heap.size X Y) : Kept lo w Y := ⟨Nat.le_trans h.1 hb.size, fun g h1 h2 => (hb.block g (Nat.lt_of_lt_of_le h2 h.1)).trans (h.2 g h1 h2)⟩
theorem Kept.drew (h : Kept lo w X) : Kept lo w X.drew := h
theorem Kept.set {c o : Nat} {u : Value} (h : Kept lo w X) (hc : c < lo) : Kept lo w (X.setCell ⟨c, o, none⟩ u) :=
  ⟨by simpa [World.setCell] using h.1, fun g h1 h2 => (Below.heap_setCell _ _ _ _ (by simp only; omega)).trans (h.2 g h1 h2)⟩
end
/-- A row of pairs of numbers of one's own, as a slice that is read as long as its block is kept. -/
theorem own_read {w : World} {base n : Nat} {T : TypeId} {v : Value} {l : List (Int × Int)} (h : w.ownsRow base T 2 v n (qryRow l)) : ∃ a cap, v = .slice a n cap ∧ ∀ X, Kept base w X → Qrs X a n cap l := by
  have hl : l.length = n := by have := h.1; rw [qryRow_length] at this; omega
  rcases h.2 with ⟨rfl, rfl⟩ | ⟨g, cap, cur, rfl, hb, hg, h1, h2, h3, h4⟩
  · exact ⟨none, 0, rfl, fun X _ => ⟨hl, Nat.le_refl _, by simp [maxLen], .inl rfl⟩⟩
  · have hlt := (Array.getElem?_eq_some_iff.1 hg).1
    refine ⟨_, cap, rfl, fun X hX => ⟨hl, h1, h2, .inr ⟨g, 0, rfl, Nat.lt_of_lt_of_le hlt hX.1, fun i hi => ?_⟩⟩⟩
    have hgX := (hX.2 g hb hlt).trans hg
    have hcell : ∀ j, j < n * 2 → X.cell? ⟨g, j, none⟩ = (qryRow l)[j]? := by
      intro j hj
      have : cur[j]? = (qryRow l)[j]? := by
        rw [← h4, List.getElem?_take, if_pos hj, Array.getElem?_toList]
      simp [World.cell?, hgX, this]
    have := qryRow_at l i (by omega)
    rw [Nat.zero_add, hcell _ (by omega), hcell _ (by omega)]
    exact this
theorem infoSp : (Try.prog.info? 63).map (fun i => (i.zero, i.size, i.bytes)) = some (some (.agg #[.int .i64 0, .int .i64 0]), 2, 16) := by kernel_rfl
set_option maxRecDepth 4000 in
set_option maxHeartbeats 2000000 in
theorem spansOf_any (S H n : Nat) (hq : Agg.qryOk ((S : Int), (H : Int)) = true) (hn : n ≤ 60) (w : World) :
    Calls Try.prog 36 #[.agg #[.int .i64 (S : Int), .int .i64 (H : Int)], .int .i64 (n : Int)] w fun e w' => ∃ v, e = .returned v ∧ w'.ownsRow w.heap.size 63 2 v (Agg.winsN n ((S : Int), (H : Int))) (qryRow (spansI ((S : Int), (H : Int)) (Agg.winsN n ((S : Int), (H : Int))))) ∧ Below w.heap.size w w' := by
  obtain ⟨i0, hi0, hz0, hz1, hz2⟩ := info_parts infoSp
  obtain ⟨-, -, hS1, hS2, hH1, hH2⟩ := Agg.q_cast hq
  simp only [Agg.qS, Agg.qH, Int.toNat_natCast] at hS1 hS2 hH1 hH2
  have hwc := Agg.wins_cast hq hn
  have hC := fun w => hopCount_any (n : Int) (S : Int) (H : Int) w
  have hok : Agg.hopOk (n : Int) (S : Int) (H : Int) = true := by
    simp only [Agg.hopOk, Bool.and_eq_true, decide_eq_true_eq]
    exact ⟨by omega, hq⟩
  have hA : Agg.hopA (n : Int) (S : Int) (H : Int) = (Agg.winsN n ((S : Int), (H : Int)) : Int) := by
    rw [Agg.hopA, hok, if_pos rfl]; exact hwc.1.symm
  rw [hok, hA] at hC
  have hsn := fun j => spansI_succ ((S : Int), (H : Int)) j
  simp only [Agg.qS, Agg.qH, Int.toNat_natCast] at hsn
  obtain ⟨M, hM⟩ : ∃ M, M = Agg.winsN n ((S : Int), (H : Int)) := ⟨_, rfl⟩
  rw [← hM] at hC hwc ⊢
  have hM60 := hwc.2
  obtain ⟨L, hL⟩ : ∃ L, L = spansI ((S : Int), (H : Int)) := ⟨_, rfl⟩
  rw [← hL] at hsn ⊢
  have hL0 : L 0 = [] := by rw [hL]; rfl
  have HC := Lib.hid hC
  have HSN := Lib.hid hsn
  have HL0 := Lib.hid hL0
  obtain ⟨W, hW⟩ : ∃ W, W = w.alloc (.cells #[.int .i64 (S : Int), .int .i64 (H : Int)] 28) := ⟨_, rfl⟩
  have HX := Lib.hid (show Box2h W w.heap.size 28 (S : Int) (H : Int) from by rw [hW]; exact Box2h.new _ _ _ _)
  have HB := Lib.hid (show Below w.heap.size w W from by rw [hW]; exact (Below.refl _ _).alloc (Nat.le_refl _) _)
  have hWs : w.heap.size < W.heap.size := HX.out.lt
  clear hC hok hA hsn hM hL hL0 hwc hq
  obtain ⟨q0, q1⟩ := HX.out.cells
  go_enter Try.func36, Try.ntmps36
  go_upto_region 1 with (fail)
  rw [← hW]
  clear hW
  go_wp2_with fail
  refine (HC.out _).mono ?_
  rintro e w1 ⟨rfl, rfl⟩
  clear q0 q1 HC
  go_wp2_with (at_make; go_must (refine wpList_make_own _ rfl _ _ 60 rfl W.heap.size 63 i0 (.agg #[.int .i64 0, .int .i64 0]) 2 Try.underlying60 hi0 hz0 hz1 .i64 .i64 _ M rfl rfl rfl ?b1 ?b2 ?b3 ?_))
  case b1 => rw [hz2]; omega
  case b2 => unfold maxLen; omega
  case b3 => exact Nat.le_refl _
  intro w2 hown hgrow
  have HO := Lib.hid (show w2.ownsRow W.heap.size 63 2 (.slice (some ⟨W.heap.size, 0, none⟩) 0 M) 0 (qryRow (L 0)) from by rw [HL0.out]; exact hown)
  have HX2 := Lib.hid (HX.out.below ((Below.refl W.heap.size W).grown hgrow (Nat.le_refl _) (fun k hk => by simp at hk)) hWs)
  have HB2 := Lib.hid (HB.out.grown hgrow HB.out.size (fun k hk => by simp at hk))
  have HS2 := Lib.hid (show W.heap.size ≤ w2.heap.size from hgrow.size)
  clear hown hgrow HX HB HL0
  go_wp2_with fail
  go_loopw [7, 22] (fun ov i wr => ∃ j : Nat, j ≤ M ∧ i = .int .i64 j ∧ Hid (wr.ownsRow W.heap.size 63 2 ov j (qryRow (L j))) ∧ Hid (Box2h wr w.heap.size 28 (S : Int) (H : Int)) ∧ Hid (W.heap.size ≤ wr.heap.size) ∧ Hid (Below w.heap.size w wr)) (fun _ i _ => M - (intOf i).toNat)
  case atStart => exact ⟨0, Nat.zero_le _, rfl, HO, HX2, HS2, HB2⟩
  case round =>
    obtain ⟨j, hj, rfl, ho, hx, hs, hw⟩ := hrel
    clear HO HX2 HS2 HB2
    by_cases hlt : j < M
    · obtain ⟨q0, q1⟩ := hx.out.cells
      have hk0 : (0 : Int) ≤ (j : Int) := Int.natCast_nonneg _
      have hkn : (j : Int) < (M : Int) := by omega
      obtain ⟨Pj, hP⟩ : ∃ Pj : Nat, Pj = j * H := ⟨_, rfl⟩
      have hP60 : Pj ≤ 60 * 60 := by rw [hP]; exact Nat.mul_le_mul (by omega) hH2
      have hPI : (j : Int) * (H : Int) = (Pj : Int) := by rw [hP]; simp
      have hw1 : IntKind.i64.wrap ((j : Int) * (H : Int)) = (Pj : Int) := by rw [hPI]; exact IntWalk.i64_in _ ⟨by omega, by omega⟩
      have hw2 : IntKind.i64.wrap ((Pj : Int) + (S : Int)) = (Pj : Int) + (S : Int) := IntWalk.i64_in _ ⟨by omega, by omega⟩
      have hrow : qryRow (L (j + 1)) = qryRow (L j) ++ [.int .i64 (Pj : Int), .int .i64 ((Pj : Int) + (S : Int))] := by
        rw [HSN.out, qryRow_snoc, hP]
        simp
      have HROW := Lib.hid hrow
      have hlt' : ∀ q, u7.ownBlock = some q → w.heap.size ≤ q := fun q hq => by have := (ho.out.lt q hq).1; omega
      have hlx : u7.ownBlock ≠ some w.heap.size := fun e => by have := (ho.out.lt _ e).1; omega
      clear hrow hP hPI
      go_wp2_with (at_builtin; go_must (refine wpList_append_own _ rfl (.tmp 29) (.tmp 36) 60 rfl W.heap.size 63 i0 (.agg #[.int .i64 0, .int .i64 0]) 2 16 Try.underlying60 hi0 hz0 hz1 hz2 rfl (by decide) _ _ _ rfl (ho.out.alloc _) ⟨wr.heap.size, 0, none⟩ 1 1 [.int .i64 (Pj : Int), .int .i64 ((Pj : Int) + (S : Int))] rfl rfl (cell_two_newQ _ _ _ _) (two_oneCellQ _ _) (by unfold maxLen; omega) (by omega) (by have := hs.out; simp; omega) ?_); intro v9 w9 hown9 hgrow9 hnil9; have HO9 := Lib.hid hown9; have HX9 := Lib.hid (show Box2h w9 w.heap.size 28 (S : Int) (H : Int) from (hgrow9.block _ (by have := hx.out.lt; simp; omega) (fun e => hlx e.symm)).trans (hx.out.call ((Below.refl _ _).alloc (Nat.le_refl _) _))); have HS9 := Lib.hid (show W.heap.size ≤ w9.heap.size from by have := hgrow9.size; have := hs.out; simp at *; omega); have HB9 := Lib.hid ((hw.out.alloc hw.out.size _).grown hgrow9 (by have := hw.out.size; simp; omega) hlt'); clear hown9 hgrow9 hnil9)
      go_roundw
      case rel =>
        refine ⟨j + 1, by omega, by go_num, Lib.hid ?_, HX9, HS9, HB9⟩
        rw [HROW.out]
        exact HO9.out
      case measure => simp [intOf]; omega
    · obtain rfl : j = M := by omega
      have hlt' : ¬ (j : Int) < (j : Int) := by omega
      go_wp2_with fail
      go_returns
      exact ⟨_, rfl, owns_lower ho.out (Nat.le_of_lt hWs), hw.out⟩
end Go.Proofs.Ytofpnmjadflebaa
