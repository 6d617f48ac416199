/-
  Lists of items that the model draws.
-/
import Derived.Test.YtohllpdmopofoaaGreatDk
import Derived.Test.YtohllpdmopofoaaGreatT
import Derived.Maps.AppendAt
namespace Go.Proofs.YtohllpdmopofoaaGreat
set_option linter.unusedSimpArgs false
set_option linter.unusedVariables false
open Go.RowKit

theorem Rd.kept' {w w' : World} {B c : Nat} {p : Int} {row : Option Nat} (h : Rd w B c p) (hg : w.grownBy w' row) (hr : ∀ k, row = some k → B ≤ k ∧ k ≠ c) : Rd w' B c p := by
  obtain ⟨h1, h2, h3, a, n, cap, l, h4, h5, h6⟩ := h
  refine ⟨h1, Nat.lt_of_lt_of_le h2 hg.size, h3, a, n, cap, l, (hg.block c h2 (fun e => (hr c e.symm).2 rfl)).trans h4, h5, ?_⟩
  rcases h6 with h6 | ⟨b, off, ha, hb, hc⟩
  · exact .inl h6
  · exact .inr ⟨b, off, ha, hb, fun i hi => ⟨(World.cell?_of_block (hg.block b (by omega) (fun e => by have := (hr b e.symm).1; omega))).trans (hc i hi).1, (hc i hi).2⟩⟩
theorem grown_new {a b d : World} {c : Nat} {row : Option Nat} (h : a.grownBy b (some c)) (k : b.grownBy d row) (hr : ∀ j, row = some j → a.heap.size ≤ j) : a.grownBy d (some c) :=
  ⟨k.os.trans h.os, k.tape.trans h.tape, k.output.trans h.output, Nat.le_trans h.size k.size, fun i hi hne => (k.block i (Nat.lt_of_lt_of_le hi h.size) (fun e => by have := hr i e.symm; omega)).trans (h.block i hi hne)⟩

/-- A list of items in new memory; the reader is some steps further. -/
def ListDrawn (most : Int) (B c : Nat) (p : Int) (w : World) (e : Ending) (w' : World) : Prop :=
  ∃ (v : Value) (n : Nat) (xs : List Int) (p' : Int), e = .returned v ∧ v ≠ .slice none 0 0 ∧ w'.ownsRow w.heap.size 3 1 v n (xs.map (Value.int .i64)) ∧ (n : Int) ≤ most ∧ (∀ x ∈ xs, 0 ≤ x ∧ x ≤ 96) ∧ p ≤ p' ∧ p' ≤ p + 1 + most ∧ Rd w' B c p' ∧ w.grownBy w' (some c)

set_option maxRecDepth 4000 in
set_option maxHeartbeats 2000000 in
theorem l1List_any (most : Int) (B c : Nat) (p : Int) (w : World) (h : Rd w B c p) (hp : p ≤ 900000) (hm0 : 0 ≤ most) (hm1 : most ≤ 100) :
    Calls Tryz.prog 50 #[.pointer (some ⟨c, 0, none⟩), .int .i64 most] w (ListDrawn most B c p w) := by
  obtain ⟨i0, hi, hz0, hz1, hz2⟩ := info_parts infoInt
  have hlt := h.2.1
  have hBc := h.1
  have HR := Lib.hid h; clear h
  go_enter Tryz.func50, Tryz.ntmps50
  go_wp2_with fail
  refine (pick_any _ B c p _ (HR.out.kept (World.grownBy_alloc _ _ _)) (by omega) (by omega)).mono ?_
  rintro e w1 ⟨m, rfl, hv0, hv1, -, hr, hg⟩
  have hmm := hv1 (by omega)
  have hown : w1.ownsRow w.heap.size 3 1 (.slice (some ⟨w.heap.size, 0, none⟩) 0 0) 0 (([] : List Int).map (Value.int .i64)) := by
    have h0 := World.ownsRow_made (base := w.heap.size) (e := 3) (size := 1) w #[] 0 (Nat.le_refl _) (by simp [maxLen]) (by simp)
    refine h0.kept (row := some c) hg (.inr ?_)
    intro e; simp [Value.ownBlock] at e; omega
  have HO := Lib.hid hown; clear hown
  have HR1 := Lib.hid hr; clear hr
  have HG := Lib.hid (grown_trans (grown_alloc (grown_refl w c) _) hg); clear hg
  clear hv1
  obtain ⟨mm, rfl⟩ := Int.eq_ofNat_of_zero_le hv0
  go_wp2
  go_loopw [5, 6] (fun ov i wr => ∃ (k n : Nat) (xs : List Int) (p' : Int), i = .int .i64 k ∧ ov ≠ .slice none 0 0 ∧ (n : Int) + k ≤ most ∧ Hid (wr.ownsRow w.heap.size 3 1 ov n (xs.map (Value.int .i64))) ∧ Hid (∀ x ∈ xs, 0 ≤ x ∧ x ≤ 96) ∧ p ≤ p' ∧ p' + k ≤ p + 1 + most ∧ Hid (Rd wr B c p') ∧ Hid (w.grownBy wr (some c))) (fun _ i _ => (intOf i).toNat)
  case atStart => exact ⟨mm, 0, [], p + 1, rfl, by simp, by omega, HO, by show ∀ x ∈ ([] : List Int), _; simp, by omega, by omega, HR1, HG⟩
  case round =>
    obtain ⟨k, n, xs, p', rfl, hov, hnk, ho, hxs, hpp, hpk, hr, hg⟩ := hrel
    have hwr := hg.out.size
    have hwn := hg.out.size
    by_cases hk : k = 0
    · subst hk
      go_wp2
      go_returns
      exact ⟨u5, n, xs, p', rfl, hov, ho.out, by omega, hxs.out, hpp, by omega, hr.out, hg.out⟩
    · go_wp2_with fail
      refine (num_any wr.heap.size 8 [3, 1, 0, 96, 7, 50, 2, 20] B c p' _ (hr.out.kept (World.grownBy_alloc _ _ _)) (by omega) (ListAt.new wr [3, 1, 0, 96, 7, 50, 2, 20] _) (by omega) (by decide) (by decide)).mono ?_
      rintro e w2 ⟨x, rfl, hx, hr2, hg2⟩
      have hx2 : 0 ≤ x ∧ x ≤ 96 := by simp at hx; omega
      have hs2 := hg2.size
      simp at hs2
      have hlt' : ∀ j, u5.ownBlock = some j → w.heap.size ≤ j := fun j hj => (ho.out.lt j hj).1
      have ho2 := (ho.out.alloc _).kept hg2 (.inr (fun e => by have := hlt' c e; omega))
      have HO2 := Lib.hid ho2; clear ho2
      have HR2 := Lib.hid hr2; clear hr2
      have HG2 := Lib.hid hg2; clear hg2
      go_wp2_with (at_builtin; refine wpList_append_own _ rfl (.tmp 16) (.tmp 20) 23 rfl w.heap.size 3 i0 (.int .i64 0) 1 8 Tryz.underlying23 hi hz0 hz1 hz2 rfl (by decide) _ _ _ rfl (HO2.out.alloc _) ⟨w2.heap.size, 0, none⟩ 1 1 [.int .i64 x] rfl rfl (cell_one_new _ _ _) (ints_oneCell .i64 [x]) (by unfold maxLen; omega) (by omega) (by simp; omega) ?_; intro v' w3 hown3 hgrow3 hnil3)
      go_roundw
      case rel =>
        have hs3 := hgrow3.size
        simp at hs3
        refine ⟨k - 1, n + 1, xs ++ [x], p' + 1, by go_num, fun hh => hov (hnil3.1 hh).1, by omega, ?_, ?_, by omega, by omega, ?_, ?_⟩
        · exact Lib.hid (by simpa using hown3)
        · refine Lib.hid (fun y hy => ?_)
          rcases List.mem_append.1 hy with hy | hy
          · exact hxs.out y hy
          · have := List.mem_singleton.1 hy; subst this; exact hx2
        · exact Lib.hid ((HR2.out.kept (World.grownBy_alloc _ _ _)).kept' hgrow3 (fun j hj => by have := hlt' j hj; omega))
        · exact Lib.hid (grown_new (grown_alloc (grown_trans (grown_alloc hg.out _) HG2.out) _) hgrow3 hlt')
      case measure => simp [intOf]; omega
end Go.Proofs.YtohllpdmopofoaaGreat
