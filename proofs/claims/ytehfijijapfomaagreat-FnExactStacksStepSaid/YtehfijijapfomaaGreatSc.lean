import Derived.Test.YtehfijijapfomaaGreatRw
import Derived.Test.YtehfijijapfomaaGreat3n
import Derived.Test.YtehfijijapfomaaGreatSa
import Derived.Test.YtehfijijapfomaaGreat2c
import Derived.Deep.RegionHeld3
import Derived.Deep.DeepCutAuto
/-
  Worlds that are later than one; worlds in which only blocks between two numbers have been written.
-/
namespace Go.Proofs.YtehfijijapfomaaGreat
set_option linter.unusedSimpArgs false
set_option linter.unusedVariables false
open Go.RowKit
/-- Below the blocks of the world W nothing has changed, and there are no fewer blocks. -/
def Snc (W X : World) : Prop := Below W.heap.size W X ∧ W.heap.size ≤ X.heap.size
theorem Snc.refl (W : World) : Snc W W := ⟨Below.refl _ _, Nat.le_refl _⟩
theorem Snc.call {W X Y : World} (h : Snc W X) (hb : Below X.heap.size X Y) : Snc W Y := ⟨h.1.trans (hb.mono h.2), Nat.le_trans h.2 hb.size⟩
theorem Snc.alloc {W X : World} (h : Snc W X) (o : Obj) : Snc W (X.alloc o) := h.call ((Below.refl _ _).alloc (Nat.le_refl _) _)
theorem Snc.drew {W X : World} (h : Snc W X) : Snc W X.drew := h.call (Below.refl _ _).drew
theorem Snc.cell {W X : World} {b o : Nat} {u : Value} (h : Snc W X) (q : W.cell? ⟨b, o, none⟩ = some u) (hb : b < W.heap.size) : X.cell? ⟨b, o, none⟩ = some u := (h.1.cell (p := ⟨b, o, none⟩) hb).trans q
theorem Snc.set {W X : World} (h : Snc W X) {c : Nat} (hc : W.heap.size ≤ c) (o : Nat) (u : Value) : Snc W (X.setCell ⟨c, o, none⟩ u) :=
  ⟨h.1.setCell hc _, by have := (h.1.setCell (p := ⟨c, o, none⟩) hc u).size; exact this⟩
/-- Only blocks from lo on and below hi may have been written, of those that were there. -/
def Touch (lo hi : Nat) (W X : World) : Prop := X.os = W.os ∧ X.tape = W.tape ∧ X.output = W.output ∧ W.heap.size ≤ X.heap.size ∧ ∀ k, k < W.heap.size → (k < lo ∨ hi ≤ k) → X.heap[k]? = W.heap[k]?
theorem Touch.below {lo hi B : Nat} {w W X : World} (h : Touch lo hi W X) (hb : Below B w W) (hB : B ≤ w.heap.size) (hl : B ≤ lo) : Below B w X :=
  hb.trans ⟨h.1, h.2.1, h.2.2.1, h.2.2.2.1, fun k hk => h.2.2.2.2 k (by have := hb.size; omega) (.inl (by omega))⟩
theorem Touch.of {lo hi : Nat} {W X : World} {row : Option Nat} (h : W.grownBy X row) (hr : ∀ g, row = some g → lo ≤ g ∧ g < hi) : Touch lo hi W X :=
  ⟨h.os, h.tape, h.output, h.size, fun k hk ho => h.block k hk (fun e => by have := hr k e.symm; omega)⟩
theorem Touch.trans {lo hi : Nat} {W X Y : World} (h : Touch lo hi W X) (k : Touch lo hi X Y) : Touch lo hi W Y :=
  ⟨k.1.trans h.1, k.2.1.trans h.2.1, k.2.2.1.trans h.2.2.1, Nat.le_trans h.2.2.2.1 k.2.2.2.1, fun i hi ho => (k.2.2.2.2 i (Nat.lt_of_lt_of_le hi h.2.2.2.1) ho).trans (h.2.2.2.2 i hi ho)⟩
theorem Touch.call {lo hi : Nat} {W X Y : World} (h : Touch lo hi W X) (hb : Below X.heap.size X Y) : Touch lo hi W Y :=
  h.trans ⟨hb.os, hb.tape, hb.output, hb.size, fun k hk _ => hb.block k hk⟩
theorem touch_block {lo hi c : Nat} {W X : World} {b : Obj} (h : W.heap[c]? = some b) (ht : Touch lo hi W X) (hd : c < lo ∨ hi ≤ c) : X.heap[c]? = some b := (ht.2.2.2.2 c (Array.getElem?_eq_some_iff.1 h).1 hd).trans h
theorem Touch.refl (lo hi : Nat) (W : World) : Touch lo hi W W := ⟨rfl, rfl, rfl, Nat.le_refl _, fun _ _ _ => rfl⟩
theorem own_touch {W X : World} {lo hi base e sz n : Nat} {v : Value} {xs : List Value} (h : W.ownsRow base e sz v n xs) (ht : Touch lo hi W X) (hv : ∀ g, v.ownBlock = some g → g < lo ∨ hi ≤ g) : X.ownsRow base e sz v n xs := by
  obtain ⟨h1, h2⟩ := h
  refine ⟨h1, ?_⟩
  rcases h2 with h2 | ⟨g, cap, cur, hvv, hlo, hg, rest⟩
  · exact .inl h2
  · refine .inr ⟨g, cap, cur, hvv, hlo, ?_, rest⟩
    rw [ht.2.2.2.2 g (Array.getElem?_eq_some_iff.1 hg).1 (hv g (by rw [hvv]; rfl))]
    exact hg
theorem OwnR.touch {W X : World} {lo hi lo' hi' n : Nat} {v : Value} {l : List Int} (h : OwnR W lo' hi' v n l) (ht : Touch lo hi W X) (hd : hi' ≤ lo ∨ hi ≤ lo') : OwnR X lo' hi' v n l := by
  obtain ⟨h1, h2, h3, h4⟩ := h
  exact ⟨own_touch h1 ht (fun g hg => by have := h4 g hg; have := (h1.lt g hg).1; omega), h2, Nat.le_trans h3 ht.2.2.2.1, h4⟩
set_option maxHeartbeats 1000000 in
theorem markIntS_big {lo hi n : Nat} {v : Value} {l : List Int} (w : World) (k : Int) (h : OwnR w lo hi v n l) (hk0 : 0 ≤ k) (hk1 : k ≤ 100000000) (hn : n ≤ 1048576) :
    Calls Tryz.prog 22 #[v, .int .i64 k] w fun e w' => e = .returned (.int .i64 (k + n)) ∧ OwnR w' lo hi v n (seq k n) ∧ w.grownBy w' v.ownBlock := by
  have hl : l.length = n := by have := h.1.1; simpa using this
  obtain ⟨h1, h2, h3, h4⟩ := h
  rcases h1.2 with ⟨rfl, rfl⟩ | ⟨g, cap, cur, rfl, hlo, hg, hnc, hcm, -, -⟩
  · go_enter Tryz.func22, Tryz.ntmps22
    go_wp2
    go_loopw [1, 5] (fun kv i wr => kv = .int .i64 k ∧ i = .int .i64 0 ∧ wr = w) (fun _ i _ => 0)
    case atStart => exact ⟨rfl, rfl, rfl⟩
    case round =>
      obtain ⟨rfl, rfl, rfl⟩ := hrel
      go_wp2
      go_returns
      exact ⟨by simp, ⟨⟨by simp [seq], .inl ⟨rfl, rfl⟩⟩, h2, h3, h4⟩, ⟨rfl, rfl, rfl, Nat.le_refl _, fun _ _ _ => rfl⟩⟩
  · unfold maxLen at hcm
    have H1 := Lib.hid h1; clear h1 hg
    have HL := Lib.hid hl; clear hl
    have hgw : g < w.heap.size := by have := h4 g rfl; omega
    have HB := Lib.hid (show w.grownBy w (some g) from ⟨rfl, rfl, rfl, Nat.le_refl _, fun _ _ _ => rfl⟩)
    have H1' := Lib.hid (show w.ownsRow lo 3 1 (.slice (some ⟨g, 0, none⟩) n cap) n ((marked k l 0).map (Value.int .i64)) by rw [marked_zero]; exact H1.out)
    have H4 := Lib.hid h4; clear h4
    clear H1
    go_enter Tryz.func22, Tryz.ntmps22
    go_wp2
    go_loopw [1, 5] (fun kv i wr => ∃ j : Nat, j ≤ n ∧ i = .int .i64 j ∧ kv = .int .i64 (k + j) ∧ Hid (wr.ownsRow lo 3 1 (.slice (some ⟨g, 0, none⟩) n cap) n ((marked k l j).map (Value.int .i64))) ∧ Hid (w.grownBy wr (some g))) (fun _ i _ => n - (intOf i).toNat)
    case atStart => exact ⟨0, Nat.zero_le _, rfl, by simp, H1', HB⟩
    case round =>
      obtain ⟨j, hj, rfl, rfl, HR, HG⟩ := hrel
      clear H1' HB
      by_cases hlt : j < n
      · have hst := marked_set k l j (by have := HL.out; omega)
        have HST := Lib.hid hst; clear hst
        have hfr := HR.out.frozenAt j
        have hcd : ∃ y, wr.cell? ⟨g, j, none⟩ = some y := by
          have hh := HR.out.cellAt j (by omega)
          have hlen : j < ((marked k l j).map (Value.int .i64)).length := by rw [HR.out.1]; omega
          exact ⟨_, hh.trans (List.getElem?_eq_getElem hlen)⟩
        obtain ⟨y, hcd⟩ := hcd
        have hk0' : (0 : Int) ≤ (j : Int) := Int.natCast_nonneg _
        have hkn : (j : Int) < (n : Int) := by omega
        go_wp2
        go_roundw
        case rel =>
          refine ⟨j + 1, by omega, by go_num, by go_num, ?_, ?_⟩
          · have hs := HR.out.stored j (Value.int .i64 (k + j))
            rw [← List.map_set, HST.out] at hs
            exact hs.1
          · exact ⟨HG.out.os, HG.out.tape, HG.out.output, by have := HG.out.size; simpa [World.setCell] using this, fun i hi hne => (Below.heap_setCell _ _ _ _ (by show i ≠ g; intro e; exact hne (by rw [e]))).trans (HG.out.block i hi hne)⟩
        case measure => simp [intOf]; omega
      · obtain rfl : j = n := by omega
        go_wp2
        go_returns
        refine ⟨rfl, ⟨?_, h2, Nat.le_trans h3 HG.out.size, H4.out⟩, HG.out⟩
        have := HR.out
        rw [← HL.out, marked_all, HL.out] at this
        exact this

set_option maxHeartbeats 1000000 in
theorem heldIntS_big {lo hi n : Nat} {v : Value} (w : World) (k : Int) (h : OwnR w lo hi v n (seq k n)) (hk0 : 0 ≤ k) (hk1 : k ≤ 100000000) (hn : n ≤ 1048576) :
    Calls Tryz.prog 23 #[v, .int .i64 k] w fun e w' => e = .returned (.int .i64 (k + n)) ∧ Below w.heap.size w w' := by
  obtain ⟨a, cap, rfl, hN, -⟩ := h.nums
  have hcm : cap ≤ 9223372036854775807 := by have := hN.2.2.1; unfold maxLen at this; omega
  have hnc := hN.2.1
  have H4 := Lib.hid hN.2.2.2
  clear hN h
  go_enter Tryz.func23, Tryz.ntmps23
  go_wp2
  go_loopw [1, 5] (fun kv i wr => ∃ j : Nat, j ≤ n ∧ i = .int .i64 j ∧ kv = .int .i64 (k + j) ∧ Hid (Below w.heap.size w wr)) (fun _ i _ => n - (intOf i).toNat)
  case atStart => exact ⟨0, Nat.zero_le _, rfl, by simp, Below.refl _ _⟩
  case round =>
    obtain ⟨j, hj, rfl, rfl, HW⟩ := hrel
    by_cases hlt : j < n
    · rcases H4.out with h4 | ⟨b, off, rfl, hb, hcs⟩
      · omega
      · have hck := (HW.out.cell (p := ⟨b, off + j, none⟩) hb).trans (hcs j hlt)
        rw [seq_at k n j hlt] at hck
        clear hcs
        have hk0' : (0 : Int) ≤ (j : Int) := Int.natCast_nonneg _
        have hkn : (j : Int) < (n : Int) := by omega
        go_wp2
        go_roundw
        case rel => exact ⟨j + 1, by omega, by go_num, by go_num, HW.out⟩
        case measure => simp [intOf]; omega
    · obtain rfl : j = n := by omega
      go_wp2
      go_returns
      exact ⟨rfl, HW.out⟩
end Go.Proofs.YtehfijijapfomaaGreat

/-
  Two stacks as the exact laws mark and hold them; an answer in a variable of its own.
-/
namespace Go.Proofs.YtehfijijapfomaaGreat
set_option linter.unusedSimpArgs false
set_option linter.unusedVariables false
open Go.RowKit
theorem OwnV.touch {W X : World} {lo hi lo' hi' n : Nat} {v : Value} {l : List Agg.V} (h : OwnV W lo' hi' v n l) (ht : Touch lo hi W X) (hd : hi' ≤ lo ∨ hi ≤ lo') : OwnV X lo' hi' v n l := by
  obtain ⟨h1, h2, h3, h4⟩ := h
  exact ⟨own_touch h1 ht (fun g hg => by have := h4 g hg; have := (h1.lt g hg).1; omega), h2, Nat.le_trans h3 ht.2.2.2.1, h4⟩
theorem StkOwn.touch {W X : World} {lo hi lo' hi' : Nat} {v : Value} {s : Agg.S} (h : StkOwn W lo' hi' v s) (ht : Touch lo hi W X) (hd : hi' ≤ lo ∨ hi ≤ lo') : StkOwn X lo' hi' v s := by
  obtain ⟨fv, iv, hv, h1, h2⟩ := h
  exact ⟨fv, iv, hv, h1.touch ht hd, h2.touch ht hd⟩
/-- Marked stacks. -/
def markS (k : Int) (s : Agg.S) : Agg.S := ⟨seqV k s.front.length, seq (k + 3 * s.front.length) s.items.length, s.back, s.flips, s.cost⟩
def markN (s : Agg.S) : Int := 3 * (s.front.length : Int) + (s.items.length : Int)
set_option maxHeartbeats 2000000 in
theorem markStacks_own {lo hi : Nat} {v : Value} {s : Agg.S} (w : World) (k : Int) (h : StkOwn w lo hi v s) (hk0 : 0 ≤ k) (hk1 : k ≤ 1000) (hn : s.front.length + s.items.length ≤ 1048576) :
    Calls Tryz.prog 29 #[v, .int .i64 k] w fun e w' => e = .returned (.int .i64 (k + markN s)) ∧ StkOwn w' lo hi v (markS k s) ∧ Touch lo hi w w' := by
  rw [show k + markN s = k + 3 * (s.front.length : Int) + (s.items.length : Int) from by unfold markN; omega]
  obtain ⟨fv, iv, rfl, h1, h2⟩ := h
  obtain ⟨fa, fc, rfl⟩ := e_ownsRow_slice h1.1
  obtain ⟨ia, ic, rfl⟩ := e_ownsRow_slice h2.1
  have hlo := h1.2.1
  have hhi := h1.2.2.1
  have hb0 : Below w.heap.size w (w.alloc (.cells #[.slice fa s.front.length fc, .slice ia s.items.length ic, .int .i64 s.back.x, .int .i64 s.back.y, .int .i64 s.back.z, .int .i64 s.flips, .int .i64 s.cost] 58)) := (Below.refl _ _).alloc (Nat.le_refl _) _
  have HX := Lib.hid (Box7.new w 58 (.slice fa s.front.length fc) (.slice ia s.items.length ic) (.int .i64 s.back.x) (.int .i64 s.back.y) (.int .i64 s.back.z) (.int .i64 s.flips) (.int .i64 s.cost))
  have H1 := Lib.hid (h1.below hb0)
  have H2 := Lib.hid (h2.below hb0)
  have HT := Lib.hid ((Touch.refl lo hi w).call hb0)
  have HM1 := Lib.hid (fun w h => markValueS_own w k (lo := lo) (hi := hi) (n := s.front.length) (v := .slice fa s.front.length fc) (l := s.front) h hk0 (by omega) (by omega))
  have HM2 := Lib.hid (fun w h => markIntS_big w (k + 3 * (s.front.length : Int)) (lo := lo) (hi := hi) (n := s.items.length) (v := .slice ia s.items.length ic) (l := s.items) h (by omega) (by omega) (by omega))
  have HLH := Lib.hid (show lo ≤ hi ∧ hi ≤ w.heap.size from ⟨hlo, hhi⟩)
  clear h1 h2 hb0 hlo hhi hn
  go_enter Tryz.func29, Tryz.ntmps29
  go_wp2_with fail
  refine (HM1.out _ H1.out).mono ?_
  rintro e w1 ⟨rfl, r1, hg1⟩
  have hne1 : (Value.slice fa s.front.length fc).ownBlock ≠ some w.heap.size := fun e => by have := H1.out.2.2.2 _ e; have := HLH.out.2; omega
  have HX1 := Lib.hid (show Box7 w1 w.heap.size 58 (.slice fa s.front.length fc) (.slice ia s.items.length ic) (.int .i64 s.back.x) (.int .i64 s.back.y) (.int .i64 s.back.z) (.int .i64 s.flips) (.int .i64 s.cost) from HX.out.grown hg1 hne1)
  have HT1 := Lib.hid (HT.out.trans (Touch.of hg1 (fun g hg => ⟨(H1.out.1.lt g hg).1, H1.out.2.2.2 g hg⟩)))
  have hap := rows_apart H2.out.1 H1.out.1 (by decide)
  have HR2 := Lib.hid (show OwnR w1 lo hi (.slice ia s.items.length ic) s.items.length s.items from ⟨H2.out.1.kept hg1 hap, H2.out.2.1, Nat.le_trans H2.out.2.2.1 hg1.size, H2.out.2.2.2⟩)
  have HR1 := Lib.hid r1
  clear r1 hg1 hne1 hap
  obtain ⟨q0, q1, q2, q3, q4, q5, q6⟩ := HX1.out.cells
  go_wp2_with fail
  refine (HM2.out _ HR2.out).mono ?_
  rintro e w2 ⟨rfl, r2, hg2⟩
  have hap := rows_apart HR1.out.1 HR2.out.1 (by decide)
  have HT2 := Lib.hid (HT1.out.trans (Touch.of hg2 (fun g hg => ⟨(HR2.out.1.lt g hg).1, HR2.out.2.2.2 g hg⟩)))
  have HV1 := Lib.hid (show OwnV w2 lo hi (.slice fa s.front.length fc) s.front.length (seqV k s.front.length) from ⟨HR1.out.1.kept hg2 hap, HR1.out.2.1, Nat.le_trans HR1.out.2.2.1 hg2.size, HR1.out.2.2.2⟩)
  have HV2 := Lib.hid r2
  clear r2 hg2 hap
  go_wp2_with fail
  go_returns
  refine ⟨rfl, ⟨_, _, rfl, ?_, ?_⟩, HT2.out⟩
  · have := HV1.out; simpa [markS, seqV_length] using this
  · have := HV2.out; simpa [markS, seq_length] using this
set_option maxHeartbeats 2000000 in
theorem heldStacks_own {lo hi : Nat} {v : Value} {s : Agg.S} (w : World) (k : Int) (h : StkOwn w lo hi v (markS k s)) (hk0 : 0 ≤ k) (hk1 : k ≤ 1000) (hn : s.front.length + s.items.length ≤ 1048576) :
    Calls Tryz.prog 30 #[v, .int .i64 k] w fun e w' => e = .returned (.int .i64 (k + markN s)) ∧ Below w.heap.size w w' := by
  rw [show k + markN s = k + 3 * (s.front.length : Int) + (s.items.length : Int) from by unfold markN; omega]
  obtain ⟨fv, iv, rfl, h1, h2⟩ := h
  simp only [markS, seqV_length, seq_length] at h1 h2
  obtain ⟨fa, fc, rfl⟩ := e_ownsRow_slice h1.1
  obtain ⟨ia, ic, rfl⟩ := e_ownsRow_slice h2.1
  have hb0 : Below w.heap.size w (w.alloc (.cells #[.slice fa s.front.length fc, .slice ia s.items.length ic, .int .i64 s.back.x, .int .i64 s.back.y, .int .i64 s.back.z, .int .i64 s.flips, .int .i64 s.cost] 58)) := (Below.refl _ _).alloc (Nat.le_refl _) _
  have HX := Lib.hid (Box7.new w 58 (.slice fa s.front.length fc) (.slice ia s.items.length ic) (.int .i64 s.back.x) (.int .i64 s.back.y) (.int .i64 s.back.z) (.int .i64 s.flips) (.int .i64 s.cost))
  have H1 := Lib.hid (h1.below hb0)
  have H2 := Lib.hid (h2.below hb0)
  have HB := Lib.hid hb0
  have HM1 := Lib.hid (fun w h => heldValueS_own w k (lo := lo) (hi := hi) (n := s.front.length) (v := .slice fa s.front.length fc) h hk0 (by omega) (by omega))
  have HM2 := Lib.hid (fun w h => heldIntS_big w (k + 3 * (s.front.length : Int)) (lo := lo) (hi := hi) (n := s.items.length) (v := .slice ia s.items.length ic) h (by omega) (by omega) (by omega))
  have hneg : ¬ (k + 3 * (s.front.length : Int) < 0) := by omega
  have hneg2 : ¬ (k + 3 * (s.front.length : Int) + (s.items.length : Int) < 0) := by omega
  clear h1 h2 hb0 hn
  go_enter Tryz.func30, Tryz.ntmps30
  go_wp2_with fail
  refine (HM1.out _ H1.out).mono ?_
  rintro e w1 ⟨rfl, hb1⟩
  have HX1 := Lib.hid (HX.out.call hb1)
  have HR2 := Lib.hid (H2.out.below hb1)
  have HB1 := Lib.hid (HB.out.trans (hb1.mono HB.out.size))
  obtain ⟨q0, q1, q2, q3, q4, q5, q6⟩ := HX1.out.cells
  clear hb1
  go_wp2_with fail
  refine (HM2.out _ HR2.out).mono ?_
  rintro e w2 ⟨rfl, hb2⟩
  have HB2 := Lib.hid (HB1.out.trans (hb2.mono HB1.out.size))
  clear hb2
  go_wp2_with fail
  go_returns
  exact ⟨rfl, HB2.out⟩
/-- An answer in a variable of its own, between two numbers; its rows lie elsewhere between them. -/
def StkAns (lb ub : Nat) (X : World) (c : Nat) (s : Agg.S) : Prop :=
  ∃ (lo hi : Nat) (fa : Option Addr) (fc : Nat) (ia : Option Addr) (ic : Nat), lb ≤ lo ∧ hi ≤ ub ∧ lb ≤ c ∧ c < ub ∧ (c < lo ∨ hi ≤ c) ∧ ub ≤ X.heap.size ∧ Box7 X c 58 (.slice fa s.front.length fc) (.slice ia s.items.length ic) (.int .i64 s.back.x) (.int .i64 s.back.y) (.int .i64 s.back.z) (.int .i64 s.flips) (.int .i64 s.cost) ∧ StkOwn X lo hi (.agg #[.slice fa s.front.length fc, .slice ia s.items.length ic, .int .i64 s.back.x, .int .i64 s.back.y, .int .i64 s.back.z, .int .i64 s.flips, .int .i64 s.cost]) s
theorem StkAns.new {lb : Nat} {Y : World} {lo hi : Nat} {fa : Option Addr} {fc : Nat} {ia : Option Addr} {ic : Nat} {s : Agg.S} (hl : lb ≤ lo) (hlo : lo ≤ hi) (hh : hi ≤ Y.heap.size) (ho : StkOwn Y lo hi (.agg #[.slice fa s.front.length fc, .slice ia s.items.length ic, .int .i64 s.back.x, .int .i64 s.back.y, .int .i64 s.back.z, .int .i64 s.flips, .int .i64 s.cost]) s) : StkAns lb (Y.alloc (.cells #[.slice fa s.front.length fc, .slice ia s.items.length ic, .int .i64 s.back.x, .int .i64 s.back.y, .int .i64 s.back.z, .int .i64 s.flips, .int .i64 s.cost] 58)).heap.size (Y.alloc (.cells #[.slice fa s.front.length fc, .slice ia s.items.length ic, .int .i64 s.back.x, .int .i64 s.back.y, .int .i64 s.back.z, .int .i64 s.flips, .int .i64 s.cost] 58)) Y.heap.size s :=
  ⟨lo, hi, fa, fc, ia, ic, hl, by simp; omega, by omega, by simp, .inr hh, Nat.le_refl _, Box7.new _ _ _ _ _ _ _ _ _, ho.below ((Below.refl _ _).alloc (Nat.le_refl _) _)⟩
theorem StkAns.set {lb : Nat} {X : World} {lo hi c : Nat} {fa : Option Addr} {fc : Nat} {ia : Option Addr} {ic : Nat} {s : Agg.S} {u0 u1 u2 u3 u4 u5 u6 : Value} (hc : lb ≤ c) (hcl : c < lo) (hh : hi ≤ X.heap.size) (hb : Box7 X c 58 u0 u1 u2 u3 u4 u5 u6) (ho : StkOwn X lo hi (.agg #[.slice fa s.front.length fc, .slice ia s.items.length ic, .int .i64 s.back.x, .int .i64 s.back.y, .int .i64 s.back.z, .int .i64 s.flips, .int .i64 s.cost]) s) :
    StkAns lb (((((((X.setCell ⟨c, 0, none⟩ (.slice fa s.front.length fc)).setCell ⟨c, 1, none⟩ (.slice ia s.items.length ic)).setCell ⟨c, 2, none⟩ (.int .i64 s.back.x)).setCell ⟨c, 3, none⟩ (.int .i64 s.back.y)).setCell ⟨c, 4, none⟩ (.int .i64 s.back.z)).setCell ⟨c, 5, none⟩ (.int .i64 s.flips)).setCell ⟨c, 6, none⟩ (.int .i64 s.cost)).heap.size (((((((X.setCell ⟨c, 0, none⟩ (.slice fa s.front.length fc)).setCell ⟨c, 1, none⟩ (.slice ia s.items.length ic)).setCell ⟨c, 2, none⟩ (.int .i64 s.back.x)).setCell ⟨c, 3, none⟩ (.int .i64 s.back.y)).setCell ⟨c, 4, none⟩ (.int .i64 s.back.z)).setCell ⟨c, 5, none⟩ (.int .i64 s.flips)).setCell ⟨c, 6, none⟩ (.int .i64 s.cost)) c s :=
  ⟨lo, hi, fa, fc, ia, ic, by omega, by rw [size_sets7]; exact hh, hc, by rw [size_sets7]; exact hb.lt, .inl hcl, Nat.le_refl _, ((((((hb.set0 _).set1 _).set2 _).set3 _).set4 _).set5 _).set6 _, ho.set7 (.inl hcl) _ _ _ _ _ _ _⟩
theorem StkAns.touch {X Y : World} {c lo hi lb ub : Nat} {s : Agg.S} (h : StkAns lb ub X c s) (ht : Touch lo hi X Y) (hw : hi ≤ lb ∨ ub ≤ lo) : StkAns lb ub Y c s := by
  obtain ⟨l, g, fa, fc, ia, ic, h1, h2, h3, h4, h5, h6, h7, h8⟩ := h
  exact ⟨l, g, fa, fc, ia, ic, h1, h2, h3, h4, h5, Nat.le_trans h6 ht.2.2.2.1, (ht.2.2.2.2 c h7.lt (by omega)).trans h7, h8.touch ht (by omega)⟩
theorem StkAns.call {X Y : World} {c lb ub : Nat} {s : Agg.S} (h : StkAns lb ub X c s) (hb : Below X.heap.size X Y) : StkAns lb ub Y c s :=
  h.touch (lo := ub) (hi := ub) ((Touch.refl _ _ X).call hb) (.inr (Nat.le_refl _))
end Go.Proofs.YtehfijijapfomaaGreat

/-
  The exact law of StacksStep, walked.
-/
namespace Go.Proofs.YtehfijijapfomaaGreat
set_option linter.unusedSimpArgs false
set_option linter.unusedVariables false
open Go.RowKit
set_option maxRecDepth 8000 in
set_option maxHeartbeats 32000000 in
theorem law_FnExactStacksStep (k : Int) (fa : Option Addr) (fn fc : Nat) (ia : Option Addr) (m ic : Nat) (bx by' bz fl co : Int) (F : List Agg.V) (I : List Int) (p : Bool) (x : Int) (w : World) (hF : Vals w fa fn fc F) (hI : Nums .i64 w ia m ic I) :
    Calls Tryz.prog 5 #[.int .i64 k, .agg #[.slice fa fn fc, .slice ia m ic, .int .i64 bx, .int .i64 by', .int .i64 bz, .int .i64 fl, .int .i64 co], .agg #[.bool p, .int .i64 x]] w fun e w' => e = .returned (.bool true) ∧ Below w.heap.size w w' := by
  have hcF : fc ≤ 9223372036854775807 := by have := hF.2.2.1; unfold maxLen at this; omega
  have hnF : fn ≤ fc := hF.2.1
  have HFL := Lib.hid (show F.length = fn from hF.1)
  have HF := Lib.hid hF
  have hcI : ic ≤ 9223372036854775807 := by have := hI.2.2.1; unfold maxLen at this; omega
  have hnI : m ≤ ic := hI.2.1
  have HIL := Lib.hid (show I.length = m from hI.1)
  have HI := Lib.hid hI
  have hSZ := fun w => szStacks_any fa fn fc ia m ic bx by' bz fl co w (by omega) (by omega)
  obtain ⟨W, hW⟩ : ∃ W, W = (w.alloc (.cells #[.slice fa fn fc, .slice ia m ic, .int .i64 bx, .int .i64 by', .int .i64 bz, .int .i64 fl, .int .i64 co] 54)).alloc (.cells #[.bool p, .int .i64 x] 28) := ⟨_, rfl⟩
  have HA := Lib.hid (show Box7 W w.heap.size 54 (.slice fa fn fc) (.slice ia m ic) (.int .i64 bx) (.int .i64 by') (.int .i64 bz) (.int .i64 fl) (.int .i64 co) from by rw [hW]; exact (Box7.new w _ _ _ _ _ _ _ _).alloc _)
  have HP := Lib.hid (show Box2 W (w.heap.size + 1) 28 (.bool p) (.int .i64 x) from by rw [hW]; exact Box2.new1 _ _ _ (by simp))
  have HB := Lib.hid (show Below w.heap.size w W from by rw [hW]; exact ((Below.refl _ _).alloc (Nat.le_refl _) _).alloc (by simp) _)
  clear hF hI
  by_cases hsz : fn + m ≤ 1048576
  · rw [if_pos hsz] at hSZ
    have HSZ := Lib.hid hSZ
    have hpos : ¬ ((1048576 : Int) - (fn : Int) - (m : Int) < 0) := by omega
    have hfn : fn ≤ 1048576 := by omega
    have hm : m ≤ 1048576 := by omega
    have hlF : F.length ≤ 1048576 := by have := HFL.out; omega
    have hlI : I.length ≤ 1048576 := by have := HIL.out; omega
    obtain ⟨S, hS⟩ : ∃ S, S = Agg.aStep k ⟨F, I, ⟨bx, by', bz⟩, fl, co⟩ (p, x) := ⟨_, rfl⟩
    obtain ⟨b, hb⟩ : ∃ b, b = Agg.stepOk k ⟨F, I, ⟨bx, by', bz⟩, fl, co⟩ (p, x) := ⟨_, rfl⟩
    have hSb : S.front.length + S.items.length ≤ 1000 := by
      rw [hS]
      cases hst : Agg.stepOk k ⟨F, I, ⟨bx, by', bz⟩, fl, co⟩ (p, x)
      · rw [Agg.aStep_not hst]; simp [Agg.zeroS]
      · rw [Agg.aStep_of hst]
        have h0 : Agg.sOk k ⟨F, I, ⟨bx, by', bz⟩, fl, co⟩ = true := by
          simp only [Agg.stepOk, Bool.and_eq_true] at hst
          exact hst.1.1.1
        have h1 := (Agg.sOk_parts h0).2.1
        simp only [Agg.S.size] at h1
        cases p <;> simp only [Agg.stepS, Bool.false_eq_true, if_false, if_true, Agg.popS, Agg.pushS, Agg.readyS]
        · split <;> simp [Agg.flipS, Agg.sufs_length] <;> omega
        · simp; omega
    have h1 := fun fa fc ia ic w hF hI => s_stacksStep_any k fa F.length fc ia I.length ic bx by' bz fl co F I p x w hF hI (by omega) (by omega)
    have h2 := fun fa fc ia ic w hF hI => stacksStep_any k fa F.length fc ia I.length ic bx by' bz fl co F I p x w hF hI (by omega) (by omega)
    rw [← hS, ← hb] at h1 h2
    have H1 := Lib.hid h1
    have H2 := Lib.hid h2
    have HSB := Lib.hid hSb
    clear h1 h2 hS hb hSZ hSb
    go_enter Tryz.func5, Tryz.ntmps5
    go_wp2_with fail
    rw [← hW]
    clear hW
    refine (HSZ.out _).mono ?_
    rintro e w1 ⟨rfl, hb1⟩
    have HA := Lib.hid (HA.out.call hb1)
    have HP := Lib.hid (HP.out.call hb1)
    have HB := Lib.hid (HB.out.trans (hb1.mono HB.out.size))
    clear hb1
    obtain ⟨q0, q1, q2, q3, q4, q5, q6⟩ := HA.out.cells
    obtain ⟨p0, p1⟩ := HP.out.cells
    go_wp2_with fail
    clear q0 q1 q2 q3 q4 q5 q6 p0 p1
    have HP0 := Lib.hid HP.out.lt
    have sq1 : ∀ X, Snc w1 X → (X.cell? ⟨w.heap.size, 0, none⟩ = some (.slice fa fn fc) ∧ X.cell? ⟨w.heap.size, 1, none⟩ = some (.slice ia m ic) ∧ X.cell? ⟨w.heap.size, 2, none⟩ = some (.int .i64 bx) ∧ X.cell? ⟨w.heap.size, 3, none⟩ = some (.int .i64 by') ∧ X.cell? ⟨w.heap.size, 4, none⟩ = some (.int .i64 bz) ∧ X.cell? ⟨w.heap.size, 5, none⟩ = some (.int .i64 fl) ∧ X.cell? ⟨w.heap.size, 6, none⟩ = some (.int .i64 co)) ∧ X.cell? ⟨w.heap.size + 1, 0, none⟩ = some (.bool p) ∧ X.cell? ⟨w.heap.size + 1, 1, none⟩ = some (.int .i64 x) := fun X h => ⟨(HA.out.call h.1).cells, (HP.out.call h.1).cells⟩
    have SQ1 := Lib.hid sq1
    clear sq1
    go_cut [8, 9] (fun s s' wx => ∃ c : Nat, s = .pointer (some ⟨c, 0, none⟩) ∧ s' = .bool b ∧ StkAns w1.heap.size wx.heap.size wx c S ∧ Snc w1 wx)
    case first =>
      refine wp_region_held_drew (S := (fun X => (X.cell? ⟨w.heap.size, 0, none⟩ = some (.slice fa fn fc) ∧ X.cell? ⟨w.heap.size, 1, none⟩ = some (.slice ia m ic) ∧ X.cell? ⟨w.heap.size, 2, none⟩ = some (.int .i64 bx) ∧ X.cell? ⟨w.heap.size, 3, none⟩ = some (.int .i64 by') ∧ X.cell? ⟨w.heap.size, 4, none⟩ = some (.int .i64 bz) ∧ X.cell? ⟨w.heap.size, 5, none⟩ = some (.int .i64 fl) ∧ X.cell? ⟨w.heap.size, 6, none⟩ = some (.int .i64 co)) ∧ X.cell? ⟨w.heap.size + 1, 0, none⟩ = some (.bool p) ∧ X.cell? ⟨w.heap.size + 1, 1, none⟩ = some (.int .i64 x))) (by kernel_rfl) (by exact SQ1.out _ (Snc.refl w1).drew) (fun hHeld => ?_)
      have HT := Lib.hid (Snc.refl w1).drew
      first | (refine wpAnyH_take (i := 0) (v := ?_) rfl (by kernel_rfl) (by kernel_rfl) (by kernel_rfl) (fun _ _ _ h => h) (Or.inl ⟨by rfl, ?_⟩) (by assumption) ?_; rotate_left; (intro X hSw; (try dsimp only at hSw); go_simp; (try with_reducible rfl)); (try simp only [Act.put, List.setIfInBounds_toArray, List.set_cons_zero, List.set_cons_succ, List.getElem_toArray, List.getElem_cons_zero, List.getElem_cons_succ])) | fail "take 0"
      first | (refine wpAnyH_take (i := 1) (v := ?_) rfl (by kernel_rfl) (by kernel_rfl) (by kernel_rfl) (fun _ _ _ h => h) (Or.inl ⟨by rfl, ?_⟩) (by assumption) ?_; rotate_left; (intro X hSw; (try dsimp only at hSw); go_simp; (try with_reducible rfl)); (try simp only [Act.put, List.setIfInBounds_toArray, List.set_cons_zero, List.set_cons_succ, List.getElem_toArray, List.getElem_cons_zero, List.getElem_cons_succ])) | fail "take 1"
      first | (refine wpAnyH_take (i := 3) (v := ?_) rfl (by kernel_rfl) (by kernel_rfl) (by kernel_rfl) (fun _ _ _ h => h) (Or.inl ⟨by rfl, ?_⟩) (by assumption) ?_; rotate_left; (intro X hSw; (try dsimp only at hSw); go_simp; (try with_reducible rfl)); (try simp only [Act.put, List.setIfInBounds_toArray, List.set_cons_zero, List.set_cons_succ, List.getElem_toArray, List.getElem_cons_zero, List.getElem_cons_succ])) | fail "take 3"
      refine wpAnyH_ready (rs := [2, 9]) (by kernel_rfl) (by simp) ?_
      refine AllReadyH.cons rfl (fun K hK => ?_) (AllReadyH.cons rfl (fun K hK => ?_) AllReadyH.nil)
      · go_simp
        refine (toStacks_own _ _ _ _ _ _ _ _ _ _ _ F I _ (HF.out.below (HB.out.trans (HT.out.1.mono HB.out.size))) (HI.out.below (HB.out.trans (HT.out.1.mono HB.out.size))) hfn hm).mono ?_
        rintro e v1 ⟨vv, rfl, rr, hbb⟩
        obtain ⟨fa2, fc2, ia2, ic2, rfl, hRF, hRI⟩ := rr.read
        have HR := Lib.hid (fun X (h : Snc v1 X) => (show Vals X fa2 F.length fc2 F ∧ Nums .i64 X ia2 I.length ic2 I from ⟨hRF.below h.1, hRI.below h.1⟩))
        have HT := Lib.hid (HT.out.call hbb)
        clear hbb rr hRF hRI
        (try dsimp only)
        refine hK.out _ _ (by exact SQ1.out _ HT.out) (fun hHeld => ?_)
        clear hK K
        (try simp only [Act.put, List.setIfInBounds_toArray, List.set_cons_zero, List.set_cons_succ, List.getElem_toArray, List.getElem_cons_zero, List.getElem_cons_succ])
        refine wpAnyH_ready (rs := [4, 9]) (by kernel_rfl) (by simp) ?_
        refine AllReadyH.cons rfl (fun K hK => ?_) (AllReadyH.cons rfl (fun K hK => ?_) AllReadyH.nil)
        · go_simp
          refine (toOp_any p x _).mono ?_
          rintro e v2 ⟨rfl, hbb⟩
          have HR := Lib.hid (fun X (h : Snc v2 X) => HR.out X ⟨hbb.trans (h.1.mono hbb.size), Nat.le_trans hbb.size h.2⟩)
          have HT := Lib.hid (HT.out.call hbb)
          clear hbb
          (try dsimp only)
          refine hK.out _ _ (by exact SQ1.out _ HT.out) (fun hHeld => ?_)
          clear hK K
          (try simp only [Act.put, List.setIfInBounds_toArray, List.set_cons_zero, List.set_cons_succ, List.getElem_toArray, List.getElem_cons_zero, List.getElem_cons_succ])
          refine wpAnyH_ready (rs := [5, 9]) (by kernel_rfl) (by simp) ?_
          refine AllReadyH.cons rfl (fun K hK => ?_) (AllReadyH.cons rfl (fun K hK => ?_) AllReadyH.nil)
          · go_simp
            refine (H1.out _ _ _ _ _ (HR.out _ (Snc.refl _)).1 (HR.out _ (Snc.refl _)).2).mono ?_
            rintro e v3 ⟨vv, rfl, rr, hbb⟩
            obtain ⟨fa9, fc9, ia9, ic9, rfl, -, -⟩ := rr.read
            have HO := Lib.hid rr
            have hloL := HT.out.2
            have hloH := hbb.size
            have HT := Lib.hid (HT.out.call hbb)
            clear hbb rr
            (try dsimp only)
            refine hK.out _ _ (by exact SQ1.out _ HT.out) (fun hHeld => ?_)
            clear hK K
            (try simp only [Act.put, List.setIfInBounds_toArray, List.set_cons_zero, List.set_cons_succ, List.getElem_toArray, List.getElem_cons_zero, List.getElem_cons_succ])
            first | (refine wpAnyH_take (i := 6) (v := ?_) rfl (by kernel_rfl) (by kernel_rfl) (by kernel_rfl) (fun _ _ _ h => h) (Or.inl ⟨by rfl, ?_⟩) (by assumption) ?_; rotate_left; (intro X hSw; (try dsimp only at hSw); go_simp; (try with_reducible rfl)); (try simp only [Act.put, List.setIfInBounds_toArray, List.set_cons_zero, List.set_cons_succ, List.getElem_toArray, List.getElem_cons_zero, List.getElem_cons_succ])) | fail "take 6"
            first | (refine wpAnyH_take (i := 7) (v := ?_) rfl (by kernel_rfl) (by kernel_rfl) (by kernel_rfl) (fun _ _ _ h => h) (Or.inl ⟨by rfl, ?_⟩) (by assumption) ?_; rotate_left; (intro X hSw; (try dsimp only at hSw); go_simp; (try with_reducible rfl)); (try simp only [Act.put, List.setIfInBounds_toArray, List.set_cons_zero, List.set_cons_succ, List.getElem_toArray, List.getElem_cons_zero, List.getElem_cons_succ])) | fail "take 7"
            first | (refine wpAnyH_take (i := 8) (v := ?_) rfl (by kernel_rfl) (by kernel_rfl) (by kernel_rfl) (fun _ _ _ h => h) (Or.inl ⟨by rfl, ?_⟩) (by assumption) ?_; rotate_left; (intro X hSw; (try dsimp only at hSw); go_simp; (try with_reducible rfl)); (try simp only [Act.put, List.setIfInBounds_toArray, List.set_cons_zero, List.set_cons_succ, List.getElem_toArray, List.getElem_cons_zero, List.getElem_cons_succ])) | fail "take 8"
            refine wpAnyH_ready (rs := [9]) (by kernel_rfl) (by simp) ?_
            refine AllReadyH.cons rfl (fun K hK => ?_) AllReadyH.nil
            go_simp
            (try dsimp only)
            refine hK.out _ _ (by exact SQ1.out _ (HT.out.alloc _)) (fun hHeld => ?_)
            clear hK K
            (try simp only [Act.put, List.setIfInBounds_toArray, List.set_cons_zero, List.set_cons_succ, List.getElem_toArray, List.getElem_cons_zero, List.getElem_cons_succ])
            refine wpAnyH_ready (rs := [10]) (by kernel_rfl) (by simp) ?_
            refine AllReadyH.cons rfl (fun K hK => ?_) AllReadyH.nil
            go_simp
            (try dsimp only)
            refine hK.out _ _ (by exact SQ1.out _ (HT.out.alloc _)) (fun hHeld => ?_)
            clear hK K
            (try simp only [Act.put, List.setIfInBounds_toArray, List.set_cons_zero, List.set_cons_succ, List.getElem_toArray, List.getElem_cons_zero, List.getElem_cons_succ])
            first | (refine wpAnyH_take (i := 11) (v := ?_) rfl (by kernel_rfl) (by kernel_rfl) (by kernel_rfl) (fun _ _ _ h => h) (Or.inl ⟨by rfl, ?_⟩) (by assumption) ?_; rotate_left; (intro X hSw; (try dsimp only at hSw); go_simp; (try with_reducible rfl)); (try simp only [Act.put, List.setIfInBounds_toArray, List.set_cons_zero, List.set_cons_succ, List.getElem_toArray, List.getElem_cons_zero, List.getElem_cons_succ])) | fail "take 11"
            refine wpAnyH_done (by kernel_rfl) ?_ _
            go_wp2_with fail
            go_meet
            exact ⟨_, rfl, rfl, StkAns.new hloL hloH (Nat.le_refl _) HO.out, HT.out.alloc _⟩
          · go_simp
            obtain ⟨Y, hY⟩ : ∃ Y, Y = (v2.alloc (.cells #[.slice none 0 0, .slice none 0 0, .int .i64 0, .int .i64 0, .int .i64 0, .int .i64 0, .int .i64 0] 58)) := ⟨_, rfl⟩
            have HN := Lib.hid (show Box7 Y v2.heap.size 58 (.slice none 0 0) (.slice none 0 0) (.int .i64 0) (.int .i64 0) (.int .i64 0) (.int .i64 0) (.int .i64 0) from by rw [hY]; exact Box7.new _ _ _ _ _ _ _ _ _)
            have hYb : Below v2.heap.size v2 Y := by rw [hY]; exact ((Below.refl _ _).alloc (Nat.le_refl _) _)
            have hcW : w1.heap.size ≤ v2.heap.size := HT.out.2
            have HT := Lib.hid (show Snc w1 Y from HT.out.call hYb)
            have hcl : v2.heap.size < Y.heap.size := HN.out.lt
            have HR := Lib.hid (fun X (h : Snc Y X) => HR.out X ⟨(show Below v2.heap.size v2 X from hYb.trans (h.1.mono hYb.size)), Nat.le_trans hYb.size h.2⟩)
            rw [← hY]
            clear hY hYb
            (try dsimp only)
            refine hK.out _ _ (by exact SQ1.out _ HT.out) (fun hHeld => ?_)
            clear hK K
            (try simp only [Act.put, List.setIfInBounds_toArray, List.set_cons_zero, List.set_cons_succ, List.getElem_toArray, List.getElem_cons_zero, List.getElem_cons_succ])
            refine wpAnyH_ready (rs := [5]) (by kernel_rfl) (by simp) ?_
            refine AllReadyH.cons rfl (fun K hK => ?_) AllReadyH.nil
            go_simp
            refine (H1.out _ _ _ _ _ (HR.out _ (Snc.refl _)).1 (HR.out _ (Snc.refl _)).2).mono ?_
            rintro e v3 ⟨vv, rfl, rr, hbb⟩
            obtain ⟨fa9, fc9, ia9, ic9, rfl, -, -⟩ := rr.read
            have HO := Lib.hid rr
            have hloL := HT.out.2
            have hloH := hbb.size
            have HT := Lib.hid (HT.out.call hbb)
            have HN := Lib.hid (HN.out.call hbb)
            clear hbb rr
            (try dsimp only)
            refine hK.out _ _ (by exact SQ1.out _ HT.out) (fun hHeld => ?_)
            clear hK K
            (try simp only [Act.put, List.setIfInBounds_toArray, List.set_cons_zero, List.set_cons_succ, List.getElem_toArray, List.getElem_cons_zero, List.getElem_cons_succ])
            first | (refine wpAnyH_take (i := 6) (v := ?_) rfl (by kernel_rfl) (by kernel_rfl) (by kernel_rfl) (fun _ _ _ h => h) (Or.inl ⟨by rfl, ?_⟩) (by assumption) ?_; rotate_left; (intro X hSw; (try dsimp only at hSw); go_simp; (try with_reducible rfl)); (try simp only [Act.put, List.setIfInBounds_toArray, List.set_cons_zero, List.set_cons_succ, List.getElem_toArray, List.getElem_cons_zero, List.getElem_cons_succ])) | fail "take 6"
            first | (refine wpAnyH_take (i := 7) (v := ?_) rfl (by kernel_rfl) (by kernel_rfl) (by kernel_rfl) (fun _ _ _ h => h) (Or.inl ⟨by rfl, ?_⟩) (by assumption) ?_; rotate_left; (intro X hSw; (try dsimp only at hSw); go_simp; (try with_reducible rfl)); (try simp only [Act.put, List.setIfInBounds_toArray, List.set_cons_zero, List.set_cons_succ, List.getElem_toArray, List.getElem_cons_zero, List.getElem_cons_succ])) | fail "take 7"
            first | (refine wpAnyH_take (i := 8) (v := ?_) rfl (by kernel_rfl) (by kernel_rfl) (by kernel_rfl) (fun _ _ _ h => h) (Or.inl ⟨by rfl, ?_⟩) (by assumption) ?_; rotate_left; (intro X hSw; (try dsimp only at hSw); go_simp; (try with_reducible rfl)); (try simp only [Act.put, List.setIfInBounds_toArray, List.set_cons_zero, List.set_cons_succ, List.getElem_toArray, List.getElem_cons_zero, List.getElem_cons_succ])) | fail "take 8"
            obtain ⟨z0, z1, z2, z3, z4, z5, z6⟩ := HN.out.cells
            have zf := HN.out.free
            refine wpAnyH_ready (rs := [10]) (by kernel_rfl) (by simp) ?_
            refine AllReadyH.cons rfl (fun K hK => ?_) AllReadyH.nil
            go_simp
            (try dsimp only)
            refine hK.out _ _ (by exact SQ1.out _ (((((((HT.out.set hcW _ _).set hcW _ _).set hcW _ _).set hcW _ _).set hcW _ _).set hcW _ _).set hcW _ _)) (fun hHeld => ?_)
            clear hK K
            (try simp only [Act.put, List.setIfInBounds_toArray, List.set_cons_zero, List.set_cons_succ, List.getElem_toArray, List.getElem_cons_zero, List.getElem_cons_succ])
            first | (refine wpAnyH_take (i := 11) (v := ?_) rfl (by kernel_rfl) (by kernel_rfl) (by kernel_rfl) (fun _ _ _ h => h) (Or.inl ⟨by rfl, ?_⟩) (by assumption) ?_; rotate_left; (intro X hSw; (try dsimp only at hSw); go_simp; (try with_reducible rfl)); (try simp only [Act.put, List.setIfInBounds_toArray, List.set_cons_zero, List.set_cons_succ, List.getElem_toArray, List.getElem_cons_zero, List.getElem_cons_succ])) | fail "take 11"
            refine wpAnyH_done (by kernel_rfl) ?_ _
            go_wp2_with fail
            go_meet
            exact ⟨_, rfl, rfl, StkAns.set hcW (by omega) (Nat.le_refl _) HN.out HO.out, (((((((HT.out.set hcW _ _).set hcW _ _).set hcW _ _).set hcW _ _).set hcW _ _).set hcW _ _).set hcW _ _)⟩
        · go_simp
          obtain ⟨Y, hY⟩ : ∃ Y, Y = (v1.alloc (.cells #[.slice none 0 0, .slice none 0 0, .int .i64 0, .int .i64 0, .int .i64 0, .int .i64 0, .int .i64 0] 58)) := ⟨_, rfl⟩
          have HN := Lib.hid (show Box7 Y v1.heap.size 58 (.slice none 0 0) (.slice none 0 0) (.int .i64 0) (.int .i64 0) (.int .i64 0) (.int .i64 0) (.int .i64 0) from by rw [hY]; exact Box7.new _ _ _ _ _ _ _ _ _)
          have hYb : Below v1.heap.size v1 Y := by rw [hY]; exact ((Below.refl _ _).alloc (Nat.le_refl _) _)
          have hcW : w1.heap.size ≤ v1.heap.size := HT.out.2
          have HT := Lib.hid (show Snc w1 Y from HT.out.call hYb)
          have hcl : v1.heap.size < Y.heap.size := HN.out.lt
          have HR := Lib.hid (fun X (h : Snc Y X) => HR.out X ⟨(show Below v1.heap.size v1 X from hYb.trans (h.1.mono hYb.size)), Nat.le_trans hYb.size h.2⟩)
          rw [← hY]
          clear hY hYb
          (try dsimp only)
          refine hK.out _ _ (by exact SQ1.out _ HT.out) (fun hHeld => ?_)
          clear hK K
          (try simp only [Act.put, List.setIfInBounds_toArray, List.set_cons_zero, List.set_cons_succ, List.getElem_toArray, List.getElem_cons_zero, List.getElem_cons_succ])
          refine wpAnyH_ready (rs := [4]) (by kernel_rfl) (by simp) ?_
          refine AllReadyH.cons rfl (fun K hK => ?_) AllReadyH.nil
          go_simp
          refine (toOp_any p x _).mono ?_
          rintro e v2 ⟨rfl, hbb⟩
          have HR := Lib.hid (fun X (h : Snc v2 X) => HR.out X ⟨hbb.trans (h.1.mono hbb.size), Nat.le_trans hbb.size h.2⟩)
          have HT := Lib.hid (HT.out.call hbb)
          have HN := Lib.hid (HN.out.call hbb)
          have hcl : v1.heap.size < v2.heap.size := HN.out.lt
          clear hbb
          (try dsimp only)
          refine hK.out _ _ (by exact SQ1.out _ HT.out) (fun hHeld => ?_)
          clear hK K
          (try simp only [Act.put, List.setIfInBounds_toArray, List.set_cons_zero, List.set_cons_succ, List.getElem_toArray, List.getElem_cons_zero, List.getElem_cons_succ])
          refine wpAnyH_ready (rs := [5]) (by kernel_rfl) (by simp) ?_
          refine AllReadyH.cons rfl (fun K hK => ?_) AllReadyH.nil
          go_simp
          refine (H1.out _ _ _ _ _ (HR.out _ (Snc.refl _)).1 (HR.out _ (Snc.refl _)).2).mono ?_
          rintro e v3 ⟨vv, rfl, rr, hbb⟩
          obtain ⟨fa9, fc9, ia9, ic9, rfl, -, -⟩ := rr.read
          have HO := Lib.hid rr
          have hloL := HT.out.2
          have hloH := hbb.size
          have HT := Lib.hid (HT.out.call hbb)
          have HN := Lib.hid (HN.out.call hbb)
          clear hbb rr
          (try dsimp only)
          refine hK.out _ _ (by exact SQ1.out _ HT.out) (fun hHeld => ?_)
          clear hK K
          (try simp only [Act.put, List.setIfInBounds_toArray, List.set_cons_zero, List.set_cons_succ, List.getElem_toArray, List.getElem_cons_zero, List.getElem_cons_succ])
          first | (refine wpAnyH_take (i := 6) (v := ?_) rfl (by kernel_rfl) (by kernel_rfl) (by kernel_rfl) (fun _ _ _ h => h) (Or.inl ⟨by rfl, ?_⟩) (by assumption) ?_; rotate_left; (intro X hSw; (try dsimp only at hSw); go_simp; (try with_reducible rfl)); (try simp only [Act.put, List.setIfInBounds_toArray, List.set_cons_zero, List.set_cons_succ, List.getElem_toArray, List.getElem_cons_zero, List.getElem_cons_succ])) | fail "take 6"
          first | (refine wpAnyH_take (i := 7) (v := ?_) rfl (by kernel_rfl) (by kernel_rfl) (by kernel_rfl) (fun _ _ _ h => h) (Or.inl ⟨by rfl, ?_⟩) (by assumption) ?_; rotate_left; (intro X hSw; (try dsimp only at hSw); go_simp; (try with_reducible rfl)); (try simp only [Act.put, List.setIfInBounds_toArray, List.set_cons_zero, List.set_cons_succ, List.getElem_toArray, List.getElem_cons_zero, List.getElem_cons_succ])) | fail "take 7"
          first | (refine wpAnyH_take (i := 8) (v := ?_) rfl (by kernel_rfl) (by kernel_rfl) (by kernel_rfl) (fun _ _ _ h => h) (Or.inl ⟨by rfl, ?_⟩) (by assumption) ?_; rotate_left; (intro X hSw; (try dsimp only at hSw); go_simp; (try with_reducible rfl)); (try simp only [Act.put, List.setIfInBounds_toArray, List.set_cons_zero, List.set_cons_succ, List.getElem_toArray, List.getElem_cons_zero, List.getElem_cons_succ])) | fail "take 8"
          obtain ⟨z0, z1, z2, z3, z4, z5, z6⟩ := HN.out.cells
          have zf := HN.out.free
          refine wpAnyH_ready (rs := [10]) (by kernel_rfl) (by simp) ?_
          refine AllReadyH.cons rfl (fun K hK => ?_) AllReadyH.nil
          go_simp
          (try dsimp only)
          refine hK.out _ _ (by exact SQ1.out _ (((((((HT.out.set hcW _ _).set hcW _ _).set hcW _ _).set hcW _ _).set hcW _ _).set hcW _ _).set hcW _ _)) (fun hHeld => ?_)
          clear hK K
          (try simp only [Act.put, List.setIfInBounds_toArray, List.set_cons_zero, List.set_cons_succ, List.getElem_toArray, List.getElem_cons_zero, List.getElem_cons_succ])
          first | (refine wpAnyH_take (i := 11) (v := ?_) rfl (by kernel_rfl) (by kernel_rfl) (by kernel_rfl) (fun _ _ _ h => h) (Or.inl ⟨by rfl, ?_⟩) (by assumption) ?_; rotate_left; (intro X hSw; (try dsimp only at hSw); go_simp; (try with_reducible rfl)); (try simp only [Act.put, List.setIfInBounds_toArray, List.set_cons_zero, List.set_cons_succ, List.getElem_toArray, List.getElem_cons_zero, List.getElem_cons_succ])) | fail "take 11"
          refine wpAnyH_done (by kernel_rfl) ?_ _
          go_wp2_with fail
          go_meet
          exact ⟨_, rfl, rfl, StkAns.set hcW (by omega) (Nat.le_refl _) HN.out HO.out, (((((((HT.out.set hcW _ _).set hcW _ _).set hcW _ _).set hcW _ _).set hcW _ _).set hcW _ _).set hcW _ _)⟩
      · go_simp
        obtain ⟨Y, hY⟩ : ∃ Y, Y = (w1.alloc (.cells #[.slice none 0 0, .slice none 0 0, .int .i64 0, .int .i64 0, .int .i64 0, .int .i64 0, .int .i64 0] 58)).drew := ⟨_, rfl⟩
        have HN := Lib.hid (show Box7 Y w1.heap.size 58 (.slice none 0 0) (.slice none 0 0) (.int .i64 0) (.int .i64 0) (.int .i64 0) (.int .i64 0) (.int .i64 0) from by rw [hY]; exact Box7.new _ _ _ _ _ _ _ _ _)
        have hYb : Below w1.heap.size w1 Y := by rw [hY]; exact ((Below.refl _ _).alloc (Nat.le_refl _) _).drew
        have hcW : w1.heap.size ≤ w1.heap.size := Nat.le_refl _
        have HT := Lib.hid (show Snc w1 Y from (Snc.refl w1).call hYb)
        have hcl : w1.heap.size < Y.heap.size := HN.out.lt
        rw [← hY]
        clear hY hYb
        (try dsimp only)
        refine hK.out _ _ (by exact SQ1.out _ HT.out) (fun hHeld => ?_)
        clear hK K
        (try simp only [Act.put, List.setIfInBounds_toArray, List.set_cons_zero, List.set_cons_succ, List.getElem_toArray, List.getElem_cons_zero, List.getElem_cons_succ])
        refine wpAnyH_ready (rs := [2]) (by kernel_rfl) (by simp) ?_
        refine AllReadyH.cons rfl (fun K hK => ?_) AllReadyH.nil
        go_simp
        refine (toStacks_own _ _ _ _ _ _ _ _ _ _ _ F I _ (HF.out.below (HB.out.trans (HT.out.1.mono HB.out.size))) (HI.out.below (HB.out.trans (HT.out.1.mono HB.out.size))) hfn hm).mono ?_
        rintro e v1 ⟨vv, rfl, rr, hbb⟩
        obtain ⟨fa2, fc2, ia2, ic2, rfl, hRF, hRI⟩ := rr.read
        have HR := Lib.hid (fun X (h : Snc v1 X) => (show Vals X fa2 F.length fc2 F ∧ Nums .i64 X ia2 I.length ic2 I from ⟨hRF.below h.1, hRI.below h.1⟩))
        have HT := Lib.hid (HT.out.call hbb)
        have HN := Lib.hid (HN.out.call hbb)
        have hcl : w1.heap.size < v1.heap.size := HN.out.lt
        clear hbb rr hRF hRI
        (try dsimp only)
        refine hK.out _ _ (by exact SQ1.out _ HT.out) (fun hHeld => ?_)
        clear hK K
        (try simp only [Act.put, List.setIfInBounds_toArray, List.set_cons_zero, List.set_cons_succ, List.getElem_toArray, List.getElem_cons_zero, List.getElem_cons_succ])
        refine wpAnyH_ready (rs := [4]) (by kernel_rfl) (by simp) ?_
        refine AllReadyH.cons rfl (fun K hK => ?_) AllReadyH.nil
        go_simp
        refine (toOp_any p x _).mono ?_
        rintro e v2 ⟨rfl, hbb⟩
        have HR := Lib.hid (fun X (h : Snc v2 X) => HR.out X ⟨hbb.trans (h.1.mono hbb.size), Nat.le_trans hbb.size h.2⟩)
        have HT := Lib.hid (HT.out.call hbb)
        have HN := Lib.hid (HN.out.call hbb)
        have hcl : w1.heap.size < v2.heap.size := HN.out.lt
        clear hbb
        (try dsimp only)
        refine hK.out _ _ (by exact SQ1.out _ HT.out) (fun hHeld => ?_)
        clear hK K
        (try simp only [Act.put, List.setIfInBounds_toArray, List.set_cons_zero, List.set_cons_succ, List.getElem_toArray, List.getElem_cons_zero, List.getElem_cons_succ])
        refine wpAnyH_ready (rs := [5]) (by kernel_rfl) (by simp) ?_
        refine AllReadyH.cons rfl (fun K hK => ?_) AllReadyH.nil
        go_simp
        refine (H1.out _ _ _ _ _ (HR.out _ (Snc.refl _)).1 (HR.out _ (Snc.refl _)).2).mono ?_
        rintro e v3 ⟨vv, rfl, rr, hbb⟩
        obtain ⟨fa9, fc9, ia9, ic9, rfl, -, -⟩ := rr.read
        have HO := Lib.hid rr
        have hloL := HT.out.2
        have hloH := hbb.size
        have HT := Lib.hid (HT.out.call hbb)
        have HN := Lib.hid (HN.out.call hbb)
        clear hbb rr
        (try dsimp only)
        refine hK.out _ _ (by exact SQ1.out _ HT.out) (fun hHeld => ?_)
        clear hK K
        (try simp only [Act.put, List.setIfInBounds_toArray, List.set_cons_zero, List.set_cons_succ, List.getElem_toArray, List.getElem_cons_zero, List.getElem_cons_succ])
        first | (refine wpAnyH_take (i := 6) (v := ?_) rfl (by kernel_rfl) (by kernel_rfl) (by kernel_rfl) (fun _ _ _ h => h) (Or.inl ⟨by rfl, ?_⟩) (by assumption) ?_; rotate_left; (intro X hSw; (try dsimp only at hSw); go_simp; (try with_reducible rfl)); (try simp only [Act.put, List.setIfInBounds_toArray, List.set_cons_zero, List.set_cons_succ, List.getElem_toArray, List.getElem_cons_zero, List.getElem_cons_succ])) | fail "take 6"
        first | (refine wpAnyH_take (i := 7) (v := ?_) rfl (by kernel_rfl) (by kernel_rfl) (by kernel_rfl) (fun _ _ _ h => h) (Or.inl ⟨by rfl, ?_⟩) (by assumption) ?_; rotate_left; (intro X hSw; (try dsimp only at hSw); go_simp; (try with_reducible rfl)); (try simp only [Act.put, List.setIfInBounds_toArray, List.set_cons_zero, List.set_cons_succ, List.getElem_toArray, List.getElem_cons_zero, List.getElem_cons_succ])) | fail "take 7"
        first | (refine wpAnyH_take (i := 8) (v := ?_) rfl (by kernel_rfl) (by kernel_rfl) (by kernel_rfl) (fun _ _ _ h => h) (Or.inl ⟨by rfl, ?_⟩) (by assumption) ?_; rotate_left; (intro X hSw; (try dsimp only at hSw); go_simp; (try with_reducible rfl)); (try simp only [Act.put, List.setIfInBounds_toArray, List.set_cons_zero, List.set_cons_succ, List.getElem_toArray, List.getElem_cons_zero, List.getElem_cons_succ])) | fail "take 8"
        obtain ⟨z0, z1, z2, z3, z4, z5, z6⟩ := HN.out.cells
        have zf := HN.out.free
        refine wpAnyH_ready (rs := [10]) (by kernel_rfl) (by simp) ?_
        refine AllReadyH.cons rfl (fun K hK => ?_) AllReadyH.nil
        go_simp
        (try dsimp only)
        refine hK.out _ _ (by exact SQ1.out _ (((((((HT.out.set hcW _ _).set hcW _ _).set hcW _ _).set hcW _ _).set hcW _ _).set hcW _ _).set hcW _ _)) (fun hHeld => ?_)
        clear hK K
        (try simp only [Act.put, List.setIfInBounds_toArray, List.set_cons_zero, List.set_cons_succ, List.getElem_toArray, List.getElem_cons_zero, List.getElem_cons_succ])
        first | (refine wpAnyH_take (i := 11) (v := ?_) rfl (by kernel_rfl) (by kernel_rfl) (by kernel_rfl) (fun _ _ _ h => h) (Or.inl ⟨by rfl, ?_⟩) (by assumption) ?_; rotate_left; (intro X hSw; (try dsimp only at hSw); go_simp; (try with_reducible rfl)); (try simp only [Act.put, List.setIfInBounds_toArray, List.set_cons_zero, List.set_cons_succ, List.getElem_toArray, List.getElem_cons_zero, List.getElem_cons_succ])) | fail "take 11"
        refine wpAnyH_done (by kernel_rfl) ?_ _
        go_wp2_with fail
        go_meet
        exact ⟨_, rfl, rfl, StkAns.set hcW (by omega) (Nat.le_refl _) HN.out HO.out, (((((((HT.out.set hcW _ _).set hcW _ _).set hcW _ _).set hcW _ _).set hcW _ _).set hcW _ _).set hcW _ _)⟩
    case rest =>
      obtain ⟨c0, rfl, rfl, hA0, hs0⟩ := hcut
      have HA := Lib.hid (HA.out.call hs0.1)
      have HP := Lib.hid (HP.out.call hs0.1)
      have HB := Lib.hid (HB.out.trans (hs0.1.mono HB.out.size))
      have H0 := Lib.hid hA0
      have hz0 := hs0.2
      have hpl : w.heap.size + 1 < w1.heap.size := HP0.out
      clear hA0 hs0 SQ1 HP0
      obtain ⟨WA, hWA⟩ : ∃ WA, WA = wc := ⟨_, rfl⟩
      subst hWA
      obtain ⟨q0, q1, q2, q3, q4, q5, q6⟩ := HA.out.cells
      go_wp2_with fail
      refine (toStacks_own _ _ _ _ _ _ _ _ _ _ _ F I _ (HF.out.below HB.out) (HI.out.below HB.out) hfn hm).mono ?_
      rintro e w2 ⟨vv, rfl, rr, hb2⟩
      obtain ⟨fa1, fc1, ia1, ic1, rfl, hXF, hXI⟩ := rr.read
      obtain ⟨W3, hW3⟩ : ∃ W3, W3 = w2.alloc (.cells #[.slice fa1 F.length fc1, .slice ia1 I.length ic1, .int .i64 bx, .int .i64 by', .int .i64 bz, .int .i64 fl, .int .i64 co] 58) := ⟨_, rfl⟩
      have hb3 : Below w2.heap.size w2 W3 := by rw [hW3]; exact (Below.refl _ _).alloc (Nat.le_refl _) _
      have HX := Lib.hid (show Box7 W3 w2.heap.size 58 (.slice fa1 F.length fc1) (.slice ia1 I.length ic1) (.int .i64 bx) (.int .i64 by') (.int .i64 bz) (.int .i64 fl) (.int .i64 co) from by rw [hW3]; exact Box7.new _ _ _ _ _ _ _ _ _)
      have RX := Lib.hid (rr.below hb3)
      have HXF := Lib.hid (hXF.below hb3)
      have HXI := Lib.hid (hXI.below hb3)
      have hb23 : Below WA.heap.size WA W3 := hb2.trans (hb3.mono hb2.size)
      have HA := Lib.hid (HA.out.call hb23)
      have HP := Lib.hid (HP.out.call hb23)
      have HB := Lib.hid (HB.out.trans (hb23.mono HB.out.size))
      have H0 := Lib.hid (H0.out.call hb23)
      have hz2 := hb2.size
      have hz3 : w2.heap.size < W3.heap.size := HX.out.lt
      clear hb2 hb3 hb23 rr hXF hXI q0 q1 q2 q3 q4 q5 q6
      go_upto_region 7 with (fail)
      rw [← hW3]
      clear hW3
      have sq2 : ∀ X, Snc W3 X → (X.cell? ⟨w2.heap.size, 0, none⟩ = some (.slice fa1 F.length fc1) ∧ X.cell? ⟨w2.heap.size, 1, none⟩ = some (.slice ia1 I.length ic1) ∧ X.cell? ⟨w2.heap.size, 2, none⟩ = some (.int .i64 bx) ∧ X.cell? ⟨w2.heap.size, 3, none⟩ = some (.int .i64 by') ∧ X.cell? ⟨w2.heap.size, 4, none⟩ = some (.int .i64 bz) ∧ X.cell? ⟨w2.heap.size, 5, none⟩ = some (.int .i64 fl) ∧ X.cell? ⟨w2.heap.size, 6, none⟩ = some (.int .i64 co)) ∧ X.cell? ⟨w.heap.size + 1, 0, none⟩ = some (.bool p) ∧ X.cell? ⟨w.heap.size + 1, 1, none⟩ = some (.int .i64 x) := fun X h => ⟨(HX.out.call h.1).cells, (HP.out.call h.1).cells⟩
      have SQ2 := Lib.hid sq2
      clear sq2
      go_cut [11, 12] (fun s s' wx => ∃ c : Nat, s = .pointer (some ⟨c, 0, none⟩) ∧ s' = .bool b ∧ StkAns W3.heap.size wx.heap.size wx c S ∧ Snc W3 wx)
      case first =>
        refine wp_region_held_drew (S := (fun X => (X.cell? ⟨w2.heap.size, 0, none⟩ = some (.slice fa1 F.length fc1) ∧ X.cell? ⟨w2.heap.size, 1, none⟩ = some (.slice ia1 I.length ic1) ∧ X.cell? ⟨w2.heap.size, 2, none⟩ = some (.int .i64 bx) ∧ X.cell? ⟨w2.heap.size, 3, none⟩ = some (.int .i64 by') ∧ X.cell? ⟨w2.heap.size, 4, none⟩ = some (.int .i64 bz) ∧ X.cell? ⟨w2.heap.size, 5, none⟩ = some (.int .i64 fl) ∧ X.cell? ⟨w2.heap.size, 6, none⟩ = some (.int .i64 co)) ∧ X.cell? ⟨w.heap.size + 1, 0, none⟩ = some (.bool p) ∧ X.cell? ⟨w.heap.size + 1, 1, none⟩ = some (.int .i64 x))) (by kernel_rfl) (by exact SQ2.out _ (Snc.refl W3).drew) (fun hHeld => ?_)
        have HT := Lib.hid (Snc.refl W3).drew
        first | (refine wpAnyH_take (i := 0) (v := ?_) rfl (by kernel_rfl) (by kernel_rfl) (by kernel_rfl) (fun _ _ _ h => h) (Or.inl ⟨by rfl, ?_⟩) (by assumption) ?_; rotate_left; (intro X hSw; (try dsimp only at hSw); go_simp; (try with_reducible rfl)); (try simp only [Act.put, List.setIfInBounds_toArray, List.set_cons_zero, List.set_cons_succ, List.getElem_toArray, List.getElem_cons_zero, List.getElem_cons_succ])) | fail "take 0"
        first | (refine wpAnyH_take (i := 1) (v := ?_) rfl (by kernel_rfl) (by kernel_rfl) (by kernel_rfl) (fun _ _ _ h => h) (Or.inl ⟨by rfl, ?_⟩) (by assumption) ?_; rotate_left; (intro X hSw; (try dsimp only at hSw); go_simp; (try with_reducible rfl)); (try simp only [Act.put, List.setIfInBounds_toArray, List.set_cons_zero, List.set_cons_succ, List.getElem_toArray, List.getElem_cons_zero, List.getElem_cons_succ])) | fail "take 1"
        first | (refine wpAnyH_take (i := 2) (v := ?_) rfl (by kernel_rfl) (by kernel_rfl) (by kernel_rfl) (fun _ _ _ h => h) (Or.inl ⟨by rfl, ?_⟩) (by assumption) ?_; rotate_left; (intro X hSw; (try dsimp only at hSw); go_simp; (try with_reducible rfl)); (try simp only [Act.put, List.setIfInBounds_toArray, List.set_cons_zero, List.set_cons_succ, List.getElem_toArray, List.getElem_cons_zero, List.getElem_cons_succ])) | fail "take 2"
        refine wpAnyH_ready (rs := [3, 8]) (by kernel_rfl) (by simp) ?_
        refine AllReadyH.cons rfl (fun K hK => ?_) (AllReadyH.cons rfl (fun K hK => ?_) AllReadyH.nil)
        · go_simp
          refine (toOp_any p x _).mono ?_
          rintro e v1 ⟨rfl, hbb⟩
          have HT := Lib.hid (HT.out.call hbb)
          clear hbb
          (try dsimp only)
          refine hK.out _ _ (by exact SQ2.out _ HT.out) (fun hHeld => ?_)
          clear hK K
          (try simp only [Act.put, List.setIfInBounds_toArray, List.set_cons_zero, List.set_cons_succ, List.getElem_toArray, List.getElem_cons_zero, List.getElem_cons_succ])
          refine wpAnyH_ready (rs := [4, 8]) (by kernel_rfl) (by simp) ?_
          refine AllReadyH.cons rfl (fun K hK => ?_) (AllReadyH.cons rfl (fun K hK => ?_) AllReadyH.nil)
          · go_simp
            refine (H2.out _ _ _ _ _ (HXF.out.below HT.out.1) (HXI.out.below HT.out.1)).mono ?_
            rintro e v2 ⟨vv, rfl, rr, hbb⟩
            obtain ⟨fa9, fc9, ia9, ic9, rfl, -, -⟩ := rr.read
            have HO := Lib.hid rr
            have hloL := HT.out.2
            have hloH := hbb.size
            have HT := Lib.hid (HT.out.call hbb)
            clear hbb rr
            (try dsimp only)
            refine hK.out _ _ (by exact SQ2.out _ HT.out) (fun hHeld => ?_)
            clear hK K
            (try simp only [Act.put, List.setIfInBounds_toArray, List.set_cons_zero, List.set_cons_succ, List.getElem_toArray, List.getElem_cons_zero, List.getElem_cons_succ])
            first | (refine wpAnyH_take (i := 5) (v := ?_) rfl (by kernel_rfl) (by kernel_rfl) (by kernel_rfl) (fun _ _ _ h => h) (Or.inl ⟨by rfl, ?_⟩) (by assumption) ?_; rotate_left; (intro X hSw; (try dsimp only at hSw); go_simp; (try with_reducible rfl)); (try simp only [Act.put, List.setIfInBounds_toArray, List.set_cons_zero, List.set_cons_succ, List.getElem_toArray, List.getElem_cons_zero, List.getElem_cons_succ])) | fail "take 5"
            first | (refine wpAnyH_take (i := 6) (v := ?_) rfl (by kernel_rfl) (by kernel_rfl) (by kernel_rfl) (fun _ _ _ h => h) (Or.inl ⟨by rfl, ?_⟩) (by assumption) ?_; rotate_left; (intro X hSw; (try dsimp only at hSw); go_simp; (try with_reducible rfl)); (try simp only [Act.put, List.setIfInBounds_toArray, List.set_cons_zero, List.set_cons_succ, List.getElem_toArray, List.getElem_cons_zero, List.getElem_cons_succ])) | fail "take 6"
            first | (refine wpAnyH_take (i := 7) (v := ?_) rfl (by kernel_rfl) (by kernel_rfl) (by kernel_rfl) (fun _ _ _ h => h) (Or.inl ⟨by rfl, ?_⟩) (by assumption) ?_; rotate_left; (intro X hSw; (try dsimp only at hSw); go_simp; (try with_reducible rfl)); (try simp only [Act.put, List.setIfInBounds_toArray, List.set_cons_zero, List.set_cons_succ, List.getElem_toArray, List.getElem_cons_zero, List.getElem_cons_succ])) | fail "take 7"
            refine wpAnyH_ready (rs := [8]) (by kernel_rfl) (by simp) ?_
            refine AllReadyH.cons rfl (fun K hK => ?_) AllReadyH.nil
            go_simp
            (try dsimp only)
            refine hK.out _ _ (by exact SQ2.out _ (HT.out.alloc _)) (fun hHeld => ?_)
            clear hK K
            (try simp only [Act.put, List.setIfInBounds_toArray, List.set_cons_zero, List.set_cons_succ, List.getElem_toArray, List.getElem_cons_zero, List.getElem_cons_succ])
            refine wpAnyH_ready (rs := [9]) (by kernel_rfl) (by simp) ?_
            refine AllReadyH.cons rfl (fun K hK => ?_) AllReadyH.nil
            go_simp
            (try dsimp only)
            refine hK.out _ _ (by exact SQ2.out _ (HT.out.alloc _)) (fun hHeld => ?_)
            clear hK K
            (try simp only [Act.put, List.setIfInBounds_toArray, List.set_cons_zero, List.set_cons_succ, List.getElem_toArray, List.getElem_cons_zero, List.getElem_cons_succ])
            first | (refine wpAnyH_take (i := 10) (v := ?_) rfl (by kernel_rfl) (by kernel_rfl) (by kernel_rfl) (fun _ _ _ h => h) (Or.inl ⟨by rfl, ?_⟩) (by assumption) ?_; rotate_left; (intro X hSw; (try dsimp only at hSw); go_simp; (try with_reducible rfl)); (try simp only [Act.put, List.setIfInBounds_toArray, List.set_cons_zero, List.set_cons_succ, List.getElem_toArray, List.getElem_cons_zero, List.getElem_cons_succ])) | fail "take 10"
            refine wpAnyH_done (by kernel_rfl) ?_ _
            go_wp2_with fail
            go_meet
            exact ⟨_, rfl, rfl, StkAns.new hloL hloH (Nat.le_refl _) HO.out, HT.out.alloc _⟩
          · go_simp
            obtain ⟨Y, hY⟩ : ∃ Y, Y = (v1.alloc (.cells #[.slice none 0 0, .slice none 0 0, .int .i64 0, .int .i64 0, .int .i64 0, .int .i64 0, .int .i64 0] 58)) := ⟨_, rfl⟩
            have HN := Lib.hid (show Box7 Y v1.heap.size 58 (.slice none 0 0) (.slice none 0 0) (.int .i64 0) (.int .i64 0) (.int .i64 0) (.int .i64 0) (.int .i64 0) from by rw [hY]; exact Box7.new _ _ _ _ _ _ _ _ _)
            have hYb : Below v1.heap.size v1 Y := by rw [hY]; exact ((Below.refl _ _).alloc (Nat.le_refl _) _)
            have hcW : W3.heap.size ≤ v1.heap.size := HT.out.2
            have HT := Lib.hid (show Snc W3 Y from HT.out.call hYb)
            have hcl : v1.heap.size < Y.heap.size := HN.out.lt
            rw [← hY]
            clear hY hYb
            (try dsimp only)
            refine hK.out _ _ (by exact SQ2.out _ HT.out) (fun hHeld => ?_)
            clear hK K
            (try simp only [Act.put, List.setIfInBounds_toArray, List.set_cons_zero, List.set_cons_succ, List.getElem_toArray, List.getElem_cons_zero, List.getElem_cons_succ])
            refine wpAnyH_ready (rs := [4]) (by kernel_rfl) (by simp) ?_
            refine AllReadyH.cons rfl (fun K hK => ?_) AllReadyH.nil
            go_simp
            refine (H2.out _ _ _ _ _ (HXF.out.below HT.out.1) (HXI.out.below HT.out.1)).mono ?_
            rintro e v2 ⟨vv, rfl, rr, hbb⟩
            obtain ⟨fa9, fc9, ia9, ic9, rfl, -, -⟩ := rr.read
            have HO := Lib.hid rr
            have hloL := HT.out.2
            have hloH := hbb.size
            have HT := Lib.hid (HT.out.call hbb)
            have HN := Lib.hid (HN.out.call hbb)
            clear hbb rr
            (try dsimp only)
            refine hK.out _ _ (by exact SQ2.out _ HT.out) (fun hHeld => ?_)
            clear hK K
            (try simp only [Act.put, List.setIfInBounds_toArray, List.set_cons_zero, List.set_cons_succ, List.getElem_toArray, List.getElem_cons_zero, List.getElem_cons_succ])
            first | (refine wpAnyH_take (i := 5) (v := ?_) rfl (by kernel_rfl) (by kernel_rfl) (by kernel_rfl) (fun _ _ _ h => h) (Or.inl ⟨by rfl, ?_⟩) (by assumption) ?_; rotate_left; (intro X hSw; (try dsimp only at hSw); go_simp; (try with_reducible rfl)); (try simp only [Act.put, List.setIfInBounds_toArray, List.set_cons_zero, List.set_cons_succ, List.getElem_toArray, List.getElem_cons_zero, List.getElem_cons_succ])) | fail "take 5"
            first | (refine wpAnyH_take (i := 6) (v := ?_) rfl (by kernel_rfl) (by kernel_rfl) (by kernel_rfl) (fun _ _ _ h => h) (Or.inl ⟨by rfl, ?_⟩) (by assumption) ?_; rotate_left; (intro X hSw; (try dsimp only at hSw); go_simp; (try with_reducible rfl)); (try simp only [Act.put, List.setIfInBounds_toArray, List.set_cons_zero, List.set_cons_succ, List.getElem_toArray, List.getElem_cons_zero, List.getElem_cons_succ])) | fail "take 6"
            first | (refine wpAnyH_take (i := 7) (v := ?_) rfl (by kernel_rfl) (by kernel_rfl) (by kernel_rfl) (fun _ _ _ h => h) (Or.inl ⟨by rfl, ?_⟩) (by assumption) ?_; rotate_left; (intro X hSw; (try dsimp only at hSw); go_simp; (try with_reducible rfl)); (try simp only [Act.put, List.setIfInBounds_toArray, List.set_cons_zero, List.set_cons_succ, List.getElem_toArray, List.getElem_cons_zero, List.getElem_cons_succ])) | fail "take 7"
            obtain ⟨z0, z1, z2, z3, z4, z5, z6⟩ := HN.out.cells
            have zf := HN.out.free
            refine wpAnyH_ready (rs := [9]) (by kernel_rfl) (by simp) ?_
            refine AllReadyH.cons rfl (fun K hK => ?_) AllReadyH.nil
            go_simp
            (try dsimp only)
            refine hK.out _ _ (by exact SQ2.out _ (((((((HT.out.set hcW _ _).set hcW _ _).set hcW _ _).set hcW _ _).set hcW _ _).set hcW _ _).set hcW _ _)) (fun hHeld => ?_)
            clear hK K
            (try simp only [Act.put, List.setIfInBounds_toArray, List.set_cons_zero, List.set_cons_succ, List.getElem_toArray, List.getElem_cons_zero, List.getElem_cons_succ])
            first | (refine wpAnyH_take (i := 10) (v := ?_) rfl (by kernel_rfl) (by kernel_rfl) (by kernel_rfl) (fun _ _ _ h => h) (Or.inl ⟨by rfl, ?_⟩) (by assumption) ?_; rotate_left; (intro X hSw; (try dsimp only at hSw); go_simp; (try with_reducible rfl)); (try simp only [Act.put, List.setIfInBounds_toArray, List.set_cons_zero, List.set_cons_succ, List.getElem_toArray, List.getElem_cons_zero, List.getElem_cons_succ])) | fail "take 10"
            refine wpAnyH_done (by kernel_rfl) ?_ _
            go_wp2_with fail
            go_meet
            exact ⟨_, rfl, rfl, StkAns.set hcW (by omega) (Nat.le_refl _) HN.out HO.out, (((((((HT.out.set hcW _ _).set hcW _ _).set hcW _ _).set hcW _ _).set hcW _ _).set hcW _ _).set hcW _ _)⟩
        · go_simp
          obtain ⟨Y, hY⟩ : ∃ Y, Y = (W3.alloc (.cells #[.slice none 0 0, .slice none 0 0, .int .i64 0, .int .i64 0, .int .i64 0, .int .i64 0, .int .i64 0] 58)).drew := ⟨_, rfl⟩
          have HN := Lib.hid (show Box7 Y W3.heap.size 58 (.slice none 0 0) (.slice none 0 0) (.int .i64 0) (.int .i64 0) (.int .i64 0) (.int .i64 0) (.int .i64 0) from by rw [hY]; exact Box7.new _ _ _ _ _ _ _ _ _)
          have hYb : Below W3.heap.size W3 Y := by rw [hY]; exact ((Below.refl _ _).alloc (Nat.le_refl _) _).drew
          have hcW : W3.heap.size ≤ W3.heap.size := Nat.le_refl _
          have HT := Lib.hid (show Snc W3 Y from (Snc.refl W3).call hYb)
          have hcl : W3.heap.size < Y.heap.size := HN.out.lt
          rw [← hY]
          clear hY hYb
          (try dsimp only)
          refine hK.out _ _ (by exact SQ2.out _ HT.out) (fun hHeld => ?_)
          clear hK K
          (try simp only [Act.put, List.setIfInBounds_toArray, List.set_cons_zero, List.set_cons_succ, List.getElem_toArray, List.getElem_cons_zero, List.getElem_cons_succ])
          refine wpAnyH_ready (rs := [3]) (by kernel_rfl) (by simp) ?_
          refine AllReadyH.cons rfl (fun K hK => ?_) AllReadyH.nil
          go_simp
          refine (toOp_any p x _).mono ?_
          rintro e v1 ⟨rfl, hbb⟩
          have HT := Lib.hid (HT.out.call hbb)
          have HN := Lib.hid (HN.out.call hbb)
          have hcl : W3.heap.size < v1.heap.size := HN.out.lt
          clear hbb
          (try dsimp only)
          refine hK.out _ _ (by exact SQ2.out _ HT.out) (fun hHeld => ?_)
          clear hK K
          (try simp only [Act.put, List.setIfInBounds_toArray, List.set_cons_zero, List.set_cons_succ, List.getElem_toArray, List.getElem_cons_zero, List.getElem_cons_succ])
          refine wpAnyH_ready (rs := [4]) (by kernel_rfl) (by simp) ?_
          refine AllReadyH.cons rfl (fun K hK => ?_) AllReadyH.nil
          go_simp
          refine (H2.out _ _ _ _ _ (HXF.out.below HT.out.1) (HXI.out.below HT.out.1)).mono ?_
          rintro e v2 ⟨vv, rfl, rr, hbb⟩
          obtain ⟨fa9, fc9, ia9, ic9, rfl, -, -⟩ := rr.read
          have HO := Lib.hid rr
          have hloL := HT.out.2
          have hloH := hbb.size
          have HT := Lib.hid (HT.out.call hbb)
          have HN := Lib.hid (HN.out.call hbb)
          clear hbb rr
          (try dsimp only)
          refine hK.out _ _ (by exact SQ2.out _ HT.out) (fun hHeld => ?_)
          clear hK K
          (try simp only [Act.put, List.setIfInBounds_toArray, List.set_cons_zero, List.set_cons_succ, List.getElem_toArray, List.getElem_cons_zero, List.getElem_cons_succ])
          first | (refine wpAnyH_take (i := 5) (v := ?_) rfl (by kernel_rfl) (by kernel_rfl) (by kernel_rfl) (fun _ _ _ h => h) (Or.inl ⟨by rfl, ?_⟩) (by assumption) ?_; rotate_left; (intro X hSw; (try dsimp only at hSw); go_simp; (try with_reducible rfl)); (try simp only [Act.put, List.setIfInBounds_toArray, List.set_cons_zero, List.set_cons_succ, List.getElem_toArray, List.getElem_cons_zero, List.getElem_cons_succ])) | fail "take 5"
          first | (refine wpAnyH_take (i := 6) (v := ?_) rfl (by kernel_rfl) (by kernel_rfl) (by kernel_rfl) (fun _ _ _ h => h) (Or.inl ⟨by rfl, ?_⟩) (by assumption) ?_; rotate_left; (intro X hSw; (try dsimp only at hSw); go_simp; (try with_reducible rfl)); (try simp only [Act.put, List.setIfInBounds_toArray, List.set_cons_zero, List.set_cons_succ, List.getElem_toArray, List.getElem_cons_zero, List.getElem_cons_succ])) | fail "take 6"
          first | (refine wpAnyH_take (i := 7) (v := ?_) rfl (by kernel_rfl) (by kernel_rfl) (by kernel_rfl) (fun _ _ _ h => h) (Or.inl ⟨by rfl, ?_⟩) (by assumption) ?_; rotate_left; (intro X hSw; (try dsimp only at hSw); go_simp; (try with_reducible rfl)); (try simp only [Act.put, List.setIfInBounds_toArray, List.set_cons_zero, List.set_cons_succ, List.getElem_toArray, List.getElem_cons_zero, List.getElem_cons_succ])) | fail "take 7"
          obtain ⟨z0, z1, z2, z3, z4, z5, z6⟩ := HN.out.cells
          have zf := HN.out.free
          refine wpAnyH_ready (rs := [9]) (by kernel_rfl) (by simp) ?_
          refine AllReadyH.cons rfl (fun K hK => ?_) AllReadyH.nil
          go_simp
          (try dsimp only)
          refine hK.out _ _ (by exact SQ2.out _ (((((((HT.out.set hcW _ _).set hcW _ _).set hcW _ _).set hcW _ _).set hcW _ _).set hcW _ _).set hcW _ _)) (fun hHeld => ?_)
          clear hK K
          (try simp only [Act.put, List.setIfInBounds_toArray, List.set_cons_zero, List.set_cons_succ, List.getElem_toArray, List.getElem_cons_zero, List.getElem_cons_succ])
          first | (refine wpAnyH_take (i := 10) (v := ?_) rfl (by kernel_rfl) (by kernel_rfl) (by kernel_rfl) (fun _ _ _ h => h) (Or.inl ⟨by rfl, ?_⟩) (by assumption) ?_; rotate_left; (intro X hSw; (try dsimp only at hSw); go_simp; (try with_reducible rfl)); (try simp only [Act.put, List.setIfInBounds_toArray, List.set_cons_zero, List.set_cons_succ, List.getElem_toArray, List.getElem_cons_zero, List.getElem_cons_succ])) | fail "take 10"
          refine wpAnyH_done (by kernel_rfl) ?_ _
          go_wp2_with fail
          go_meet
          exact ⟨_, rfl, rfl, StkAns.set hcW (by omega) (Nat.le_refl _) HN.out HO.out, (((((((HT.out.set hcW _ _).set hcW _ _).set hcW _ _).set hcW _ _).set hcW _ _).set hcW _ _).set hcW _ _)⟩
      case rest =>
        obtain ⟨c1, rfl, rfl, hA1, hs1⟩ := hcut
        have HA := Lib.hid (HA.out.call hs1.1)
        have HP := Lib.hid (HP.out.call hs1.1)
        have HB := Lib.hid (HB.out.trans (hs1.1.mono HB.out.size))
        have H0 := Lib.hid (H0.out.call hs1.1)
        have HX := Lib.hid (HX.out.call hs1.1)
        have RX := Lib.hid (RX.out.below hs1.1)
        have hz4 := hs1.2
        obtain ⟨lo0, hi0, fa0, fc0, ia0, ic0, d1, d2, d3, d4, d5, d6, d7, d8⟩ := H0.out
        obtain ⟨lo1, hi1, fa5, fc5, ia5, ic5, e1, e2, e3, e4, e5, e6, e7, e8⟩ := hA1
        have B0 := Lib.hid d7
        have R0 := Lib.hid d8
        have B1 := Lib.hid e7
        have R1 := Lib.hid e8
        have HIn := Lib.hid (show w1.heap.size ≤ lo0 ∧ hi0 ≤ WA.heap.size ∧ w1.heap.size ≤ c0 ∧ c0 < WA.heap.size ∧ (c0 < lo0 ∨ hi0 ≤ c0) from ⟨d1, d2, d3, d4, d5⟩)
        obtain ⟨N1, hN1⟩ : ∃ N, N = markN ⟨F, I, ⟨bx, by', bz⟩, fl, co⟩ := ⟨_, rfl⟩
        obtain ⟨N2, hN2⟩ : ∃ N, N = markN S := ⟨_, rfl⟩
        have hn1 : ¬ (1 + N1 < 0) := by rw [hN1]; unfold markN; omega
        have hn2 : ¬ (1 + N2 < 0) := by rw [hN2]; unfold markN; omega
        have hm1 := fun lo hi v w h => markStacks_own (lo := lo) (hi := hi) (v := v) (s := ⟨F, I, ⟨bx, by', bz⟩, fl, co⟩) w 1 h (by omega) (by omega) (by have := HSB.out; have := HFL.out; have := HIL.out; (try simp only); omega)
        have hm2 := fun lo hi v w h => markStacks_own (lo := lo) (hi := hi) (v := v) (s := S) w 1 h (by omega) (by omega) (by have := HSB.out; omega)
        have hh2 := fun lo hi v w h => heldStacks_own (lo := lo) (hi := hi) (v := v) (s := S) w 1 h (by omega) (by omega) (by have := HSB.out; omega)
        simp only [← hN1] at hm1
        simp only [← hN2] at hm2 hh2
        have HM1 := Lib.hid hm1
        have HM2 := Lib.hid hm2
        have HH2 := Lib.hid hh2
        clear hm1 hm2 hh2 hN1 hN2
        clear d1 d2 d3 d4 d5 d6 d7 d8 e6 e7 e8 H0 hs1 SQ2
        obtain ⟨r0, r1, r2, r3, r4, r5, r6⟩ := B0.out.cells
        obtain ⟨g0, g1, g2, g3, g4, g5, g6⟩ := B1.out.cells
        cases b
        · skip
          go_wp2_with fail
          refine (eqStacks_own _ R1.out R0.out).mono ?_
          rintro e w5 ⟨rfl, hb5⟩
          have HA := Lib.hid (HA.out.call hb5)
          have HP := Lib.hid (HP.out.call hb5)
          have B0 := Lib.hid (B0.out.call hb5)
          have R0 := Lib.hid (R0.out.below hb5)
          have B1 := Lib.hid (B1.out.call hb5)
          have R1 := Lib.hid (R1.out.below hb5)
          have HX := Lib.hid (HX.out.call hb5)
          have RX := Lib.hid (RX.out.below hb5)
          have HB := Lib.hid (HB.out.trans (hb5.mono HB.out.size))
          clear r0 r1 r2 r3 r4 r5 r6 g0 g1 g2 g3 g4 g5 g6
          clear hb5
          obtain ⟨x0, x1, x2, x3, x4, x5, x6⟩ := HX.out.cells
          obtain ⟨q0, q1, q2, q3, q4, q5, q6⟩ := HA.out.cells
          go_wp2_with fail
          clear x0 x1 x2 x3 x4 x5 x6 q0 q1 q2 q3 q4 q5 q6
          have sq3 : ∀ X, Snc w5 X → (X.cell? ⟨w2.heap.size, 0, none⟩ = some (.slice fa1 F.length fc1) ∧ X.cell? ⟨w2.heap.size, 1, none⟩ = some (.slice ia1 I.length ic1) ∧ X.cell? ⟨w2.heap.size, 2, none⟩ = some (.int .i64 bx) ∧ X.cell? ⟨w2.heap.size, 3, none⟩ = some (.int .i64 by') ∧ X.cell? ⟨w2.heap.size, 4, none⟩ = some (.int .i64 bz) ∧ X.cell? ⟨w2.heap.size, 5, none⟩ = some (.int .i64 fl) ∧ X.cell? ⟨w2.heap.size, 6, none⟩ = some (.int .i64 co)) ∧ (X.cell? ⟨w.heap.size, 0, none⟩ = some (.slice fa fn fc) ∧ X.cell? ⟨w.heap.size, 1, none⟩ = some (.slice ia m ic) ∧ X.cell? ⟨w.heap.size, 2, none⟩ = some (.int .i64 bx) ∧ X.cell? ⟨w.heap.size, 3, none⟩ = some (.int .i64 by') ∧ X.cell? ⟨w.heap.size, 4, none⟩ = some (.int .i64 bz) ∧ X.cell? ⟨w.heap.size, 5, none⟩ = some (.int .i64 fl) ∧ X.cell? ⟨w.heap.size, 6, none⟩ = some (.int .i64 co)) := fun X h => ⟨(HX.out.call h.1).cells, (HA.out.call h.1).cells⟩
          have SQ3 := Lib.hid sq3
          clear sq3
          refine wp_region_held_drew (S := fun X => (X.cell? ⟨w2.heap.size, 0, none⟩ = some (.slice fa1 F.length fc1) ∧ X.cell? ⟨w2.heap.size, 1, none⟩ = some (.slice ia1 I.length ic1) ∧ X.cell? ⟨w2.heap.size, 2, none⟩ = some (.int .i64 bx) ∧ X.cell? ⟨w2.heap.size, 3, none⟩ = some (.int .i64 by') ∧ X.cell? ⟨w2.heap.size, 4, none⟩ = some (.int .i64 bz) ∧ X.cell? ⟨w2.heap.size, 5, none⟩ = some (.int .i64 fl) ∧ X.cell? ⟨w2.heap.size, 6, none⟩ = some (.int .i64 co)) ∧ (X.cell? ⟨w.heap.size, 0, none⟩ = some (.slice fa fn fc) ∧ X.cell? ⟨w.heap.size, 1, none⟩ = some (.slice ia m ic) ∧ X.cell? ⟨w.heap.size, 2, none⟩ = some (.int .i64 bx) ∧ X.cell? ⟨w.heap.size, 3, none⟩ = some (.int .i64 by') ∧ X.cell? ⟨w.heap.size, 4, none⟩ = some (.int .i64 bz) ∧ X.cell? ⟨w.heap.size, 5, none⟩ = some (.int .i64 fl) ∧ X.cell? ⟨w.heap.size, 6, none⟩ = some (.int .i64 co))) (by kernel_rfl) (by exact SQ3.out _ (Snc.refl w5).drew) (fun hHeld => ?_)
          have HT := Lib.hid (Snc.refl w5).drew
          first | (refine wpAnyH_take (i := 0) (v := ?_) rfl (by kernel_rfl) (by kernel_rfl) (by kernel_rfl) (fun _ _ _ h => h) (Or.inl ⟨by rfl, ?_⟩) (by assumption) ?_; rotate_left; (intro X hSw; (try dsimp only at hSw); go_simp; (try with_reducible rfl)); (try simp only [Act.put, List.setIfInBounds_toArray, List.set_cons_zero, List.set_cons_succ, List.getElem_toArray, List.getElem_cons_zero, List.getElem_cons_succ])) | fail "take 0"
          first | (refine wpAnyH_take (i := 1) (v := ?_) rfl (by kernel_rfl) (by kernel_rfl) (by kernel_rfl) (fun _ _ _ h => h) (Or.inl ⟨by rfl, ?_⟩) (by assumption) ?_; rotate_left; (intro X hSw; (try dsimp only at hSw); go_simp; (try with_reducible rfl)); (try simp only [Act.put, List.setIfInBounds_toArray, List.set_cons_zero, List.set_cons_succ, List.getElem_toArray, List.getElem_cons_zero, List.getElem_cons_succ])) | fail "take 1"
          refine wpAnyH_ready (rs := [2]) (by kernel_rfl) (by simp) ?_
          refine AllReadyH.cons rfl (fun K hK => ?_) AllReadyH.nil
          go_simp
          refine (toStacks_own _ _ _ _ _ _ _ _ _ _ _ F I _ (HF.out.below (HB.out.trans (HT.out.1.mono HB.out.size))) (HI.out.below (HB.out.trans (HT.out.1.mono HB.out.size))) hfn hm).mono ?_
          rintro e w6 ⟨vv, rfl, rr, hb6⟩
          have HT := Lib.hid (HT.out.call hb6)
          have R6 := Lib.hid rr
          clear hb6 rr
          (try dsimp only)
          refine hK.out _ _ (by exact SQ3.out _ HT.out) (fun hHeld => ?_)
          clear hK K
          (try simp only [Act.put, List.setIfInBounds_toArray, List.set_cons_zero, List.set_cons_succ, List.getElem_toArray, List.getElem_cons_zero, List.getElem_cons_succ])
          refine wpAnyH_ready (rs := [3]) (by kernel_rfl) (by simp) ?_
          refine AllReadyH.cons rfl (fun K hK => ?_) AllReadyH.nil
          go_simp
          refine (eqStacks_own _ (RX.out.below HT.out.1) R6.out).mono ?_
          rintro e w7 ⟨rfl, hb7⟩
          have HT := Lib.hid (HT.out.call hb7)
          clear hb7
          (try dsimp only)
          refine hK.out _ _ (by exact SQ3.out _ HT.out) (fun hHeld => ?_)
          clear hK K
          (try simp only [Act.put, List.setIfInBounds_toArray, List.set_cons_zero, List.set_cons_succ, List.getElem_toArray, List.getElem_cons_zero, List.getElem_cons_succ])
          first | (refine wpAnyH_take (i := 4) (v := ?_) rfl (by kernel_rfl) (by kernel_rfl) (by kernel_rfl) (fun _ _ _ h => h) (Or.inl ⟨by rfl, ?_⟩) (by assumption) ?_; rotate_left; (intro X hSw; (try dsimp only at hSw); go_simp; (try with_reducible rfl)); (try simp only [Act.put, List.setIfInBounds_toArray, List.set_cons_zero, List.set_cons_succ, List.getElem_toArray, List.getElem_cons_zero, List.getElem_cons_succ])) | fail "take 4"
          refine wpAnyH_done (by kernel_rfl) ?_ _
          have HA := Lib.hid (HA.out.call HT.out.1)
          have HP := Lib.hid (HP.out.call HT.out.1)
          have B0 := Lib.hid (B0.out.call HT.out.1)
          have R0 := Lib.hid (R0.out.below HT.out.1)
          have B1 := Lib.hid (B1.out.call HT.out.1)
          have R1 := Lib.hid (R1.out.below HT.out.1)
          have HX := Lib.hid (HX.out.call HT.out.1)
          have RX := Lib.hid (RX.out.below HT.out.1)
          have HB := Lib.hid (HB.out.trans (HT.out.1.mono HB.out.size))
          have hz7 := HT.out.2
          clear HT SQ3 R6
          obtain ⟨x0, x1, x2, x3, x4, x5, x6⟩ := HX.out.cells
          go_wp2_with fail
          refine (HM1.out _ _ _ _ RX.out).mono ?_
          rintro e w8 ⟨rfl, -, ht8⟩
          have hA := HA.out.lt
          obtain ⟨i1, i2, i3, i4, i5⟩ := HIn.out
          have HB := Lib.hid (ht8.below HB.out (Nat.le_refl _) (by omega))
          have HA := Lib.hid (show Box7 w8 w.heap.size 54 (.slice fa fn fc) (.slice ia m ic) (.int .i64 bx) (.int .i64 by') (.int .i64 bz) (.int .i64 fl) (.int .i64 co) from touch_block HA.out ht8 (by omega))
          have HP := Lib.hid (show Box2 w8 (w.heap.size + 1) 28 (.bool p) (.int .i64 x) from touch_block HP.out ht8 (by omega))
          have B0 := Lib.hid (show Box7 w8 c0 58 (.slice fa0 S.front.length fc0) (.slice ia0 S.items.length ic0) (.int .i64 S.back.x) (.int .i64 S.back.y) (.int .i64 S.back.z) (.int .i64 S.flips) (.int .i64 S.cost) from touch_block B0.out ht8 (by omega))
          have R0 := Lib.hid (R0.out.touch ht8 (by omega))
          have B1 := Lib.hid (show Box7 w8 c1 58 (.slice fa5 S.front.length fc5) (.slice ia5 S.items.length ic5) (.int .i64 S.back.x) (.int .i64 S.back.y) (.int .i64 S.back.z) (.int .i64 S.flips) (.int .i64 S.cost) from touch_block B1.out ht8 (by omega))
          have R1 := Lib.hid (R1.out.touch ht8 (by omega))
          clear ht8 HX RX
          clear x0 x1 x2 x3 x4 x5 x6
          obtain ⟨r0, r1, r2, r3, r4, r5, r6⟩ := B0.out.cells
          obtain ⟨g0, g1, g2, g3, g4, g5, g6⟩ := B1.out.cells
          go_wp2_with fail
          refine (eqStacks_own _ R1.out R0.out).mono ?_
          rintro e w9 ⟨rfl, hb9⟩
          have HA := Lib.hid (HA.out.call hb9)
          have HP := Lib.hid (HP.out.call hb9)
          have B0 := Lib.hid (B0.out.call hb9)
          have R0 := Lib.hid (R0.out.below hb9)
          have B1 := Lib.hid (B1.out.call hb9)
          have R1 := Lib.hid (R1.out.below hb9)
          have HB := Lib.hid (HB.out.trans (hb9.mono HB.out.size))
          clear hb9
          clear r0 r1 r2 r3 r4 r5 r6 g0 g1 g2 g3 g4 g5 g6
          obtain ⟨g0, g1, g2, g3, g4, g5, g6⟩ := B1.out.cells
          go_wp2_with fail
          refine (HM2.out _ _ _ _ R1.out).mono ?_
          rintro e w10 ⟨rfl, rr10, ht10⟩
          have R1 := Lib.hid rr10
          have HB := Lib.hid (ht10.below HB.out (Nat.le_refl _) (by omega))
          have HA := Lib.hid (show Box7 w10 w.heap.size 54 (.slice fa fn fc) (.slice ia m ic) (.int .i64 bx) (.int .i64 by') (.int .i64 bz) (.int .i64 fl) (.int .i64 co) from touch_block HA.out ht10 (by omega))
          have HP := Lib.hid (show Box2 w10 (w.heap.size + 1) 28 (.bool p) (.int .i64 x) from touch_block HP.out ht10 (by omega))
          have B0 := Lib.hid (show Box7 w10 c0 58 (.slice fa0 S.front.length fc0) (.slice ia0 S.items.length ic0) (.int .i64 S.back.x) (.int .i64 S.back.y) (.int .i64 S.back.z) (.int .i64 S.flips) (.int .i64 S.cost) from touch_block B0.out ht10 (by omega))
          have R0 := Lib.hid (R0.out.touch ht10 (by omega))
          have B1 := Lib.hid (show Box7 w10 c1 58 (.slice fa5 S.front.length fc5) (.slice ia5 S.items.length ic5) (.int .i64 S.back.x) (.int .i64 S.back.y) (.int .i64 S.back.z) (.int .i64 S.flips) (.int .i64 S.cost) from touch_block B1.out ht10 (by omega))
          clear ht10 rr10
          clear g0 g1 g2 g3 g4 g5 g6
          obtain ⟨g0, g1, g2, g3, g4, g5, g6⟩ := B1.out.cells
          go_wp2_with fail
          refine (HH2.out _ _ _ _ R1.out).mono ?_
          rintro e w11 ⟨rfl, hb11⟩
          have HA := Lib.hid (HA.out.call hb11)
          have HP := Lib.hid (HP.out.call hb11)
          have B0 := Lib.hid (B0.out.call hb11)
          have R0 := Lib.hid (R0.out.below hb11)
          have B1 := Lib.hid (B1.out.call hb11)
          have R1 := Lib.hid (R1.out.below hb11)
          have HB := Lib.hid (HB.out.trans (hb11.mono HB.out.size))
          clear hb11
          clear g0 g1 g2 g3 g4 g5 g6
          obtain ⟨q0, q1, q2, q3, q4, q5, q6⟩ := HA.out.cells
          obtain ⟨p0, p1⟩ := HP.out.cells
          go_wp2_with fail
          clear p0 p1
          clear q0 q1 q2 q3 q4 q5 q6
          have sq4 : ∀ X, Snc w11 X → (X.cell? ⟨w.heap.size, 0, none⟩ = some (.slice fa fn fc) ∧ X.cell? ⟨w.heap.size, 1, none⟩ = some (.slice ia m ic) ∧ X.cell? ⟨w.heap.size, 2, none⟩ = some (.int .i64 bx) ∧ X.cell? ⟨w.heap.size, 3, none⟩ = some (.int .i64 by') ∧ X.cell? ⟨w.heap.size, 4, none⟩ = some (.int .i64 bz) ∧ X.cell? ⟨w.heap.size, 5, none⟩ = some (.int .i64 fl) ∧ X.cell? ⟨w.heap.size, 6, none⟩ = some (.int .i64 co)) ∧ X.cell? ⟨w.heap.size + 1, 0, none⟩ = some (.bool p) ∧ X.cell? ⟨w.heap.size + 1, 1, none⟩ = some (.int .i64 x) := fun X h => ⟨(HA.out.call h.1).cells, (HP.out.call h.1).cells⟩
          have SQ4 := Lib.hid sq4
          clear sq4
          go_cut [16, 17] (fun s s' wx => ∃ c : Nat, s = .pointer (some ⟨c, 0, none⟩) ∧ s' = .bool (false) ∧ StkAns w11.heap.size wx.heap.size wx c S ∧ Snc w11 wx)
          case first =>
            refine wp_region_held_drew (S := (fun X => (X.cell? ⟨w.heap.size, 0, none⟩ = some (.slice fa fn fc) ∧ X.cell? ⟨w.heap.size, 1, none⟩ = some (.slice ia m ic) ∧ X.cell? ⟨w.heap.size, 2, none⟩ = some (.int .i64 bx) ∧ X.cell? ⟨w.heap.size, 3, none⟩ = some (.int .i64 by') ∧ X.cell? ⟨w.heap.size, 4, none⟩ = some (.int .i64 bz) ∧ X.cell? ⟨w.heap.size, 5, none⟩ = some (.int .i64 fl) ∧ X.cell? ⟨w.heap.size, 6, none⟩ = some (.int .i64 co)) ∧ X.cell? ⟨w.heap.size + 1, 0, none⟩ = some (.bool p) ∧ X.cell? ⟨w.heap.size + 1, 1, none⟩ = some (.int .i64 x))) (by kernel_rfl) (by exact SQ4.out _ (Snc.refl w11).drew) (fun hHeld => ?_)
            have HT := Lib.hid (Snc.refl w11).drew
            first | (refine wpAnyH_take (i := 0) (v := ?_) rfl (by kernel_rfl) (by kernel_rfl) (by kernel_rfl) (fun _ _ _ h => h) (Or.inl ⟨by rfl, ?_⟩) (by assumption) ?_; rotate_left; (intro X hSw; (try dsimp only at hSw); go_simp; (try with_reducible rfl)); (try simp only [Act.put, List.setIfInBounds_toArray, List.set_cons_zero, List.set_cons_succ, List.getElem_toArray, List.getElem_cons_zero, List.getElem_cons_succ])) | fail "take 0"
            first | (refine wpAnyH_take (i := 1) (v := ?_) rfl (by kernel_rfl) (by kernel_rfl) (by kernel_rfl) (fun _ _ _ h => h) (Or.inl ⟨by rfl, ?_⟩) (by assumption) ?_; rotate_left; (intro X hSw; (try dsimp only at hSw); go_simp; (try with_reducible rfl)); (try simp only [Act.put, List.setIfInBounds_toArray, List.set_cons_zero, List.set_cons_succ, List.getElem_toArray, List.getElem_cons_zero, List.getElem_cons_succ])) | fail "take 1"
            first | (refine wpAnyH_take (i := 3) (v := ?_) rfl (by kernel_rfl) (by kernel_rfl) (by kernel_rfl) (fun _ _ _ h => h) (Or.inl ⟨by rfl, ?_⟩) (by assumption) ?_; rotate_left; (intro X hSw; (try dsimp only at hSw); go_simp; (try with_reducible rfl)); (try simp only [Act.put, List.setIfInBounds_toArray, List.set_cons_zero, List.set_cons_succ, List.getElem_toArray, List.getElem_cons_zero, List.getElem_cons_succ])) | fail "take 3"
            refine wpAnyH_ready (rs := [2, 9]) (by kernel_rfl) (by simp) ?_
            refine AllReadyH.cons rfl (fun K hK => ?_) (AllReadyH.cons rfl (fun K hK => ?_) AllReadyH.nil)
            · go_simp
              refine (toStacks_own _ _ _ _ _ _ _ _ _ _ _ F I _ (HF.out.below (HB.out.trans (HT.out.1.mono HB.out.size))) (HI.out.below (HB.out.trans (HT.out.1.mono HB.out.size))) hfn hm).mono ?_
              rintro e v1 ⟨vv, rfl, rr, hbb⟩
              obtain ⟨fa2, fc2, ia2, ic2, rfl, hRF, hRI⟩ := rr.read
              have HR := Lib.hid (fun X (h : Snc v1 X) => (show Vals X fa2 F.length fc2 F ∧ Nums .i64 X ia2 I.length ic2 I from ⟨hRF.below h.1, hRI.below h.1⟩))
              have HT := Lib.hid (HT.out.call hbb)
              clear hbb rr hRF hRI
              (try dsimp only)
              refine hK.out _ _ (by exact SQ4.out _ HT.out) (fun hHeld => ?_)
              clear hK K
              (try simp only [Act.put, List.setIfInBounds_toArray, List.set_cons_zero, List.set_cons_succ, List.getElem_toArray, List.getElem_cons_zero, List.getElem_cons_succ])
              refine wpAnyH_ready (rs := [4, 9]) (by kernel_rfl) (by simp) ?_
              refine AllReadyH.cons rfl (fun K hK => ?_) (AllReadyH.cons rfl (fun K hK => ?_) AllReadyH.nil)
              · go_simp
                refine (toOp_any p x _).mono ?_
                rintro e v2 ⟨rfl, hbb⟩
                have HR := Lib.hid (fun X (h : Snc v2 X) => HR.out X ⟨hbb.trans (h.1.mono hbb.size), Nat.le_trans hbb.size h.2⟩)
                have HT := Lib.hid (HT.out.call hbb)
                clear hbb
                (try dsimp only)
                refine hK.out _ _ (by exact SQ4.out _ HT.out) (fun hHeld => ?_)
                clear hK K
                (try simp only [Act.put, List.setIfInBounds_toArray, List.set_cons_zero, List.set_cons_succ, List.getElem_toArray, List.getElem_cons_zero, List.getElem_cons_succ])
                refine wpAnyH_ready (rs := [5, 9]) (by kernel_rfl) (by simp) ?_
                refine AllReadyH.cons rfl (fun K hK => ?_) (AllReadyH.cons rfl (fun K hK => ?_) AllReadyH.nil)
                · go_simp
                  refine (H2.out _ _ _ _ _ (HR.out _ (Snc.refl _)).1 (HR.out _ (Snc.refl _)).2).mono ?_
                  rintro e v3 ⟨vv, rfl, rr, hbb⟩
                  obtain ⟨fa9, fc9, ia9, ic9, rfl, -, -⟩ := rr.read
                  have HO := Lib.hid rr
                  have hloL := HT.out.2
                  have hloH := hbb.size
                  have HT := Lib.hid (HT.out.call hbb)
                  clear hbb rr
                  (try dsimp only)
                  refine hK.out _ _ (by exact SQ4.out _ HT.out) (fun hHeld => ?_)
                  clear hK K
                  (try simp only [Act.put, List.setIfInBounds_toArray, List.set_cons_zero, List.set_cons_succ, List.getElem_toArray, List.getElem_cons_zero, List.getElem_cons_succ])
                  first | (refine wpAnyH_take (i := 6) (v := ?_) rfl (by kernel_rfl) (by kernel_rfl) (by kernel_rfl) (fun _ _ _ h => h) (Or.inl ⟨by rfl, ?_⟩) (by assumption) ?_; rotate_left; (intro X hSw; (try dsimp only at hSw); go_simp; (try with_reducible rfl)); (try simp only [Act.put, List.setIfInBounds_toArray, List.set_cons_zero, List.set_cons_succ, List.getElem_toArray, List.getElem_cons_zero, List.getElem_cons_succ])) | fail "take 6"
                  first | (refine wpAnyH_take (i := 7) (v := ?_) rfl (by kernel_rfl) (by kernel_rfl) (by kernel_rfl) (fun _ _ _ h => h) (Or.inl ⟨by rfl, ?_⟩) (by assumption) ?_; rotate_left; (intro X hSw; (try dsimp only at hSw); go_simp; (try with_reducible rfl)); (try simp only [Act.put, List.setIfInBounds_toArray, List.set_cons_zero, List.set_cons_succ, List.getElem_toArray, List.getElem_cons_zero, List.getElem_cons_succ])) | fail "take 7"
                  first | (refine wpAnyH_take (i := 8) (v := ?_) rfl (by kernel_rfl) (by kernel_rfl) (by kernel_rfl) (fun _ _ _ h => h) (Or.inl ⟨by rfl, ?_⟩) (by assumption) ?_; rotate_left; (intro X hSw; (try dsimp only at hSw); go_simp; (try with_reducible rfl)); (try simp only [Act.put, List.setIfInBounds_toArray, List.set_cons_zero, List.set_cons_succ, List.getElem_toArray, List.getElem_cons_zero, List.getElem_cons_succ])) | fail "take 8"
                  refine wpAnyH_ready (rs := [9]) (by kernel_rfl) (by simp) ?_
                  refine AllReadyH.cons rfl (fun K hK => ?_) AllReadyH.nil
                  go_simp
                  (try dsimp only)
                  refine hK.out _ _ (by exact SQ4.out _ (HT.out.alloc _)) (fun hHeld => ?_)
                  clear hK K
                  (try simp only [Act.put, List.setIfInBounds_toArray, List.set_cons_zero, List.set_cons_succ, List.getElem_toArray, List.getElem_cons_zero, List.getElem_cons_succ])
                  refine wpAnyH_ready (rs := [10]) (by kernel_rfl) (by simp) ?_
                  refine AllReadyH.cons rfl (fun K hK => ?_) AllReadyH.nil
                  go_simp
                  (try dsimp only)
                  refine hK.out _ _ (by exact SQ4.out _ (HT.out.alloc _)) (fun hHeld => ?_)
                  clear hK K
                  (try simp only [Act.put, List.setIfInBounds_toArray, List.set_cons_zero, List.set_cons_succ, List.getElem_toArray, List.getElem_cons_zero, List.getElem_cons_succ])
                  first | (refine wpAnyH_take (i := 11) (v := ?_) rfl (by kernel_rfl) (by kernel_rfl) (by kernel_rfl) (fun _ _ _ h => h) (Or.inl ⟨by rfl, ?_⟩) (by assumption) ?_; rotate_left; (intro X hSw; (try dsimp only at hSw); go_simp; (try with_reducible rfl)); (try simp only [Act.put, List.setIfInBounds_toArray, List.set_cons_zero, List.set_cons_succ, List.getElem_toArray, List.getElem_cons_zero, List.getElem_cons_succ])) | fail "take 11"
                  refine wpAnyH_done (by kernel_rfl) ?_ _
                  go_wp2_with fail
                  go_meet
                  exact ⟨_, rfl, rfl, StkAns.new hloL hloH (Nat.le_refl _) HO.out, HT.out.alloc _⟩
                · go_simp
                  obtain ⟨Y, hY⟩ : ∃ Y, Y = (v2.alloc (.cells #[.slice none 0 0, .slice none 0 0, .int .i64 0, .int .i64 0, .int .i64 0, .int .i64 0, .int .i64 0] 58)) := ⟨_, rfl⟩
                  have HN := Lib.hid (show Box7 Y v2.heap.size 58 (.slice none 0 0) (.slice none 0 0) (.int .i64 0) (.int .i64 0) (.int .i64 0) (.int .i64 0) (.int .i64 0) from by rw [hY]; exact Box7.new _ _ _ _ _ _ _ _ _)
                  have hYb : Below v2.heap.size v2 Y := by rw [hY]; exact ((Below.refl _ _).alloc (Nat.le_refl _) _)
                  have hcW : w11.heap.size ≤ v2.heap.size := HT.out.2
                  have HT := Lib.hid (show Snc w11 Y from HT.out.call hYb)
                  have hcl : v2.heap.size < Y.heap.size := HN.out.lt
                  have HR := Lib.hid (fun X (h : Snc Y X) => HR.out X ⟨(show Below v2.heap.size v2 X from hYb.trans (h.1.mono hYb.size)), Nat.le_trans hYb.size h.2⟩)
                  rw [← hY]
                  clear hY hYb
                  (try dsimp only)
                  refine hK.out _ _ (by exact SQ4.out _ HT.out) (fun hHeld => ?_)
                  clear hK K
                  (try simp only [Act.put, List.setIfInBounds_toArray, List.set_cons_zero, List.set_cons_succ, List.getElem_toArray, List.getElem_cons_zero, List.getElem_cons_succ])
                  refine wpAnyH_ready (rs := [5]) (by kernel_rfl) (by simp) ?_
                  refine AllReadyH.cons rfl (fun K hK => ?_) AllReadyH.nil
                  go_simp
                  refine (H2.out _ _ _ _ _ (HR.out _ (Snc.refl _)).1 (HR.out _ (Snc.refl _)).2).mono ?_
                  rintro e v3 ⟨vv, rfl, rr, hbb⟩
                  obtain ⟨fa9, fc9, ia9, ic9, rfl, -, -⟩ := rr.read
                  have HO := Lib.hid rr
                  have hloL := HT.out.2
                  have hloH := hbb.size
                  have HT := Lib.hid (HT.out.call hbb)
                  have HN := Lib.hid (HN.out.call hbb)
                  clear hbb rr
                  (try dsimp only)
                  refine hK.out _ _ (by exact SQ4.out _ HT.out) (fun hHeld => ?_)
                  clear hK K
                  (try simp only [Act.put, List.setIfInBounds_toArray, List.set_cons_zero, List.set_cons_succ, List.getElem_toArray, List.getElem_cons_zero, List.getElem_cons_succ])
                  first | (refine wpAnyH_take (i := 6) (v := ?_) rfl (by kernel_rfl) (by kernel_rfl) (by kernel_rfl) (fun _ _ _ h => h) (Or.inl ⟨by rfl, ?_⟩) (by assumption) ?_; rotate_left; (intro X hSw; (try dsimp only at hSw); go_simp; (try with_reducible rfl)); (try simp only [Act.put, List.setIfInBounds_toArray, List.set_cons_zero, List.set_cons_succ, List.getElem_toArray, List.getElem_cons_zero, List.getElem_cons_succ])) | fail "take 6"
                  first | (refine wpAnyH_take (i := 7) (v := ?_) rfl (by kernel_rfl) (by kernel_rfl) (by kernel_rfl) (fun _ _ _ h => h) (Or.inl ⟨by rfl, ?_⟩) (by assumption) ?_; rotate_left; (intro X hSw; (try dsimp only at hSw); go_simp; (try with_reducible rfl)); (try simp only [Act.put, List.setIfInBounds_toArray, List.set_cons_zero, List.set_cons_succ, List.getElem_toArray, List.getElem_cons_zero, List.getElem_cons_succ])) | fail "take 7"
                  first | (refine wpAnyH_take (i := 8) (v := ?_) rfl (by kernel_rfl) (by kernel_rfl) (by kernel_rfl) (fun _ _ _ h => h) (Or.inl ⟨by rfl, ?_⟩) (by assumption) ?_; rotate_left; (intro X hSw; (try dsimp only at hSw); go_simp; (try with_reducible rfl)); (try simp only [Act.put, List.setIfInBounds_toArray, List.set_cons_zero, List.set_cons_succ, List.getElem_toArray, List.getElem_cons_zero, List.getElem_cons_succ])) | fail "take 8"
                  obtain ⟨z0, z1, z2, z3, z4, z5, z6⟩ := HN.out.cells
                  have zf := HN.out.free
                  refine wpAnyH_ready (rs := [10]) (by kernel_rfl) (by simp) ?_
                  refine AllReadyH.cons rfl (fun K hK => ?_) AllReadyH.nil
                  go_simp
                  (try dsimp only)
                  refine hK.out _ _ (by exact SQ4.out _ (((((((HT.out.set hcW _ _).set hcW _ _).set hcW _ _).set hcW _ _).set hcW _ _).set hcW _ _).set hcW _ _)) (fun hHeld => ?_)
                  clear hK K
                  (try simp only [Act.put, List.setIfInBounds_toArray, List.set_cons_zero, List.set_cons_succ, List.getElem_toArray, List.getElem_cons_zero, List.getElem_cons_succ])
                  first | (refine wpAnyH_take (i := 11) (v := ?_) rfl (by kernel_rfl) (by kernel_rfl) (by kernel_rfl) (fun _ _ _ h => h) (Or.inl ⟨by rfl, ?_⟩) (by assumption) ?_; rotate_left; (intro X hSw; (try dsimp only at hSw); go_simp; (try with_reducible rfl)); (try simp only [Act.put, List.setIfInBounds_toArray, List.set_cons_zero, List.set_cons_succ, List.getElem_toArray, List.getElem_cons_zero, List.getElem_cons_succ])) | fail "take 11"
                  refine wpAnyH_done (by kernel_rfl) ?_ _
                  go_wp2_with fail
                  go_meet
                  exact ⟨_, rfl, rfl, StkAns.set hcW (by omega) (Nat.le_refl _) HN.out HO.out, (((((((HT.out.set hcW _ _).set hcW _ _).set hcW _ _).set hcW _ _).set hcW _ _).set hcW _ _).set hcW _ _)⟩
              · go_simp
                obtain ⟨Y, hY⟩ : ∃ Y, Y = (v1.alloc (.cells #[.slice none 0 0, .slice none 0 0, .int .i64 0, .int .i64 0, .int .i64 0, .int .i64 0, .int .i64 0] 58)) := ⟨_, rfl⟩
                have HN := Lib.hid (show Box7 Y v1.heap.size 58 (.slice none 0 0) (.slice none 0 0) (.int .i64 0) (.int .i64 0) (.int .i64 0) (.int .i64 0) (.int .i64 0) from by rw [hY]; exact Box7.new _ _ _ _ _ _ _ _ _)
                have hYb : Below v1.heap.size v1 Y := by rw [hY]; exact ((Below.refl _ _).alloc (Nat.le_refl _) _)
                have hcW : w11.heap.size ≤ v1.heap.size := HT.out.2
                have HT := Lib.hid (show Snc w11 Y from HT.out.call hYb)
                have hcl : v1.heap.size < Y.heap.size := HN.out.lt
                have HR := Lib.hid (fun X (h : Snc Y X) => HR.out X ⟨(show Below v1.heap.size v1 X from hYb.trans (h.1.mono hYb.size)), Nat.le_trans hYb.size h.2⟩)
                rw [← hY]
                clear hY hYb
                (try dsimp only)
                refine hK.out _ _ (by exact SQ4.out _ HT.out) (fun hHeld => ?_)
                clear hK K
                (try simp only [Act.put, List.setIfInBounds_toArray, List.set_cons_zero, List.set_cons_succ, List.getElem_toArray, List.getElem_cons_zero, List.getElem_cons_succ])
                refine wpAnyH_ready (rs := [4]) (by kernel_rfl) (by simp) ?_
                refine AllReadyH.cons rfl (fun K hK => ?_) AllReadyH.nil
                go_simp
                refine (toOp_any p x _).mono ?_
                rintro e v2 ⟨rfl, hbb⟩
                have HR := Lib.hid (fun X (h : Snc v2 X) => HR.out X ⟨hbb.trans (h.1.mono hbb.size), Nat.le_trans hbb.size h.2⟩)
                have HT := Lib.hid (HT.out.call hbb)
                have HN := Lib.hid (HN.out.call hbb)
                have hcl : v1.heap.size < v2.heap.size := HN.out.lt
                clear hbb
                (try dsimp only)
                refine hK.out _ _ (by exact SQ4.out _ HT.out) (fun hHeld => ?_)
                clear hK K
                (try simp only [Act.put, List.setIfInBounds_toArray, List.set_cons_zero, List.set_cons_succ, List.getElem_toArray, List.getElem_cons_zero, List.getElem_cons_succ])
                refine wpAnyH_ready (rs := [5]) (by kernel_rfl) (by simp) ?_
                refine AllReadyH.cons rfl (fun K hK => ?_) AllReadyH.nil
                go_simp
                refine (H2.out _ _ _ _ _ (HR.out _ (Snc.refl _)).1 (HR.out _ (Snc.refl _)).2).mono ?_
                rintro e v3 ⟨vv, rfl, rr, hbb⟩
                obtain ⟨fa9, fc9, ia9, ic9, rfl, -, -⟩ := rr.read
                have HO := Lib.hid rr
                have hloL := HT.out.2
                have hloH := hbb.size
                have HT := Lib.hid (HT.out.call hbb)
                have HN := Lib.hid (HN.out.call hbb)
                clear hbb rr
                (try dsimp only)
                refine hK.out _ _ (by exact SQ4.out _ HT.out) (fun hHeld => ?_)
                clear hK K
                (try simp only [Act.put, List.setIfInBounds_toArray, List.set_cons_zero, List.set_cons_succ, List.getElem_toArray, List.getElem_cons_zero, List.getElem_cons_succ])
                first | (refine wpAnyH_take (i := 6) (v := ?_) rfl (by kernel_rfl) (by kernel_rfl) (by kernel_rfl) (fun _ _ _ h => h) (Or.inl ⟨by rfl, ?_⟩) (by assumption) ?_; rotate_left; (intro X hSw; (try dsimp only at hSw); go_simp; (try with_reducible rfl)); (try simp only [Act.put, List.setIfInBounds_toArray, List.set_cons_zero, List.set_cons_succ, List.getElem_toArray, List.getElem_cons_zero, List.getElem_cons_succ])) | fail "take 6"
                first | (refine wpAnyH_take (i := 7) (v := ?_) rfl (by kernel_rfl) (by kernel_rfl) (by kernel_rfl) (fun _ _ _ h => h) (Or.inl ⟨by rfl, ?_⟩) (by assumption) ?_; rotate_left; (intro X hSw; (try dsimp only at hSw); go_simp; (try with_reducible rfl)); (try simp only [Act.put, List.setIfInBounds_toArray, List.set_cons_zero, List.set_cons_succ, List.getElem_toArray, List.getElem_cons_zero, List.getElem_cons_succ])) | fail "take 7"
                first | (refine wpAnyH_take (i := 8) (v := ?_) rfl (by kernel_rfl) (by kernel_rfl) (by kernel_rfl) (fun _ _ _ h => h) (Or.inl ⟨by rfl, ?_⟩) (by assumption) ?_; rotate_left; (intro X hSw; (try dsimp only at hSw); go_simp; (try with_reducible rfl)); (try simp only [Act.put, List.setIfInBounds_toArray, List.set_cons_zero, List.set_cons_succ, List.getElem_toArray, List.getElem_cons_zero, List.getElem_cons_succ])) | fail "take 8"
                obtain ⟨z0, z1, z2, z3, z4, z5, z6⟩ := HN.out.cells
                have zf := HN.out.free
                refine wpAnyH_ready (rs := [10]) (by kernel_rfl) (by simp) ?_
                refine AllReadyH.cons rfl (fun K hK => ?_) AllReadyH.nil
                go_simp
                (try dsimp only)
                refine hK.out _ _ (by exact SQ4.out _ (((((((HT.out.set hcW _ _).set hcW _ _).set hcW _ _).set hcW _ _).set hcW _ _).set hcW _ _).set hcW _ _)) (fun hHeld => ?_)
                clear hK K
                (try simp only [Act.put, List.setIfInBounds_toArray, List.set_cons_zero, List.set_cons_succ, List.getElem_toArray, List.getElem_cons_zero, List.getElem_cons_succ])
                first | (refine wpAnyH_take (i := 11) (v := ?_) rfl (by kernel_rfl) (by kernel_rfl) (by kernel_rfl) (fun _ _ _ h => h) (Or.inl ⟨by rfl, ?_⟩) (by assumption) ?_; rotate_left; (intro X hSw; (try dsimp only at hSw); go_simp; (try with_reducible rfl)); (try simp only [Act.put, List.setIfInBounds_toArray, List.set_cons_zero, List.set_cons_succ, List.getElem_toArray, List.getElem_cons_zero, List.getElem_cons_succ])) | fail "take 11"
                refine wpAnyH_done (by kernel_rfl) ?_ _
                go_wp2_with fail
                go_meet
                exact ⟨_, rfl, rfl, StkAns.set hcW (by omega) (Nat.le_refl _) HN.out HO.out, (((((((HT.out.set hcW _ _).set hcW _ _).set hcW _ _).set hcW _ _).set hcW _ _).set hcW _ _).set hcW _ _)⟩
            · go_simp
              obtain ⟨Y, hY⟩ : ∃ Y, Y = (w11.alloc (.cells #[.slice none 0 0, .slice none 0 0, .int .i64 0, .int .i64 0, .int .i64 0, .int .i64 0, .int .i64 0] 58)).drew := ⟨_, rfl⟩
              have HN := Lib.hid (show Box7 Y w11.heap.size 58 (.slice none 0 0) (.slice none 0 0) (.int .i64 0) (.int .i64 0) (.int .i64 0) (.int .i64 0) (.int .i64 0) from by rw [hY]; exact Box7.new _ _ _ _ _ _ _ _ _)
              have hYb : Below w11.heap.size w11 Y := by rw [hY]; exact ((Below.refl _ _).alloc (Nat.le_refl _) _).drew
              have hcW : w11.heap.size ≤ w11.heap.size := Nat.le_refl _
              have HT := Lib.hid (show Snc w11 Y from (Snc.refl w11).call hYb)
              have hcl : w11.heap.size < Y.heap.size := HN.out.lt
              rw [← hY]
              clear hY hYb
              (try dsimp only)
              refine hK.out _ _ (by exact SQ4.out _ HT.out) (fun hHeld => ?_)
              clear hK K
              (try simp only [Act.put, List.setIfInBounds_toArray, List.set_cons_zero, List.set_cons_succ, List.getElem_toArray, List.getElem_cons_zero, List.getElem_cons_succ])
              refine wpAnyH_ready (rs := [2]) (by kernel_rfl) (by simp) ?_
              refine AllReadyH.cons rfl (fun K hK => ?_) AllReadyH.nil
              go_simp
              refine (toStacks_own _ _ _ _ _ _ _ _ _ _ _ F I _ (HF.out.below (HB.out.trans (HT.out.1.mono HB.out.size))) (HI.out.below (HB.out.trans (HT.out.1.mono HB.out.size))) hfn hm).mono ?_
              rintro e v1 ⟨vv, rfl, rr, hbb⟩
              obtain ⟨fa2, fc2, ia2, ic2, rfl, hRF, hRI⟩ := rr.read
              have HR := Lib.hid (fun X (h : Snc v1 X) => (show Vals X fa2 F.length fc2 F ∧ Nums .i64 X ia2 I.length ic2 I from ⟨hRF.below h.1, hRI.below h.1⟩))
              have HT := Lib.hid (HT.out.call hbb)
              have HN := Lib.hid (HN.out.call hbb)
              have hcl : w11.heap.size < v1.heap.size := HN.out.lt
              clear hbb rr hRF hRI
              (try dsimp only)
              refine hK.out _ _ (by exact SQ4.out _ HT.out) (fun hHeld => ?_)
              clear hK K
              (try simp only [Act.put, List.setIfInBounds_toArray, List.set_cons_zero, List.set_cons_succ, List.getElem_toArray, List.getElem_cons_zero, List.getElem_cons_succ])
              refine wpAnyH_ready (rs := [4]) (by kernel_rfl) (by simp) ?_
              refine AllReadyH.cons rfl (fun K hK => ?_) AllReadyH.nil
              go_simp
              refine (toOp_any p x _).mono ?_
              rintro e v2 ⟨rfl, hbb⟩
              have HR := Lib.hid (fun X (h : Snc v2 X) => HR.out X ⟨hbb.trans (h.1.mono hbb.size), Nat.le_trans hbb.size h.2⟩)
              have HT := Lib.hid (HT.out.call hbb)
              have HN := Lib.hid (HN.out.call hbb)
              have hcl : w11.heap.size < v2.heap.size := HN.out.lt
              clear hbb
              (try dsimp only)
              refine hK.out _ _ (by exact SQ4.out _ HT.out) (fun hHeld => ?_)
              clear hK K
              (try simp only [Act.put, List.setIfInBounds_toArray, List.set_cons_zero, List.set_cons_succ, List.getElem_toArray, List.getElem_cons_zero, List.getElem_cons_succ])
              refine wpAnyH_ready (rs := [5]) (by kernel_rfl) (by simp) ?_
              refine AllReadyH.cons rfl (fun K hK => ?_) AllReadyH.nil
              go_simp
              refine (H2.out _ _ _ _ _ (HR.out _ (Snc.refl _)).1 (HR.out _ (Snc.refl _)).2).mono ?_
              rintro e v3 ⟨vv, rfl, rr, hbb⟩
              obtain ⟨fa9, fc9, ia9, ic9, rfl, -, -⟩ := rr.read
              have HO := Lib.hid rr
              have hloL := HT.out.2
              have hloH := hbb.size
              have HT := Lib.hid (HT.out.call hbb)
              have HN := Lib.hid (HN.out.call hbb)
              clear hbb rr
              (try dsimp only)
              refine hK.out _ _ (by exact SQ4.out _ HT.out) (fun hHeld => ?_)
              clear hK K
              (try simp only [Act.put, List.setIfInBounds_toArray, List.set_cons_zero, List.set_cons_succ, List.getElem_toArray, List.getElem_cons_zero, List.getElem_cons_succ])
              first | (refine wpAnyH_take (i := 6) (v := ?_) rfl (by kernel_rfl) (by kernel_rfl) (by kernel_rfl) (fun _ _ _ h => h) (Or.inl ⟨by rfl, ?_⟩) (by assumption) ?_; rotate_left; (intro X hSw; (try dsimp only at hSw); go_simp; (try with_reducible rfl)); (try simp only [Act.put, List.setIfInBounds_toArray, List.set_cons_zero, List.set_cons_succ, List.getElem_toArray, List.getElem_cons_zero, List.getElem_cons_succ])) | fail "take 6"
              first | (refine wpAnyH_take (i := 7) (v := ?_) rfl (by kernel_rfl) (by kernel_rfl) (by kernel_rfl) (fun _ _ _ h => h) (Or.inl ⟨by rfl, ?_⟩) (by assumption) ?_; rotate_left; (intro X hSw; (try dsimp only at hSw); go_simp; (try with_reducible rfl)); (try simp only [Act.put, List.setIfInBounds_toArray, List.set_cons_zero, List.set_cons_succ, List.getElem_toArray, List.getElem_cons_zero, List.getElem_cons_succ])) | fail "take 7"
              first | (refine wpAnyH_take (i := 8) (v := ?_) rfl (by kernel_rfl) (by kernel_rfl) (by kernel_rfl) (fun _ _ _ h => h) (Or.inl ⟨by rfl, ?_⟩) (by assumption) ?_; rotate_left; (intro X hSw; (try dsimp only at hSw); go_simp; (try with_reducible rfl)); (try simp only [Act.put, List.setIfInBounds_toArray, List.set_cons_zero, List.set_cons_succ, List.getElem_toArray, List.getElem_cons_zero, List.getElem_cons_succ])) | fail "take 8"
              obtain ⟨z0, z1, z2, z3, z4, z5, z6⟩ := HN.out.cells
              have zf := HN.out.free
              refine wpAnyH_ready (rs := [10]) (by kernel_rfl) (by simp) ?_
              refine AllReadyH.cons rfl (fun K hK => ?_) AllReadyH.nil
              go_simp
              (try dsimp only)
              refine hK.out _ _ (by exact SQ4.out _ (((((((HT.out.set hcW _ _).set hcW _ _).set hcW _ _).set hcW _ _).set hcW _ _).set hcW _ _).set hcW _ _)) (fun hHeld => ?_)
              clear hK K
              (try simp only [Act.put, List.setIfInBounds_toArray, List.set_cons_zero, List.set_cons_succ, List.getElem_toArray, List.getElem_cons_zero, List.getElem_cons_succ])
              first | (refine wpAnyH_take (i := 11) (v := ?_) rfl (by kernel_rfl) (by kernel_rfl) (by kernel_rfl) (fun _ _ _ h => h) (Or.inl ⟨by rfl, ?_⟩) (by assumption) ?_; rotate_left; (intro X hSw; (try dsimp only at hSw); go_simp; (try with_reducible rfl)); (try simp only [Act.put, List.setIfInBounds_toArray, List.set_cons_zero, List.set_cons_succ, List.getElem_toArray, List.getElem_cons_zero, List.getElem_cons_succ])) | fail "take 11"
              refine wpAnyH_done (by kernel_rfl) ?_ _
              go_wp2_with fail
              go_meet
              exact ⟨_, rfl, rfl, StkAns.set hcW (by omega) (Nat.le_refl _) HN.out HO.out, (((((((HT.out.set hcW _ _).set hcW _ _).set hcW _ _).set hcW _ _).set hcW _ _).set hcW _ _).set hcW _ _)⟩
          case rest =>
            obtain ⟨c2, rfl, rfl, hA2, hs2⟩ := hcut
            obtain ⟨lo2, hi2, fa7, fc7, ia7, ic7, -, -, -, -, -, -, f7, f8⟩ := hA2
            have B2 := Lib.hid f7
            have R2 := Lib.hid f8
            clear f7 f8
            have B0 := Lib.hid (B0.out.call hs2.1)
            have R0 := Lib.hid (R0.out.below hs2.1)
            have B1 := Lib.hid (B1.out.call hs2.1)
            have R1 := Lib.hid (R1.out.below hs2.1)
            have HB := Lib.hid (HB.out.trans (hs2.1.mono HB.out.size))
            clear hs2
            obtain ⟨y0, y1, y2, y3, y4, y5, y6⟩ := B2.out.cells
            obtain ⟨r0, r1, r2, r3, r4, r5, r6⟩ := B0.out.cells
            go_wp2_with fail
            refine (eqStacks_own _ R2.out R0.out).mono ?_
            rintro e w13 ⟨rfl, hb13⟩
            have B1 := Lib.hid (B1.out.call hb13)
            have R1 := Lib.hid (R1.out.below hb13)
            have HB := Lib.hid (HB.out.trans (hb13.mono HB.out.size))
            clear hb13
            clear y0 y1 y2 y3 y4 y5 y6 r0 r1 r2 r3 r4 r5 r6
            obtain ⟨g0, g1, g2, g3, g4, g5, g6⟩ := B1.out.cells
            go_wp2_with fail
            refine (HH2.out _ _ _ _ R1.out).mono ?_
            rintro e w14 ⟨rfl, hb14⟩
            have HB := Lib.hid (HB.out.trans (hb14.mono HB.out.size))
            clear hb14
            go_wp2_with fail
            go_returns
            exact ⟨rfl, HB.out⟩
        · skip
          go_wp2_with fail
          refine (eqStacks_own _ R1.out R0.out).mono ?_
          rintro e w5 ⟨rfl, hb5⟩
          have HA := Lib.hid (HA.out.call hb5)
          have HP := Lib.hid (HP.out.call hb5)
          have B0 := Lib.hid (B0.out.call hb5)
          have R0 := Lib.hid (R0.out.below hb5)
          have B1 := Lib.hid (B1.out.call hb5)
          have R1 := Lib.hid (R1.out.below hb5)
          have HX := Lib.hid (HX.out.call hb5)
          have RX := Lib.hid (RX.out.below hb5)
          have HB := Lib.hid (HB.out.trans (hb5.mono HB.out.size))
          clear r0 r1 r2 r3 r4 r5 r6 g0 g1 g2 g3 g4 g5 g6
          clear hb5
          obtain ⟨x0, x1, x2, x3, x4, x5, x6⟩ := HX.out.cells
          obtain ⟨q0, q1, q2, q3, q4, q5, q6⟩ := HA.out.cells
          go_wp2_with fail
          clear x0 x1 x2 x3 x4 x5 x6 q0 q1 q2 q3 q4 q5 q6
          have sq3 : ∀ X, Snc w5 X → (X.cell? ⟨w2.heap.size, 0, none⟩ = some (.slice fa1 F.length fc1) ∧ X.cell? ⟨w2.heap.size, 1, none⟩ = some (.slice ia1 I.length ic1) ∧ X.cell? ⟨w2.heap.size, 2, none⟩ = some (.int .i64 bx) ∧ X.cell? ⟨w2.heap.size, 3, none⟩ = some (.int .i64 by') ∧ X.cell? ⟨w2.heap.size, 4, none⟩ = some (.int .i64 bz) ∧ X.cell? ⟨w2.heap.size, 5, none⟩ = some (.int .i64 fl) ∧ X.cell? ⟨w2.heap.size, 6, none⟩ = some (.int .i64 co)) ∧ (X.cell? ⟨w.heap.size, 0, none⟩ = some (.slice fa fn fc) ∧ X.cell? ⟨w.heap.size, 1, none⟩ = some (.slice ia m ic) ∧ X.cell? ⟨w.heap.size, 2, none⟩ = some (.int .i64 bx) ∧ X.cell? ⟨w.heap.size, 3, none⟩ = some (.int .i64 by') ∧ X.cell? ⟨w.heap.size, 4, none⟩ = some (.int .i64 bz) ∧ X.cell? ⟨w.heap.size, 5, none⟩ = some (.int .i64 fl) ∧ X.cell? ⟨w.heap.size, 6, none⟩ = some (.int .i64 co)) := fun X h => ⟨(HX.out.call h.1).cells, (HA.out.call h.1).cells⟩
          have SQ3 := Lib.hid sq3
          clear sq3
          refine wp_region_held_drew (S := fun X => (X.cell? ⟨w2.heap.size, 0, none⟩ = some (.slice fa1 F.length fc1) ∧ X.cell? ⟨w2.heap.size, 1, none⟩ = some (.slice ia1 I.length ic1) ∧ X.cell? ⟨w2.heap.size, 2, none⟩ = some (.int .i64 bx) ∧ X.cell? ⟨w2.heap.size, 3, none⟩ = some (.int .i64 by') ∧ X.cell? ⟨w2.heap.size, 4, none⟩ = some (.int .i64 bz) ∧ X.cell? ⟨w2.heap.size, 5, none⟩ = some (.int .i64 fl) ∧ X.cell? ⟨w2.heap.size, 6, none⟩ = some (.int .i64 co)) ∧ (X.cell? ⟨w.heap.size, 0, none⟩ = some (.slice fa fn fc) ∧ X.cell? ⟨w.heap.size, 1, none⟩ = some (.slice ia m ic) ∧ X.cell? ⟨w.heap.size, 2, none⟩ = some (.int .i64 bx) ∧ X.cell? ⟨w.heap.size, 3, none⟩ = some (.int .i64 by') ∧ X.cell? ⟨w.heap.size, 4, none⟩ = some (.int .i64 bz) ∧ X.cell? ⟨w.heap.size, 5, none⟩ = some (.int .i64 fl) ∧ X.cell? ⟨w.heap.size, 6, none⟩ = some (.int .i64 co))) (by kernel_rfl) (by exact SQ3.out _ (Snc.refl w5).drew) (fun hHeld => ?_)
          have HT := Lib.hid (Snc.refl w5).drew
          first | (refine wpAnyH_take (i := 0) (v := ?_) rfl (by kernel_rfl) (by kernel_rfl) (by kernel_rfl) (fun _ _ _ h => h) (Or.inl ⟨by rfl, ?_⟩) (by assumption) ?_; rotate_left; (intro X hSw; (try dsimp only at hSw); go_simp; (try with_reducible rfl)); (try simp only [Act.put, List.setIfInBounds_toArray, List.set_cons_zero, List.set_cons_succ, List.getElem_toArray, List.getElem_cons_zero, List.getElem_cons_succ])) | fail "take 0"
          first | (refine wpAnyH_take (i := 1) (v := ?_) rfl (by kernel_rfl) (by kernel_rfl) (by kernel_rfl) (fun _ _ _ h => h) (Or.inl ⟨by rfl, ?_⟩) (by assumption) ?_; rotate_left; (intro X hSw; (try dsimp only at hSw); go_simp; (try with_reducible rfl)); (try simp only [Act.put, List.setIfInBounds_toArray, List.set_cons_zero, List.set_cons_succ, List.getElem_toArray, List.getElem_cons_zero, List.getElem_cons_succ])) | fail "take 1"
          refine wpAnyH_ready (rs := [2]) (by kernel_rfl) (by simp) ?_
          refine AllReadyH.cons rfl (fun K hK => ?_) AllReadyH.nil
          go_simp
          refine (toStacks_own _ _ _ _ _ _ _ _ _ _ _ F I _ (HF.out.below (HB.out.trans (HT.out.1.mono HB.out.size))) (HI.out.below (HB.out.trans (HT.out.1.mono HB.out.size))) hfn hm).mono ?_
          rintro e w6 ⟨vv, rfl, rr, hb6⟩
          have HT := Lib.hid (HT.out.call hb6)
          have R6 := Lib.hid rr
          clear hb6 rr
          (try dsimp only)
          refine hK.out _ _ (by exact SQ3.out _ HT.out) (fun hHeld => ?_)
          clear hK K
          (try simp only [Act.put, List.setIfInBounds_toArray, List.set_cons_zero, List.set_cons_succ, List.getElem_toArray, List.getElem_cons_zero, List.getElem_cons_succ])
          refine wpAnyH_ready (rs := [3]) (by kernel_rfl) (by simp) ?_
          refine AllReadyH.cons rfl (fun K hK => ?_) AllReadyH.nil
          go_simp
          refine (eqStacks_own _ (RX.out.below HT.out.1) R6.out).mono ?_
          rintro e w7 ⟨rfl, hb7⟩
          have HT := Lib.hid (HT.out.call hb7)
          clear hb7
          (try dsimp only)
          refine hK.out _ _ (by exact SQ3.out _ HT.out) (fun hHeld => ?_)
          clear hK K
          (try simp only [Act.put, List.setIfInBounds_toArray, List.set_cons_zero, List.set_cons_succ, List.getElem_toArray, List.getElem_cons_zero, List.getElem_cons_succ])
          first | (refine wpAnyH_take (i := 4) (v := ?_) rfl (by kernel_rfl) (by kernel_rfl) (by kernel_rfl) (fun _ _ _ h => h) (Or.inl ⟨by rfl, ?_⟩) (by assumption) ?_; rotate_left; (intro X hSw; (try dsimp only at hSw); go_simp; (try with_reducible rfl)); (try simp only [Act.put, List.setIfInBounds_toArray, List.set_cons_zero, List.set_cons_succ, List.getElem_toArray, List.getElem_cons_zero, List.getElem_cons_succ])) | fail "take 4"
          refine wpAnyH_done (by kernel_rfl) ?_ _
          have HA := Lib.hid (HA.out.call HT.out.1)
          have HP := Lib.hid (HP.out.call HT.out.1)
          have B0 := Lib.hid (B0.out.call HT.out.1)
          have R0 := Lib.hid (R0.out.below HT.out.1)
          have B1 := Lib.hid (B1.out.call HT.out.1)
          have R1 := Lib.hid (R1.out.below HT.out.1)
          have HX := Lib.hid (HX.out.call HT.out.1)
          have RX := Lib.hid (RX.out.below HT.out.1)
          have HB := Lib.hid (HB.out.trans (HT.out.1.mono HB.out.size))
          have hz7 := HT.out.2
          clear HT SQ3 R6
          obtain ⟨x0, x1, x2, x3, x4, x5, x6⟩ := HX.out.cells
          go_wp2_with fail
          refine (HM1.out _ _ _ _ RX.out).mono ?_
          rintro e w8 ⟨rfl, -, ht8⟩
          have hA := HA.out.lt
          obtain ⟨i1, i2, i3, i4, i5⟩ := HIn.out
          have HB := Lib.hid (ht8.below HB.out (Nat.le_refl _) (by omega))
          have HA := Lib.hid (show Box7 w8 w.heap.size 54 (.slice fa fn fc) (.slice ia m ic) (.int .i64 bx) (.int .i64 by') (.int .i64 bz) (.int .i64 fl) (.int .i64 co) from touch_block HA.out ht8 (by omega))
          have HP := Lib.hid (show Box2 w8 (w.heap.size + 1) 28 (.bool p) (.int .i64 x) from touch_block HP.out ht8 (by omega))
          have B0 := Lib.hid (show Box7 w8 c0 58 (.slice fa0 S.front.length fc0) (.slice ia0 S.items.length ic0) (.int .i64 S.back.x) (.int .i64 S.back.y) (.int .i64 S.back.z) (.int .i64 S.flips) (.int .i64 S.cost) from touch_block B0.out ht8 (by omega))
          have R0 := Lib.hid (R0.out.touch ht8 (by omega))
          have B1 := Lib.hid (show Box7 w8 c1 58 (.slice fa5 S.front.length fc5) (.slice ia5 S.items.length ic5) (.int .i64 S.back.x) (.int .i64 S.back.y) (.int .i64 S.back.z) (.int .i64 S.flips) (.int .i64 S.cost) from touch_block B1.out ht8 (by omega))
          have R1 := Lib.hid (R1.out.touch ht8 (by omega))
          clear ht8 HX RX
          clear x0 x1 x2 x3 x4 x5 x6
          obtain ⟨r0, r1, r2, r3, r4, r5, r6⟩ := B0.out.cells
          obtain ⟨g0, g1, g2, g3, g4, g5, g6⟩ := B1.out.cells
          go_wp2_with fail
          refine (eqStacks_own _ R1.out R0.out).mono ?_
          rintro e w9 ⟨rfl, hb9⟩
          have HA := Lib.hid (HA.out.call hb9)
          have HP := Lib.hid (HP.out.call hb9)
          have B0 := Lib.hid (B0.out.call hb9)
          have R0 := Lib.hid (R0.out.below hb9)
          have B1 := Lib.hid (B1.out.call hb9)
          have R1 := Lib.hid (R1.out.below hb9)
          have HB := Lib.hid (HB.out.trans (hb9.mono HB.out.size))
          clear hb9
          clear r0 r1 r2 r3 r4 r5 r6 g0 g1 g2 g3 g4 g5 g6
          obtain ⟨g0, g1, g2, g3, g4, g5, g6⟩ := B1.out.cells
          go_wp2_with fail
          refine (HM2.out _ _ _ _ R1.out).mono ?_
          rintro e w10 ⟨rfl, rr10, ht10⟩
          have R1 := Lib.hid rr10
          have HB := Lib.hid (ht10.below HB.out (Nat.le_refl _) (by omega))
          have HA := Lib.hid (show Box7 w10 w.heap.size 54 (.slice fa fn fc) (.slice ia m ic) (.int .i64 bx) (.int .i64 by') (.int .i64 bz) (.int .i64 fl) (.int .i64 co) from touch_block HA.out ht10 (by omega))
          have HP := Lib.hid (show Box2 w10 (w.heap.size + 1) 28 (.bool p) (.int .i64 x) from touch_block HP.out ht10 (by omega))
          have B0 := Lib.hid (show Box7 w10 c0 58 (.slice fa0 S.front.length fc0) (.slice ia0 S.items.length ic0) (.int .i64 S.back.x) (.int .i64 S.back.y) (.int .i64 S.back.z) (.int .i64 S.flips) (.int .i64 S.cost) from touch_block B0.out ht10 (by omega))
          have R0 := Lib.hid (R0.out.touch ht10 (by omega))
          have B1 := Lib.hid (show Box7 w10 c1 58 (.slice fa5 S.front.length fc5) (.slice ia5 S.items.length ic5) (.int .i64 S.back.x) (.int .i64 S.back.y) (.int .i64 S.back.z) (.int .i64 S.flips) (.int .i64 S.cost) from touch_block B1.out ht10 (by omega))
          clear ht10 rr10
          clear g0 g1 g2 g3 g4 g5 g6
          obtain ⟨g0, g1, g2, g3, g4, g5, g6⟩ := B1.out.cells
          go_wp2_with fail
          refine (HH2.out _ _ _ _ R1.out).mono ?_
          rintro e w11 ⟨rfl, hb11⟩
          have HA := Lib.hid (HA.out.call hb11)
          have HP := Lib.hid (HP.out.call hb11)
          have B0 := Lib.hid (B0.out.call hb11)
          have R0 := Lib.hid (R0.out.below hb11)
          have B1 := Lib.hid (B1.out.call hb11)
          have R1 := Lib.hid (R1.out.below hb11)
          have HB := Lib.hid (HB.out.trans (hb11.mono HB.out.size))
          clear hb11
          clear g0 g1 g2 g3 g4 g5 g6
          obtain ⟨q0, q1, q2, q3, q4, q5, q6⟩ := HA.out.cells
          obtain ⟨p0, p1⟩ := HP.out.cells
          go_wp2_with fail
          clear p0 p1
          clear q0 q1 q2 q3 q4 q5 q6
          have sq4 : ∀ X, Snc w11 X → (X.cell? ⟨w.heap.size, 0, none⟩ = some (.slice fa fn fc) ∧ X.cell? ⟨w.heap.size, 1, none⟩ = some (.slice ia m ic) ∧ X.cell? ⟨w.heap.size, 2, none⟩ = some (.int .i64 bx) ∧ X.cell? ⟨w.heap.size, 3, none⟩ = some (.int .i64 by') ∧ X.cell? ⟨w.heap.size, 4, none⟩ = some (.int .i64 bz) ∧ X.cell? ⟨w.heap.size, 5, none⟩ = some (.int .i64 fl) ∧ X.cell? ⟨w.heap.size, 6, none⟩ = some (.int .i64 co)) ∧ X.cell? ⟨w.heap.size + 1, 0, none⟩ = some (.bool p) ∧ X.cell? ⟨w.heap.size + 1, 1, none⟩ = some (.int .i64 x) := fun X h => ⟨(HA.out.call h.1).cells, (HP.out.call h.1).cells⟩
          have SQ4 := Lib.hid sq4
          clear sq4
          go_cut [16, 17] (fun s s' wx => ∃ c : Nat, s = .pointer (some ⟨c, 0, none⟩) ∧ s' = .bool (true) ∧ StkAns w11.heap.size wx.heap.size wx c S ∧ Snc w11 wx)
          case first =>
            refine wp_region_held_drew (S := (fun X => (X.cell? ⟨w.heap.size, 0, none⟩ = some (.slice fa fn fc) ∧ X.cell? ⟨w.heap.size, 1, none⟩ = some (.slice ia m ic) ∧ X.cell? ⟨w.heap.size, 2, none⟩ = some (.int .i64 bx) ∧ X.cell? ⟨w.heap.size, 3, none⟩ = some (.int .i64 by') ∧ X.cell? ⟨w.heap.size, 4, none⟩ = some (.int .i64 bz) ∧ X.cell? ⟨w.heap.size, 5, none⟩ = some (.int .i64 fl) ∧ X.cell? ⟨w.heap.size, 6, none⟩ = some (.int .i64 co)) ∧ X.cell? ⟨w.heap.size + 1, 0, none⟩ = some (.bool p) ∧ X.cell? ⟨w.heap.size + 1, 1, none⟩ = some (.int .i64 x))) (by kernel_rfl) (by exact SQ4.out _ (Snc.refl w11).drew) (fun hHeld => ?_)
            have HT := Lib.hid (Snc.refl w11).drew
            first | (refine wpAnyH_take (i := 0) (v := ?_) rfl (by kernel_rfl) (by kernel_rfl) (by kernel_rfl) (fun _ _ _ h => h) (Or.inl ⟨by rfl, ?_⟩) (by assumption) ?_; rotate_left; (intro X hSw; (try dsimp only at hSw); go_simp; (try with_reducible rfl)); (try simp only [Act.put, List.setIfInBounds_toArray, List.set_cons_zero, List.set_cons_succ, List.getElem_toArray, List.getElem_cons_zero, List.getElem_cons_succ])) | fail "take 0"
            first | (refine wpAnyH_take (i := 1) (v := ?_) rfl (by kernel_rfl) (by kernel_rfl) (by kernel_rfl) (fun _ _ _ h => h) (Or.inl ⟨by rfl, ?_⟩) (by assumption) ?_; rotate_left; (intro X hSw; (try dsimp only at hSw); go_simp; (try with_reducible rfl)); (try simp only [Act.put, List.setIfInBounds_toArray, List.set_cons_zero, List.set_cons_succ, List.getElem_toArray, List.getElem_cons_zero, List.getElem_cons_succ])) | fail "take 1"
            first | (refine wpAnyH_take (i := 3) (v := ?_) rfl (by kernel_rfl) (by kernel_rfl) (by kernel_rfl) (fun _ _ _ h => h) (Or.inl ⟨by rfl, ?_⟩) (by assumption) ?_; rotate_left; (intro X hSw; (try dsimp only at hSw); go_simp; (try with_reducible rfl)); (try simp only [Act.put, List.setIfInBounds_toArray, List.set_cons_zero, List.set_cons_succ, List.getElem_toArray, List.getElem_cons_zero, List.getElem_cons_succ])) | fail "take 3"
            refine wpAnyH_ready (rs := [2, 9]) (by kernel_rfl) (by simp) ?_
            refine AllReadyH.cons rfl (fun K hK => ?_) (AllReadyH.cons rfl (fun K hK => ?_) AllReadyH.nil)
            · go_simp
              refine (toStacks_own _ _ _ _ _ _ _ _ _ _ _ F I _ (HF.out.below (HB.out.trans (HT.out.1.mono HB.out.size))) (HI.out.below (HB.out.trans (HT.out.1.mono HB.out.size))) hfn hm).mono ?_
              rintro e v1 ⟨vv, rfl, rr, hbb⟩
              obtain ⟨fa2, fc2, ia2, ic2, rfl, hRF, hRI⟩ := rr.read
              have HR := Lib.hid (fun X (h : Snc v1 X) => (show Vals X fa2 F.length fc2 F ∧ Nums .i64 X ia2 I.length ic2 I from ⟨hRF.below h.1, hRI.below h.1⟩))
              have HT := Lib.hid (HT.out.call hbb)
              clear hbb rr hRF hRI
              (try dsimp only)
              refine hK.out _ _ (by exact SQ4.out _ HT.out) (fun hHeld => ?_)
              clear hK K
              (try simp only [Act.put, List.setIfInBounds_toArray, List.set_cons_zero, List.set_cons_succ, List.getElem_toArray, List.getElem_cons_zero, List.getElem_cons_succ])
              refine wpAnyH_ready (rs := [4, 9]) (by kernel_rfl) (by simp) ?_
              refine AllReadyH.cons rfl (fun K hK => ?_) (AllReadyH.cons rfl (fun K hK => ?_) AllReadyH.nil)
              · go_simp
                refine (toOp_any p x _).mono ?_
                rintro e v2 ⟨rfl, hbb⟩
                have HR := Lib.hid (fun X (h : Snc v2 X) => HR.out X ⟨hbb.trans (h.1.mono hbb.size), Nat.le_trans hbb.size h.2⟩)
                have HT := Lib.hid (HT.out.call hbb)
                clear hbb
                (try dsimp only)
                refine hK.out _ _ (by exact SQ4.out _ HT.out) (fun hHeld => ?_)
                clear hK K
                (try simp only [Act.put, List.setIfInBounds_toArray, List.set_cons_zero, List.set_cons_succ, List.getElem_toArray, List.getElem_cons_zero, List.getElem_cons_succ])
                refine wpAnyH_ready (rs := [5, 9]) (by kernel_rfl) (by simp) ?_
                refine AllReadyH.cons rfl (fun K hK => ?_) (AllReadyH.cons rfl (fun K hK => ?_) AllReadyH.nil)
                · go_simp
                  refine (H2.out _ _ _ _ _ (HR.out _ (Snc.refl _)).1 (HR.out _ (Snc.refl _)).2).mono ?_
                  rintro e v3 ⟨vv, rfl, rr, hbb⟩
                  obtain ⟨fa9, fc9, ia9, ic9, rfl, -, -⟩ := rr.read
                  have HO := Lib.hid rr
                  have hloL := HT.out.2
                  have hloH := hbb.size
                  have HT := Lib.hid (HT.out.call hbb)
                  clear hbb rr
                  (try dsimp only)
                  refine hK.out _ _ (by exact SQ4.out _ HT.out) (fun hHeld => ?_)
                  clear hK K
                  (try simp only [Act.put, List.setIfInBounds_toArray, List.set_cons_zero, List.set_cons_succ, List.getElem_toArray, List.getElem_cons_zero, List.getElem_cons_succ])
                  first | (refine wpAnyH_take (i := 6) (v := ?_) rfl (by kernel_rfl) (by kernel_rfl) (by kernel_rfl) (fun _ _ _ h => h) (Or.inl ⟨by rfl, ?_⟩) (by assumption) ?_; rotate_left; (intro X hSw; (try dsimp only at hSw); go_simp; (try with_reducible rfl)); (try simp only [Act.put, List.setIfInBounds_toArray, List.set_cons_zero, List.set_cons_succ, List.getElem_toArray, List.getElem_cons_zero, List.getElem_cons_succ])) | fail "take 6"
                  first | (refine wpAnyH_take (i := 7) (v := ?_) rfl (by kernel_rfl) (by kernel_rfl) (by kernel_rfl) (fun _ _ _ h => h) (Or.inl ⟨by rfl, ?_⟩) (by assumption) ?_; rotate_left; (intro X hSw; (try dsimp only at hSw); go_simp; (try with_reducible rfl)); (try simp only [Act.put, List.setIfInBounds_toArray, List.set_cons_zero, List.set_cons_succ, List.getElem_toArray, List.getElem_cons_zero, List.getElem_cons_succ])) | fail "take 7"
                  first | (refine wpAnyH_take (i := 8) (v := ?_) rfl (by kernel_rfl) (by kernel_rfl) (by kernel_rfl) (fun _ _ _ h => h) (Or.inl ⟨by rfl, ?_⟩) (by assumption) ?_; rotate_left; (intro X hSw; (try dsimp only at hSw); go_simp; (try with_reducible rfl)); (try simp only [Act.put, List.setIfInBounds_toArray, List.set_cons_zero, List.set_cons_succ, List.getElem_toArray, List.getElem_cons_zero, List.getElem_cons_succ])) | fail "take 8"
                  refine wpAnyH_ready (rs := [9]) (by kernel_rfl) (by simp) ?_
                  refine AllReadyH.cons rfl (fun K hK => ?_) AllReadyH.nil
                  go_simp
                  (try dsimp only)
                  refine hK.out _ _ (by exact SQ4.out _ (HT.out.alloc _)) (fun hHeld => ?_)
                  clear hK K
                  (try simp only [Act.put, List.setIfInBounds_toArray, List.set_cons_zero, List.set_cons_succ, List.getElem_toArray, List.getElem_cons_zero, List.getElem_cons_succ])
                  refine wpAnyH_ready (rs := [10]) (by kernel_rfl) (by simp) ?_
                  refine AllReadyH.cons rfl (fun K hK => ?_) AllReadyH.nil
                  go_simp
                  (try dsimp only)
                  refine hK.out _ _ (by exact SQ4.out _ (HT.out.alloc _)) (fun hHeld => ?_)
                  clear hK K
                  (try simp only [Act.put, List.setIfInBounds_toArray, List.set_cons_zero, List.set_cons_succ, List.getElem_toArray, List.getElem_cons_zero, List.getElem_cons_succ])
                  first | (refine wpAnyH_take (i := 11) (v := ?_) rfl (by kernel_rfl) (by kernel_rfl) (by kernel_rfl) (fun _ _ _ h => h) (Or.inl ⟨by rfl, ?_⟩) (by assumption) ?_; rotate_left; (intro X hSw; (try dsimp only at hSw); go_simp; (try with_reducible rfl)); (try simp only [Act.put, List.setIfInBounds_toArray, List.set_cons_zero, List.set_cons_succ, List.getElem_toArray, List.getElem_cons_zero, List.getElem_cons_succ])) | fail "take 11"
                  refine wpAnyH_done (by kernel_rfl) ?_ _
                  go_wp2_with fail
                  go_meet
                  exact ⟨_, rfl, rfl, StkAns.new hloL hloH (Nat.le_refl _) HO.out, HT.out.alloc _⟩
                · go_simp
                  obtain ⟨Y, hY⟩ : ∃ Y, Y = (v2.alloc (.cells #[.slice none 0 0, .slice none 0 0, .int .i64 0, .int .i64 0, .int .i64 0, .int .i64 0, .int .i64 0] 58)) := ⟨_, rfl⟩
                  have HN := Lib.hid (show Box7 Y v2.heap.size 58 (.slice none 0 0) (.slice none 0 0) (.int .i64 0) (.int .i64 0) (.int .i64 0) (.int .i64 0) (.int .i64 0) from by rw [hY]; exact Box7.new _ _ _ _ _ _ _ _ _)
                  have hYb : Below v2.heap.size v2 Y := by rw [hY]; exact ((Below.refl _ _).alloc (Nat.le_refl _) _)
                  have hcW : w11.heap.size ≤ v2.heap.size := HT.out.2
                  have HT := Lib.hid (show Snc w11 Y from HT.out.call hYb)
                  have hcl : v2.heap.size < Y.heap.size := HN.out.lt
                  have HR := Lib.hid (fun X (h : Snc Y X) => HR.out X ⟨(show Below v2.heap.size v2 X from hYb.trans (h.1.mono hYb.size)), Nat.le_trans hYb.size h.2⟩)
                  rw [← hY]
                  clear hY hYb
                  (try dsimp only)
                  refine hK.out _ _ (by exact SQ4.out _ HT.out) (fun hHeld => ?_)
                  clear hK K
                  (try simp only [Act.put, List.setIfInBounds_toArray, List.set_cons_zero, List.set_cons_succ, List.getElem_toArray, List.getElem_cons_zero, List.getElem_cons_succ])
                  refine wpAnyH_ready (rs := [5]) (by kernel_rfl) (by simp) ?_
                  refine AllReadyH.cons rfl (fun K hK => ?_) AllReadyH.nil
                  go_simp
                  refine (H2.out _ _ _ _ _ (HR.out _ (Snc.refl _)).1 (HR.out _ (Snc.refl _)).2).mono ?_
                  rintro e v3 ⟨vv, rfl, rr, hbb⟩
                  obtain ⟨fa9, fc9, ia9, ic9, rfl, -, -⟩ := rr.read
                  have HO := Lib.hid rr
                  have hloL := HT.out.2
                  have hloH := hbb.size
                  have HT := Lib.hid (HT.out.call hbb)
                  have HN := Lib.hid (HN.out.call hbb)
                  clear hbb rr
                  (try dsimp only)
                  refine hK.out _ _ (by exact SQ4.out _ HT.out) (fun hHeld => ?_)
                  clear hK K
                  (try simp only [Act.put, List.setIfInBounds_toArray, List.set_cons_zero, List.set_cons_succ, List.getElem_toArray, List.getElem_cons_zero, List.getElem_cons_succ])
                  first | (refine wpAnyH_take (i := 6) (v := ?_) rfl (by kernel_rfl) (by kernel_rfl) (by kernel_rfl) (fun _ _ _ h => h) (Or.inl ⟨by rfl, ?_⟩) (by assumption) ?_; rotate_left; (intro X hSw; (try dsimp only at hSw); go_simp; (try with_reducible rfl)); (try simp only [Act.put, List.setIfInBounds_toArray, List.set_cons_zero, List.set_cons_succ, List.getElem_toArray, List.getElem_cons_zero, List.getElem_cons_succ])) | fail "take 6"
                  first | (refine wpAnyH_take (i := 7) (v := ?_) rfl (by kernel_rfl) (by kernel_rfl) (by kernel_rfl) (fun _ _ _ h => h) (Or.inl ⟨by rfl, ?_⟩) (by assumption) ?_; rotate_left; (intro X hSw; (try dsimp only at hSw); go_simp; (try with_reducible rfl)); (try simp only [Act.put, List.setIfInBounds_toArray, List.set_cons_zero, List.set_cons_succ, List.getElem_toArray, List.getElem_cons_zero, List.getElem_cons_succ])) | fail "take 7"
                  first | (refine wpAnyH_take (i := 8) (v := ?_) rfl (by kernel_rfl) (by kernel_rfl) (by kernel_rfl) (fun _ _ _ h => h) (Or.inl ⟨by rfl, ?_⟩) (by assumption) ?_; rotate_left; (intro X hSw; (try dsimp only at hSw); go_simp; (try with_reducible rfl)); (try simp only [Act.put, List.setIfInBounds_toArray, List.set_cons_zero, List.set_cons_succ, List.getElem_toArray, List.getElem_cons_zero, List.getElem_cons_succ])) | fail "take 8"
                  obtain ⟨z0, z1, z2, z3, z4, z5, z6⟩ := HN.out.cells
                  have zf := HN.out.free
                  refine wpAnyH_ready (rs := [10]) (by kernel_rfl) (by simp) ?_
                  refine AllReadyH.cons rfl (fun K hK => ?_) AllReadyH.nil
                  go_simp
                  (try dsimp only)
                  refine hK.out _ _ (by exact SQ4.out _ (((((((HT.out.set hcW _ _).set hcW _ _).set hcW _ _).set hcW _ _).set hcW _ _).set hcW _ _).set hcW _ _)) (fun hHeld => ?_)
                  clear hK K
                  (try simp only [Act.put, List.setIfInBounds_toArray, List.set_cons_zero, List.set_cons_succ, List.getElem_toArray, List.getElem_cons_zero, List.getElem_cons_succ])
                  first | (refine wpAnyH_take (i := 11) (v := ?_) rfl (by kernel_rfl) (by kernel_rfl) (by kernel_rfl) (fun _ _ _ h => h) (Or.inl ⟨by rfl, ?_⟩) (by assumption) ?_; rotate_left; (intro X hSw; (try dsimp only at hSw); go_simp; (try with_reducible rfl)); (try simp only [Act.put, List.setIfInBounds_toArray, List.set_cons_zero, List.set_cons_succ, List.getElem_toArray, List.getElem_cons_zero, List.getElem_cons_succ])) | fail "take 11"
                  refine wpAnyH_done (by kernel_rfl) ?_ _
                  go_wp2_with fail
                  go_meet
                  exact ⟨_, rfl, rfl, StkAns.set hcW (by omega) (Nat.le_refl _) HN.out HO.out, (((((((HT.out.set hcW _ _).set hcW _ _).set hcW _ _).set hcW _ _).set hcW _ _).set hcW _ _).set hcW _ _)⟩
              · go_simp
                obtain ⟨Y, hY⟩ : ∃ Y, Y = (v1.alloc (.cells #[.slice none 0 0, .slice none 0 0, .int .i64 0, .int .i64 0, .int .i64 0, .int .i64 0, .int .i64 0] 58)) := ⟨_, rfl⟩
                have HN := Lib.hid (show Box7 Y v1.heap.size 58 (.slice none 0 0) (.slice none 0 0) (.int .i64 0) (.int .i64 0) (.int .i64 0) (.int .i64 0) (.int .i64 0) from by rw [hY]; exact Box7.new _ _ _ _ _ _ _ _ _)
                have hYb : Below v1.heap.size v1 Y := by rw [hY]; exact ((Below.refl _ _).alloc (Nat.le_refl _) _)
                have hcW : w11.heap.size ≤ v1.heap.size := HT.out.2
                have HT := Lib.hid (show Snc w11 Y from HT.out.call hYb)
                have hcl : v1.heap.size < Y.heap.size := HN.out.lt
                have HR := Lib.hid (fun X (h : Snc Y X) => HR.out X ⟨(show Below v1.heap.size v1 X from hYb.trans (h.1.mono hYb.size)), Nat.le_trans hYb.size h.2⟩)
                rw [← hY]
                clear hY hYb
                (try dsimp only)
                refine hK.out _ _ (by exact SQ4.out _ HT.out) (fun hHeld => ?_)
                clear hK K
                (try simp only [Act.put, List.setIfInBounds_toArray, List.set_cons_zero, List.set_cons_succ, List.getElem_toArray, List.getElem_cons_zero, List.getElem_cons_succ])
                refine wpAnyH_ready (rs := [4]) (by kernel_rfl) (by simp) ?_
                refine AllReadyH.cons rfl (fun K hK => ?_) AllReadyH.nil
                go_simp
                refine (toOp_any p x _).mono ?_
                rintro e v2 ⟨rfl, hbb⟩
                have HR := Lib.hid (fun X (h : Snc v2 X) => HR.out X ⟨hbb.trans (h.1.mono hbb.size), Nat.le_trans hbb.size h.2⟩)
                have HT := Lib.hid (HT.out.call hbb)
                have HN := Lib.hid (HN.out.call hbb)
                have hcl : v1.heap.size < v2.heap.size := HN.out.lt
                clear hbb
                (try dsimp only)
                refine hK.out _ _ (by exact SQ4.out _ HT.out) (fun hHeld => ?_)
                clear hK K
                (try simp only [Act.put, List.setIfInBounds_toArray, List.set_cons_zero, List.set_cons_succ, List.getElem_toArray, List.getElem_cons_zero, List.getElem_cons_succ])
                refine wpAnyH_ready (rs := [5]) (by kernel_rfl) (by simp) ?_
                refine AllReadyH.cons rfl (fun K hK => ?_) AllReadyH.nil
                go_simp
                refine (H2.out _ _ _ _ _ (HR.out _ (Snc.refl _)).1 (HR.out _ (Snc.refl _)).2).mono ?_
                rintro e v3 ⟨vv, rfl, rr, hbb⟩
                obtain ⟨fa9, fc9, ia9, ic9, rfl, -, -⟩ := rr.read
                have HO := Lib.hid rr
                have hloL := HT.out.2
                have hloH := hbb.size
                have HT := Lib.hid (HT.out.call hbb)
                have HN := Lib.hid (HN.out.call hbb)
                clear hbb rr
                (try dsimp only)
                refine hK.out _ _ (by exact SQ4.out _ HT.out) (fun hHeld => ?_)
                clear hK K
                (try simp only [Act.put, List.setIfInBounds_toArray, List.set_cons_zero, List.set_cons_succ, List.getElem_toArray, List.getElem_cons_zero, List.getElem_cons_succ])
                first | (refine wpAnyH_take (i := 6) (v := ?_) rfl (by kernel_rfl) (by kernel_rfl) (by kernel_rfl) (fun _ _ _ h => h) (Or.inl ⟨by rfl, ?_⟩) (by assumption) ?_; rotate_left; (intro X hSw; (try dsimp only at hSw); go_simp; (try with_reducible rfl)); (try simp only [Act.put, List.setIfInBounds_toArray, List.set_cons_zero, List.set_cons_succ, List.getElem_toArray, List.getElem_cons_zero, List.getElem_cons_succ])) | fail "take 6"
                first | (refine wpAnyH_take (i := 7) (v := ?_) rfl (by kernel_rfl) (by kernel_rfl) (by kernel_rfl) (fun _ _ _ h => h) (Or.inl ⟨by rfl, ?_⟩) (by assumption) ?_; rotate_left; (intro X hSw; (try dsimp only at hSw); go_simp; (try with_reducible rfl)); (try simp only [Act.put, List.setIfInBounds_toArray, List.set_cons_zero, List.set_cons_succ, List.getElem_toArray, List.getElem_cons_zero, List.getElem_cons_succ])) | fail "take 7"
                first | (refine wpAnyH_take (i := 8) (v := ?_) rfl (by kernel_rfl) (by kernel_rfl) (by kernel_rfl) (fun _ _ _ h => h) (Or.inl ⟨by rfl, ?_⟩) (by assumption) ?_; rotate_left; (intro X hSw; (try dsimp only at hSw); go_simp; (try with_reducible rfl)); (try simp only [Act.put, List.setIfInBounds_toArray, List.set_cons_zero, List.set_cons_succ, List.getElem_toArray, List.getElem_cons_zero, List.getElem_cons_succ])) | fail "take 8"
                obtain ⟨z0, z1, z2, z3, z4, z5, z6⟩ := HN.out.cells
                have zf := HN.out.free
                refine wpAnyH_ready (rs := [10]) (by kernel_rfl) (by simp) ?_
                refine AllReadyH.cons rfl (fun K hK => ?_) AllReadyH.nil
                go_simp
                (try dsimp only)
                refine hK.out _ _ (by exact SQ4.out _ (((((((HT.out.set hcW _ _).set hcW _ _).set hcW _ _).set hcW _ _).set hcW _ _).set hcW _ _).set hcW _ _)) (fun hHeld => ?_)
                clear hK K
                (try simp only [Act.put, List.setIfInBounds_toArray, List.set_cons_zero, List.set_cons_succ, List.getElem_toArray, List.getElem_cons_zero, List.getElem_cons_succ])
                first | (refine wpAnyH_take (i := 11) (v := ?_) rfl (by kernel_rfl) (by kernel_rfl) (by kernel_rfl) (fun _ _ _ h => h) (Or.inl ⟨by rfl, ?_⟩) (by assumption) ?_; rotate_left; (intro X hSw; (try dsimp only at hSw); go_simp; (try with_reducible rfl)); (try simp only [Act.put, List.setIfInBounds_toArray, List.set_cons_zero, List.set_cons_succ, List.getElem_toArray, List.getElem_cons_zero, List.getElem_cons_succ])) | fail "take 11"
                refine wpAnyH_done (by kernel_rfl) ?_ _
                go_wp2_with fail
                go_meet
                exact ⟨_, rfl, rfl, StkAns.set hcW (by omega) (Nat.le_refl _) HN.out HO.out, (((((((HT.out.set hcW _ _).set hcW _ _).set hcW _ _).set hcW _ _).set hcW _ _).set hcW _ _).set hcW _ _)⟩
            · go_simp
              obtain ⟨Y, hY⟩ : ∃ Y, Y = (w11.alloc (.cells #[.slice none 0 0, .slice none 0 0, .int .i64 0, .int .i64 0, .int .i64 0, .int .i64 0, .int .i64 0] 58)).drew := ⟨_, rfl⟩
              have HN := Lib.hid (show Box7 Y w11.heap.size 58 (.slice none 0 0) (.slice none 0 0) (.int .i64 0) (.int .i64 0) (.int .i64 0) (.int .i64 0) (.int .i64 0) from by rw [hY]; exact Box7.new _ _ _ _ _ _ _ _ _)
              have hYb : Below w11.heap.size w11 Y := by rw [hY]; exact ((Below.refl _ _).alloc (Nat.le_refl _) _).drew
              have hcW : w11.heap.size ≤ w11.heap.size := Nat.le_refl _
              have HT := Lib.hid (show Snc w11 Y from (Snc.refl w11).call hYb)
              have hcl : w11.heap.size < Y.heap.size := HN.out.lt
              rw [← hY]
              clear hY hYb
              (try dsimp only)
              refine hK.out _ _ (by exact SQ4.out _ HT.out) (fun hHeld => ?_)
              clear hK K
              (try simp only [Act.put, List.setIfInBounds_toArray, List.set_cons_zero, List.set_cons_succ, List.getElem_toArray, List.getElem_cons_zero, List.getElem_cons_succ])
              refine wpAnyH_ready (rs := [2]) (by kernel_rfl) (by simp) ?_
              refine AllReadyH.cons rfl (fun K hK => ?_) AllReadyH.nil
              go_simp
              refine (toStacks_own _ _ _ _ _ _ _ _ _ _ _ F I _ (HF.out.below (HB.out.trans (HT.out.1.mono HB.out.size))) (HI.out.below (HB.out.trans (HT.out.1.mono HB.out.size))) hfn hm).mono ?_
              rintro e v1 ⟨vv, rfl, rr, hbb⟩
              obtain ⟨fa2, fc2, ia2, ic2, rfl, hRF, hRI⟩ := rr.read
              have HR := Lib.hid (fun X (h : Snc v1 X) => (show Vals X fa2 F.length fc2 F ∧ Nums .i64 X ia2 I.length ic2 I from ⟨hRF.below h.1, hRI.below h.1⟩))
              have HT := Lib.hid (HT.out.call hbb)
              have HN := Lib.hid (HN.out.call hbb)
              have hcl : w11.heap.size < v1.heap.size := HN.out.lt
              clear hbb rr hRF hRI
              (try dsimp only)
              refine hK.out _ _ (by exact SQ4.out _ HT.out) (fun hHeld => ?_)
              clear hK K
              (try simp only [Act.put, List.setIfInBounds_toArray, List.set_cons_zero, List.set_cons_succ, List.getElem_toArray, List.getElem_cons_zero, List.getElem_cons_succ])
              refine wpAnyH_ready (rs := [4]) (by kernel_rfl) (by simp) ?_
              refine AllReadyH.cons rfl (fun K hK => ?_) AllReadyH.nil
              go_simp
              refine (toOp_any p x _).mono ?_
              rintro e v2 ⟨rfl, hbb⟩
              have HR := Lib.hid (fun X (h : Snc v2 X) => HR.out X ⟨hbb.trans (h.1.mono hbb.size), Nat.le_trans hbb.size h.2⟩)
              have HT := Lib.hid (HT.out.call hbb)
              have HN := Lib.hid (HN.out.call hbb)
              have hcl : w11.heap.size < v2.heap.size := HN.out.lt
              clear hbb
              (try dsimp only)
              refine hK.out _ _ (by exact SQ4.out _ HT.out) (fun hHeld => ?_)
              clear hK K
              (try simp only [Act.put, List.setIfInBounds_toArray, List.set_cons_zero, List.set_cons_succ, List.getElem_toArray, List.getElem_cons_zero, List.getElem_cons_succ])
              refine wpAnyH_ready (rs := [5]) (by kernel_rfl) (by simp) ?_
              refine AllReadyH.cons rfl (fun K hK => ?_) AllReadyH.nil
              go_simp
              refine (H2.out _ _ _ _ _ (HR.out _ (Snc.refl _)).1 (HR.out _ (Snc.refl _)).2).mono ?_
              rintro e v3 ⟨vv, rfl, rr, hbb⟩
              obtain ⟨fa9, fc9, ia9, ic9, rfl, -, -⟩ := rr.read
              have HO := Lib.hid rr
              have hloL := HT.out.2
              have hloH := hbb.size
              have HT := Lib.hid (HT.out.call hbb)
              have HN := Lib.hid (HN.out.call hbb)
              clear hbb rr
              (try dsimp only)
              refine hK.out _ _ (by exact SQ4.out _ HT.out) (fun hHeld => ?_)
              clear hK K
              (try simp only [Act.put, List.setIfInBounds_toArray, List.set_cons_zero, List.set_cons_succ, List.getElem_toArray, List.getElem_cons_zero, List.getElem_cons_succ])
              first | (refine wpAnyH_take (i := 6) (v := ?_) rfl (by kernel_rfl) (by kernel_rfl) (by kernel_rfl) (fun _ _ _ h => h) (Or.inl ⟨by rfl, ?_⟩) (by assumption) ?_; rotate_left; (intro X hSw; (try dsimp only at hSw); go_simp; (try with_reducible rfl)); (try simp only [Act.put, List.setIfInBounds_toArray, List.set_cons_zero, List.set_cons_succ, List.getElem_toArray, List.getElem_cons_zero, List.getElem_cons_succ])) | fail "take 6"
              first | (refine wpAnyH_take (i := 7) (v := ?_) rfl (by kernel_rfl) (by kernel_rfl) (by kernel_rfl) (fun _ _ _ h => h) (Or.inl ⟨by rfl, ?_⟩) (by assumption) ?_; rotate_left; (intro X hSw; (try dsimp only at hSw); go_simp; (try with_reducible rfl)); (try simp only [Act.put, List.setIfInBounds_toArray, List.set_cons_zero, List.set_cons_succ, List.getElem_toArray, List.getElem_cons_zero, List.getElem_cons_succ])) | fail "take 7"
              first | (refine wpAnyH_take (i := 8) (v := ?_) rfl (by kernel_rfl) (by kernel_rfl) (by kernel_rfl) (fun _ _ _ h => h) (Or.inl ⟨by rfl, ?_⟩) (by assumption) ?_; rotate_left; (intro X hSw; (try dsimp only at hSw); go_simp; (try with_reducible rfl)); (try simp only [Act.put, List.setIfInBounds_toArray, List.set_cons_zero, List.set_cons_succ, List.getElem_toArray, List.getElem_cons_zero, List.getElem_cons_succ])) | fail "take 8"
              obtain ⟨z0, z1, z2, z3, z4, z5, z6⟩ := HN.out.cells
              have zf := HN.out.free
              refine wpAnyH_ready (rs := [10]) (by kernel_rfl) (by simp) ?_
              refine AllReadyH.cons rfl (fun K hK => ?_) AllReadyH.nil
              go_simp
              (try dsimp only)
              refine hK.out _ _ (by exact SQ4.out _ (((((((HT.out.set hcW _ _).set hcW _ _).set hcW _ _).set hcW _ _).set hcW _ _).set hcW _ _).set hcW _ _)) (fun hHeld => ?_)
              clear hK K
              (try simp only [Act.put, List.setIfInBounds_toArray, List.set_cons_zero, List.set_cons_succ, List.getElem_toArray, List.getElem_cons_zero, List.getElem_cons_succ])
              first | (refine wpAnyH_take (i := 11) (v := ?_) rfl (by kernel_rfl) (by kernel_rfl) (by kernel_rfl) (fun _ _ _ h => h) (Or.inl ⟨by rfl, ?_⟩) (by assumption) ?_; rotate_left; (intro X hSw; (try dsimp only at hSw); go_simp; (try with_reducible rfl)); (try simp only [Act.put, List.setIfInBounds_toArray, List.set_cons_zero, List.set_cons_succ, List.getElem_toArray, List.getElem_cons_zero, List.getElem_cons_succ])) | fail "take 11"
              refine wpAnyH_done (by kernel_rfl) ?_ _
              go_wp2_with fail
              go_meet
              exact ⟨_, rfl, rfl, StkAns.set hcW (by omega) (Nat.le_refl _) HN.out HO.out, (((((((HT.out.set hcW _ _).set hcW _ _).set hcW _ _).set hcW _ _).set hcW _ _).set hcW _ _).set hcW _ _)⟩
          case rest =>
            obtain ⟨c2, rfl, rfl, hA2, hs2⟩ := hcut
            obtain ⟨lo2, hi2, fa7, fc7, ia7, ic7, -, -, -, -, -, -, f7, f8⟩ := hA2
            have B2 := Lib.hid f7
            have R2 := Lib.hid f8
            clear f7 f8
            have B0 := Lib.hid (B0.out.call hs2.1)
            have R0 := Lib.hid (R0.out.below hs2.1)
            have B1 := Lib.hid (B1.out.call hs2.1)
            have R1 := Lib.hid (R1.out.below hs2.1)
            have HB := Lib.hid (HB.out.trans (hs2.1.mono HB.out.size))
            clear hs2
            obtain ⟨y0, y1, y2, y3, y4, y5, y6⟩ := B2.out.cells
            obtain ⟨r0, r1, r2, r3, r4, r5, r6⟩ := B0.out.cells
            go_wp2_with fail
            refine (eqStacks_own _ R2.out R0.out).mono ?_
            rintro e w13 ⟨rfl, hb13⟩
            have B1 := Lib.hid (B1.out.call hb13)
            have R1 := Lib.hid (R1.out.below hb13)
            have HB := Lib.hid (HB.out.trans (hb13.mono HB.out.size))
            clear hb13
            clear y0 y1 y2 y3 y4 y5 y6 r0 r1 r2 r3 r4 r5 r6
            obtain ⟨g0, g1, g2, g3, g4, g5, g6⟩ := B1.out.cells
            go_wp2_with fail
            refine (HH2.out _ _ _ _ R1.out).mono ?_
            rintro e w14 ⟨rfl, hb14⟩
            have HB := Lib.hid (HB.out.trans (hb14.mono HB.out.size))
            clear hb14
            go_wp2_with fail
            go_returns
            exact ⟨rfl, HB.out⟩
  · rw [if_neg hsz] at hSZ
    have HSZ := Lib.hid hSZ
    clear hSZ
    go_enter Tryz.func5, Tryz.ntmps5
    go_wp2_with fail
    rw [← hW]
    clear hW
    refine (HSZ.out _).mono ?_
    rintro e w1 ⟨rfl, hb1⟩
    have HB1 := Lib.hid (HB.out.trans (hb1.mono HB.out.size))
    clear hb1
    go_wp2_with fail
    go_returns
    exact ⟨rfl, HB1.out⟩
end Go.Proofs.YtehfijijapfomaaGreat
