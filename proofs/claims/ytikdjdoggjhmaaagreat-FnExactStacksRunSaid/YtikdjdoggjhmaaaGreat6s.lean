/-
  Worlds that are later than one; worlds in which only blocks between two numbers have been written.
-/
import Derived.Test.YtikdjdoggjhmaaaGreatRw
namespace Go.Proofs.YtikdjdoggjhmaaaGreat
set_option linter.unusedSimpArgs false
set_option linter.unusedVariables false
open Go.RowKit
/-- Below the blocks of the world W nothing has changed, and there are no fewer blocks. -/
def Snc (W X : World) : Prop := Below W.heap.size W X ∧ W.heap.size ≤ X.heap.size
theorem Snc.refl (W : World) : Snc W W := ⟨Below.refl _ _, Nat.le_refl _⟩
theorem Snc.call {W X Y : World} (h : Snc W X) (hb : Below X.heap.size X Y) : Snc W Y := ⟨h.1.trans (hb.mono h.2), Nat.le_trans h.2 hb.size⟩
theorem Snc.alloc {W X : World} (h : Snc W X) (o : Obj) : Snc W (X.alloc o) := h.call ((Below.refl _ _).alloc (Nat.le_refl _) _)
theorem Snc.drew {W X : World} (h : Snc W X) : Snc W X.drew := h.call (Below.refl _ _).drew
theorem Snc.cell {W X : World} {b o : Nat} {u : Value} (h : Snc W X) (q : W.cell? ⟨b, o, none⟩ = some u) (hb : b < W.heap.size) : X.cell? ⟨b, o, none⟩ = some u := (h.1.cell (p := ⟨b, o, none⟩) hb).trans q
theorem Snc.set {W X : World} (h : Snc W X) {c : Nat} (hc : W.heap.size ≤ c) (o : Nat) (u : Value) : Snc W (X.setCell ⟨c, o, none⟩ u) :=
  ⟨h.1.setCell hc _, by have := (h.1.setCell (p := ⟨c, o, none⟩) hc u).size; exact this⟩
/-- Only blocks from lo on and below hi may have been written, of those that were there. -/
def Touch (lo hi : Nat) (W X : World) : Prop := X.os = W.os ∧ X.tape = W.tape ∧ X.output = W.output ∧ W.heap.size ≤ X.heap.size ∧ ∀ k, k < W.heap.size → (k < lo ∨ hi ≤ k) → X.heap[k]? = W.heap[k]?
theorem Touch.below {lo hi B : Nat} {w W X : World} (h : Touch lo hi W X) (hb : Below B w W) (hB : B ≤ w.heap.size) (hl : B ≤ lo) : Below B w X :=
  hb.trans ⟨h.1, h.2.1, h.2.2.1, h.2.2.2.1, fun k hk => h.2.2.2.2 k (by have := hb.size; omega) (.inl (by omega))⟩
theorem Touch.of {lo hi : Nat} {W X : World} {row : Option Nat} (h : W.grownBy X row) (hr : ∀ g, row = some g → lo ≤ g ∧ g < hi) : Touch lo hi W X :=
  ⟨h.os, h.tape, h.output, h.size, fun k hk ho => h.block k hk (fun e => by have := hr k e.symm; omega)⟩
theorem Touch.trans {lo hi : Nat} {W X Y : World} (h : Touch lo hi W X) (k : Touch lo hi X Y) : Touch lo hi W Y :=
  ⟨k.1.trans h.1, k.2.1.trans h.2.1, k.2.2.1.trans h.2.2.1, Nat.le_trans h.2.2.2.1 k.2.2.2.1, fun i hi ho => (k.2.2.2.2 i (Nat.lt_of_lt_of_le hi h.2.2.2.1) ho).trans (h.2.2.2.2 i hi ho)⟩
theorem Touch.call {lo hi : Nat} {W X Y : World} (h : Touch lo hi W X) (hb : Below X.heap.size X Y) : Touch lo hi W Y :=
  h.trans ⟨hb.os, hb.tape, hb.output, hb.size, fun k hk _ => hb.block k hk⟩
theorem touch_block {lo hi c : Nat} {W X : World} {b : Obj} (h : W.heap[c]? = some b) (ht : Touch lo hi W X) (hd : c < lo ∨ hi ≤ c) : X.heap[c]? = some b := (ht.2.2.2.2 c (Array.getElem?_eq_some_iff.1 h).1 hd).trans h
theorem Touch.refl (lo hi : Nat) (W : World) : Touch lo hi W W := ⟨rfl, rfl, rfl, Nat.le_refl _, fun _ _ _ => rfl⟩
theorem own_touch {W X : World} {lo hi base e sz n : Nat} {v : Value} {xs : List Value} (h : W.ownsRow base e sz v n xs) (ht : Touch lo hi W X) (hv : ∀ g, v.ownBlock = some g → g < lo ∨ hi ≤ g) : X.ownsRow base e sz v n xs := by
  obtain ⟨h1, h2⟩ := h
  refine ⟨h1, ?_⟩
  rcases h2 with h2 | ⟨g, cap, cur, hvv, hlo, hg, rest⟩
  · exact .inl h2
  · refine .inr ⟨g, cap, cur, hvv, hlo, ?_, rest⟩
    rw [ht.2.2.2.2 g (Array.getElem?_eq_some_iff.1 hg).1 (hv g (by rw [hvv]; rfl))]
    exact hg
theorem OwnR.touch {W X : World} {lo hi lo' hi' n : Nat} {v : Value} {l : List Int} (h : OwnR W lo' hi' v n l) (ht : Touch lo hi W X) (hd : hi' ≤ lo ∨ hi ≤ lo') : OwnR X lo' hi' v n l := by
  obtain ⟨h1, h2, h3, h4⟩ := h
  exact ⟨own_touch h1 ht (fun g hg => by have := h4 g hg; have := (h1.lt g hg).1; omega), h2, Nat.le_trans h3 ht.2.2.2.1, h4⟩
set_option maxHeartbeats 1000000 in
theorem markIntS_big {lo hi n : Nat} {v : Value} {l : List Int} (w : World) (k : Int) (h : OwnR w lo hi v n l) (hk0 : 0 ≤ k) (hk1 : k ≤ 100000000) (hn : n ≤ 1048576) :
    Calls Tryz.prog 33 #[v, .int .i64 k] w fun e w' => e = .returned (.int .i64 (k + n)) ∧ OwnR w' lo hi v n (seq k n) ∧ w.grownBy w' v.ownBlock := by
  have hl : l.length = n := by have := h.1.1; simpa using this
  obtain ⟨h1, h2, h3, h4⟩ := h
  rcases h1.2 with ⟨rfl, rfl⟩ | ⟨g, cap, cur, rfl, hlo, hg, hnc, hcm, -, -⟩
  · go_enter Tryz.func33, Tryz.ntmps33
    go_wp2
    go_loopw [1, 5] (fun kv i wr => kv = .int .i64 k ∧ i = .int .i64 0 ∧ wr = w) (fun _ i _ => 0)
    case atStart => exact ⟨rfl, rfl, rfl⟩
    case round =>
      obtain ⟨rfl, rfl, rfl⟩ := hrel
      go_wp2
      go_returns
      exact ⟨by simp, ⟨⟨by simp [seq], .inl ⟨rfl, rfl⟩⟩, h2, h3, h4⟩, ⟨rfl, rfl, rfl, Nat.le_refl _, fun _ _ _ => rfl⟩⟩
  · unfold maxLen at hcm
    have H1 := Lib.hid h1; clear h1 hg
    have HL := Lib.hid hl; clear hl
    have hgw : g < w.heap.size := by have := h4 g rfl; omega
    have HB := Lib.hid (show w.grownBy w (some g) from ⟨rfl, rfl, rfl, Nat.le_refl _, fun _ _ _ => rfl⟩)
    have H1' := Lib.hid (show w.ownsRow lo 3 1 (.slice (some ⟨g, 0, none⟩) n cap) n ((marked k l 0).map (Value.int .i64)) by rw [marked_zero]; exact H1.out)
    have H4 := Lib.hid h4; clear h4
    clear H1
    go_enter Tryz.func33, Tryz.ntmps33
    go_wp2
    go_loopw [1, 5] (fun kv i wr => ∃ j : Nat, j ≤ n ∧ i = .int .i64 j ∧ kv = .int .i64 (k + j) ∧ Hid (wr.ownsRow lo 3 1 (.slice (some ⟨g, 0, none⟩) n cap) n ((marked k l j).map (Value.int .i64))) ∧ Hid (w.grownBy wr (some g))) (fun _ i _ => n - (intOf i).toNat)
    case atStart => exact ⟨0, Nat.zero_le _, rfl, by simp, H1', HB⟩
    case round =>
      obtain ⟨j, hj, rfl, rfl, HR, HG⟩ := hrel
      clear H1' HB
      by_cases hlt : j < n
      · have hst := marked_set k l j (by have := HL.out; omega)
        have HST := Lib.hid hst; clear hst
        have hfr := HR.out.frozenAt j
        have hcd : ∃ y, wr.cell? ⟨g, j, none⟩ = some y := by
          have hh := HR.out.cellAt j (by omega)
          have hlen : j < ((marked k l j).map (Value.int .i64)).length := by rw [HR.out.1]; omega
          exact ⟨_, hh.trans (List.getElem?_eq_getElem hlen)⟩
        obtain ⟨y, hcd⟩ := hcd
        have hk0' : (0 : Int) ≤ (j : Int) := Int.natCast_nonneg _
        have hkn : (j : Int) < (n : Int) := by omega
        go_wp2
        go_roundw
        case rel =>
          refine ⟨j + 1, by omega, by go_num, by go_num, ?_, ?_⟩
          · have hs := HR.out.stored j (Value.int .i64 (k + j))
            rw [← List.map_set, HST.out] at hs
            exact hs.1
          · exact ⟨HG.out.os, HG.out.tape, HG.out.output, by have := HG.out.size; simpa [World.setCell] using this, fun i hi hne => (Below.heap_setCell _ _ _ _ (by show i ≠ g; intro e; exact hne (by rw [e]))).trans (HG.out.block i hi hne)⟩
        case measure => simp [intOf]; omega
      · obtain rfl : j = n := by omega
        go_wp2
        go_returns
        refine ⟨rfl, ⟨?_, h2, Nat.le_trans h3 HG.out.size, H4.out⟩, HG.out⟩
        have := HR.out
        rw [← HL.out, marked_all, HL.out] at this
        exact this

set_option maxHeartbeats 1000000 in
theorem heldIntS_big {lo hi n : Nat} {v : Value} (w : World) (k : Int) (h : OwnR w lo hi v n (seq k n)) (hk0 : 0 ≤ k) (hk1 : k ≤ 100000000) (hn : n ≤ 1048576) :
    Calls Tryz.prog 35 #[v, .int .i64 k] w fun e w' => e = .returned (.int .i64 (k + n)) ∧ Below w.heap.size w w' := by
  obtain ⟨a, cap, rfl, hN, -⟩ := h.nums
  have hcm : cap ≤ 9223372036854775807 := by have := hN.2.2.1; unfold maxLen at this; omega
  have hnc := hN.2.1
  have H4 := Lib.hid hN.2.2.2
  clear hN h
  go_enter Tryz.func35, Tryz.ntmps35
  go_wp2
  go_loopw [1, 5] (fun kv i wr => ∃ j : Nat, j ≤ n ∧ i = .int .i64 j ∧ kv = .int .i64 (k + j) ∧ Hid (Below w.heap.size w wr)) (fun _ i _ => n - (intOf i).toNat)
  case atStart => exact ⟨0, Nat.zero_le _, rfl, by simp, Below.refl _ _⟩
  case round =>
    obtain ⟨j, hj, rfl, rfl, HW⟩ := hrel
    by_cases hlt : j < n
    · rcases H4.out with h4 | ⟨b, off, rfl, hb, hcs⟩
      · omega
      · have hck := (HW.out.cell (p := ⟨b, off + j, none⟩) hb).trans (hcs j hlt)
        rw [seq_at k n j hlt] at hck
        clear hcs
        have hk0' : (0 : Int) ≤ (j : Int) := Int.natCast_nonneg _
        have hkn : (j : Int) < (n : Int) := by omega
        go_wp2
        go_roundw
        case rel => exact ⟨j + 1, by omega, by go_num, by go_num, HW.out⟩
        case measure => simp [intOf]; omega
    · obtain rfl : j = n := by omega
      go_wp2
      go_returns
      exact ⟨rfl, HW.out⟩
end Go.Proofs.YtikdjdoggjhmaaaGreat
