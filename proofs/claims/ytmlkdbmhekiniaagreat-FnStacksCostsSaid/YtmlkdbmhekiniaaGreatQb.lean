import Derived.Test.YtmlkdbmhekiniaaGreatRw
import Derived.Test.YtmlkdbmhekiniaaGreatMa
import Derived.Deep.AppendSrc
import Derived.Lib.AppendZeros
import Derived.OwnWalk
import Derived.Deep.Cut
import Derived.Deep.DeepMust
import Derived.Test.YtmlkdbmhekiniaaGreatSr
import Derived.Test.YtmlkdbmhekiniaaGreatTa
import Derived.Deep.RegionHeld3
/-
  Worlds that are later than one; worlds in which only blocks between two numbers have been written.
-/
namespace Go.Proofs.YtmlkdbmhekiniaaGreat
set_option linter.unusedSimpArgs false
set_option linter.unusedVariables false
open Go.RowKit
/-- Below the blocks of the world W nothing has changed, and there are no fewer blocks. -/
def Snc (W X : World) : Prop := Below W.heap.size W X ∧ W.heap.size ≤ X.heap.size
theorem Snc.refl (W : World) : Snc W W := ⟨Below.refl _ _, Nat.le_refl _⟩
theorem Snc.call {W X Y : World} (h : Snc W X) (hb : Below X.heap.size X Y) : Snc W Y := ⟨h.1.trans (hb.mono h.2), Nat.le_trans h.2 hb.size⟩
theorem Snc.alloc {W X : World} (h : Snc W X) (o : Obj) : Snc W (X.alloc o) := h.call ((Below.refl _ _).alloc (Nat.le_refl _) _)
theorem Snc.drew {W X : World} (h : Snc W X) : Snc W X.drew := h.call (Below.refl _ _).drew
theorem Snc.cell {W X : World} {b o : Nat} {u : Value} (h : Snc W X) (q : W.cell? ⟨b, o, none⟩ = some u) (hb : b < W.heap.size) : X.cell? ⟨b, o, none⟩ = some u := (h.1.cell (p := ⟨b, o, none⟩) hb).trans q
theorem Snc.set {W X : World} (h : Snc W X) {c : Nat} (hc : W.heap.size ≤ c) (o : Nat) (u : Value) : Snc W (X.setCell ⟨c, o, none⟩ u) :=
  ⟨h.1.setCell hc _, by have := (h.1.setCell (p := ⟨c, o, none⟩) hc u).size; exact this⟩
/-- Only blocks from lo on and below hi may have been written, of those that were there. -/
def Touch (lo hi : Nat) (W X : World) : Prop := X.os = W.os ∧ X.tape = W.tape ∧ X.output = W.output ∧ W.heap.size ≤ X.heap.size ∧ ∀ k, k < W.heap.size → (k < lo ∨ hi ≤ k) → X.heap[k]? = W.heap[k]?
theorem Touch.below {lo hi B : Nat} {w W X : World} (h : Touch lo hi W X) (hb : Below B w W) (hB : B ≤ w.heap.size) (hl : B ≤ lo) : Below B w X :=
  hb.trans ⟨h.1, h.2.1, h.2.2.1, h.2.2.2.1, fun k hk => h.2.2.2.2 k (by have := hb.size; omega) (.inl (by omega))⟩
theorem Touch.of {lo hi : Nat} {W X : World} {row : Option Nat} (h : W.grownBy X row) (hr : ∀ g, row = some g → lo ≤ g ∧ g < hi) : Touch lo hi W X :=
  ⟨h.os, h.tape, h.output, h.size, fun k hk ho => h.block k hk (fun e => by have := hr k e.symm; omega)⟩
theorem Touch.trans {lo hi : Nat} {W X Y : World} (h : Touch lo hi W X) (k : Touch lo hi X Y) : Touch lo hi W Y :=
  ⟨k.1.trans h.1, k.2.1.trans h.2.1, k.2.2.1.trans h.2.2.1, Nat.le_trans h.2.2.2.1 k.2.2.2.1, fun i hi ho => (k.2.2.2.2 i (Nat.lt_of_lt_of_le hi h.2.2.2.1) ho).trans (h.2.2.2.2 i hi ho)⟩
theorem Touch.call {lo hi : Nat} {W X Y : World} (h : Touch lo hi W X) (hb : Below X.heap.size X Y) : Touch lo hi W Y :=
  h.trans ⟨hb.os, hb.tape, hb.output, hb.size, fun k hk _ => hb.block k hk⟩
theorem touch_block {lo hi c : Nat} {W X : World} {b : Obj} (h : W.heap[c]? = some b) (ht : Touch lo hi W X) (hd : c < lo ∨ hi ≤ c) : X.heap[c]? = some b := (ht.2.2.2.2 c (Array.getElem?_eq_some_iff.1 h).1 hd).trans h
theorem Touch.refl (lo hi : Nat) (W : World) : Touch lo hi W W := ⟨rfl, rfl, rfl, Nat.le_refl _, fun _ _ _ => rfl⟩
theorem own_touch {W X : World} {lo hi base e sz n : Nat} {v : Value} {xs : List Value} (h : W.ownsRow base e sz v n xs) (ht : Touch lo hi W X) (hv : ∀ g, v.ownBlock = some g → g < lo ∨ hi ≤ g) : X.ownsRow base e sz v n xs := by
  obtain ⟨h1, h2⟩ := h
  refine ⟨h1, ?_⟩
  rcases h2 with h2 | ⟨g, cap, cur, hvv, hlo, hg, rest⟩
  · exact .inl h2
  · refine .inr ⟨g, cap, cur, hvv, hlo, ?_, rest⟩
    rw [ht.2.2.2.2 g (Array.getElem?_eq_some_iff.1 hg).1 (hv g (by rw [hvv]; rfl))]
    exact hg
theorem OwnR.touch {W X : World} {lo hi lo' hi' n : Nat} {v : Value} {l : List Int} (h : OwnR W lo' hi' v n l) (ht : Touch lo hi W X) (hd : hi' ≤ lo ∨ hi ≤ lo') : OwnR X lo' hi' v n l := by
  obtain ⟨h1, h2, h3, h4⟩ := h
  exact ⟨own_touch h1 ht (fun g hg => by have := h4 g hg; have := (h1.lt g hg).1; omega), h2, Nat.le_trans h3 ht.2.2.2.1, h4⟩
set_option maxHeartbeats 1000000 in
theorem markIntS_big {lo hi n : Nat} {v : Value} {l : List Int} (w : World) (k : Int) (h : OwnR w lo hi v n l) (hk0 : 0 ≤ k) (hk1 : k ≤ 100000000) (hn : n ≤ 1048576) :
    Calls Tryz.prog 29 #[v, .int .i64 k] w fun e w' => e = .returned (.int .i64 (k + n)) ∧ OwnR w' lo hi v n (seq k n) ∧ w.grownBy w' v.ownBlock := by
  have hl : l.length = n := by have := h.1.1; simpa using this
  obtain ⟨h1, h2, h3, h4⟩ := h
  rcases h1.2 with ⟨rfl, rfl⟩ | ⟨g, cap, cur, rfl, hlo, hg, hnc, hcm, -, -⟩
  · go_enter Tryz.func29, Tryz.ntmps29
    go_wp2
    go_loopw [1, 5] (fun kv i wr => kv = .int .i64 k ∧ i = .int .i64 0 ∧ wr = w) (fun _ i _ => 0)
    case atStart => exact ⟨rfl, rfl, rfl⟩
    case round =>
      obtain ⟨rfl, rfl, rfl⟩ := hrel
      go_wp2
      go_returns
      exact ⟨by simp, ⟨⟨by simp [seq], .inl ⟨rfl, rfl⟩⟩, h2, h3, h4⟩, ⟨rfl, rfl, rfl, Nat.le_refl _, fun _ _ _ => rfl⟩⟩
  · unfold maxLen at hcm
    have H1 := Lib.hid h1; clear h1 hg
    have HL := Lib.hid hl; clear hl
    have hgw : g < w.heap.size := by have := h4 g rfl; omega
    have HB := Lib.hid (show w.grownBy w (some g) from ⟨rfl, rfl, rfl, Nat.le_refl _, fun _ _ _ => rfl⟩)
    have H1' := Lib.hid (show w.ownsRow lo 3 1 (.slice (some ⟨g, 0, none⟩) n cap) n ((marked k l 0).map (Value.int .i64)) by rw [marked_zero]; exact H1.out)
    have H4 := Lib.hid h4; clear h4
    clear H1
    go_enter Tryz.func29, Tryz.ntmps29
    go_wp2
    go_loopw [1, 5] (fun kv i wr => ∃ j : Nat, j ≤ n ∧ i = .int .i64 j ∧ kv = .int .i64 (k + j) ∧ Hid (wr.ownsRow lo 3 1 (.slice (some ⟨g, 0, none⟩) n cap) n ((marked k l j).map (Value.int .i64))) ∧ Hid (w.grownBy wr (some g))) (fun _ i _ => n - (intOf i).toNat)
    case atStart => exact ⟨0, Nat.zero_le _, rfl, by simp, H1', HB⟩
    case round =>
      obtain ⟨j, hj, rfl, rfl, HR, HG⟩ := hrel
      clear H1' HB
      by_cases hlt : j < n
      · have hst := marked_set k l j (by have := HL.out; omega)
        have HST := Lib.hid hst; clear hst
        have hfr := HR.out.frozenAt j
        have hcd : ∃ y, wr.cell? ⟨g, j, none⟩ = some y := by
          have hh := HR.out.cellAt j (by omega)
          have hlen : j < ((marked k l j).map (Value.int .i64)).length := by rw [HR.out.1]; omega
          exact ⟨_, hh.trans (List.getElem?_eq_getElem hlen)⟩
        obtain ⟨y, hcd⟩ := hcd
        have hk0' : (0 : Int) ≤ (j : Int) := Int.natCast_nonneg _
        have hkn : (j : Int) < (n : Int) := by omega
        go_wp2
        go_roundw
        case rel =>
          refine ⟨j + 1, by omega, by go_num, by go_num, ?_, ?_⟩
          · have hs := HR.out.stored j (Value.int .i64 (k + j))
            rw [← List.map_set, HST.out] at hs
            exact hs.1
          · exact ⟨HG.out.os, HG.out.tape, HG.out.output, by have := HG.out.size; simpa [World.setCell] using this, fun i hi hne => (Below.heap_setCell _ _ _ _ (by show i ≠ g; intro e; exact hne (by rw [e]))).trans (HG.out.block i hi hne)⟩
        case measure => simp [intOf]; omega
      · obtain rfl : j = n := by omega
        go_wp2
        go_returns
        refine ⟨rfl, ⟨?_, h2, Nat.le_trans h3 HG.out.size, H4.out⟩, HG.out⟩
        have := HR.out
        rw [← HL.out, marked_all, HL.out] at this
        exact this

set_option maxHeartbeats 1000000 in
theorem heldIntS_big {lo hi n : Nat} {v : Value} (w : World) (k : Int) (h : OwnR w lo hi v n (seq k n)) (hk0 : 0 ≤ k) (hk1 : k ≤ 100000000) (hn : n ≤ 1048576) :
    Calls Tryz.prog 30 #[v, .int .i64 k] w fun e w' => e = .returned (.int .i64 (k + n)) ∧ Below w.heap.size w w' := by
  obtain ⟨a, cap, rfl, hN, -⟩ := h.nums
  have hcm : cap ≤ 9223372036854775807 := by have := hN.2.2.1; unfold maxLen at this; omega
  have hnc := hN.2.1
  have H4 := Lib.hid hN.2.2.2
  clear hN h
  go_enter Tryz.func30, Tryz.ntmps30
  go_wp2
  go_loopw [1, 5] (fun kv i wr => ∃ j : Nat, j ≤ n ∧ i = .int .i64 j ∧ kv = .int .i64 (k + j) ∧ Hid (Below w.heap.size w wr)) (fun _ i _ => n - (intOf i).toNat)
  case atStart => exact ⟨0, Nat.zero_le _, rfl, by simp, Below.refl _ _⟩
  case round =>
    obtain ⟨j, hj, rfl, rfl, HW⟩ := hrel
    by_cases hlt : j < n
    · rcases H4.out with h4 | ⟨b, off, rfl, hb, hcs⟩
      · omega
      · have hck := (HW.out.cell (p := ⟨b, off + j, none⟩) hb).trans (hcs j hlt)
        rw [seq_at k n j hlt] at hck
        clear hcs
        have hk0' : (0 : Int) ≤ (j : Int) := Int.natCast_nonneg _
        have hkn : (j : Int) < (n : Int) := by omega
        go_wp2
        go_roundw
        case rel => exact ⟨j + 1, by omega, by go_num, by go_num, HW.out⟩
        case measure => simp [intOf]; omega
    · obtain rfl : j = n := by omega
      go_wp2
      go_returns
      exact ⟨rfl, HW.out⟩
end Go.Proofs.YtmlkdbmhekiniaaGreat

/-
  Variables of four and of five cells; windows with an inverse, and deques, whose rows are the call's own.
-/
namespace Go.Proofs.YtmlkdbmhekiniaaGreat
set_option linter.unusedSimpArgs false
set_option linter.unusedVariables false
open Go.RowKit
/-- A variable of 4 cells: its block. -/
def Box4 (w : World) (c : Nat) (T : TypeId) (v0 v1 v2 v3 : Value) : Prop := w.heap[c]? = some (.cells #[v0, v1, v2, v3] T (0, 0))
section
variable {w w' : World} {c d : Nat} {T : TypeId} {v0 v1 v2 v3 : Value}
theorem Box4.new (w : World) (T : TypeId) (v0 v1 v2 v3 : Value) : Box4 (w.alloc (.cells #[v0, v1, v2, v3] T)) w.heap.size T v0 v1 v2 v3 := heap_alloc_new w _
theorem Box4.new1 {Y : World} {g : Nat} (T : TypeId) (v0 v1 v2 v3 : Value) (hg : g = Y.heap.size) : Box4 (Y.alloc (.cells #[v0, v1, v2, v3] T)) g T v0 v1 v2 v3 := by
  subst hg; exact Box4.new Y T v0 v1 v2 v3
theorem Box4.lt (h : Box4 w c T v0 v1 v2 v3) : c < w.heap.size := (Array.getElem?_eq_some_iff.1 h).1
theorem Box4.below {b : Nat} (h : Box4 w c T v0 v1 v2 v3) (hb : Below b w w') (hc : c < b) : Box4 w' c T v0 v1 v2 v3 := (hb.block c hc).trans h
theorem Box4.call (h : Box4 w c T v0 v1 v2 v3) (hb : Below w.heap.size w w') : Box4 w' c T v0 v1 v2 v3 := h.below hb h.lt
theorem Box4.callD (h : Box4 w c T v0 v1 v2 v3) (hb : Below w.drew.heap.size w.drew w') : Box4 w' c T v0 v1 v2 v3 := Box4.call (w := w.drew) h hb
theorem Box4.alloc (h : Box4 w c T v0 v1 v2 v3) (o : Obj) : Box4 (w.alloc o) c T v0 v1 v2 v3 := h.call ((Below.refl _ _).alloc (Nat.le_refl _) _)
theorem Box4.grown {row : Option Nat} (h : Box4 w c T v0 v1 v2 v3) (hg : w.grownBy w' row) (hr : row ≠ some c) : Box4 w' c T v0 v1 v2 v3 := (hg.block c h.lt (fun e => hr e.symm)).trans h
theorem Box4.cells (h : Box4 w c T v0 v1 v2 v3) : w.cell? ⟨c, 0, none⟩ = some v0 ∧ w.cell? ⟨c, 1, none⟩ = some v1 ∧ w.cell? ⟨c, 2, none⟩ = some v2 ∧ w.cell? ⟨c, 3, none⟩ = some v3 := by
  unfold Box4 at h
  refine ⟨?_, ?_, ?_, ?_⟩ <;> simp [World.cell?, h]
theorem Box4.free (h : Box4 w c T v0 v1 v2 v3) (o : Nat) : w.frozen? ⟨c, o, none⟩ = false := by
  unfold Box4 at h
  simp [World.frozen?, h]
theorem Box4.set0 (h : Box4 w c T v0 v1 v2 v3) (u : Value) : Box4 (w.setCell ⟨c, 0, none⟩ u) c T u v1 v2 v3 := by unfold Box4 at *; simp [World.setCell, Array.getElem?_modify, h]
theorem Box4.set1 (h : Box4 w c T v0 v1 v2 v3) (u : Value) : Box4 (w.setCell ⟨c, 1, none⟩ u) c T v0 u v2 v3 := by unfold Box4 at *; simp [World.setCell, Array.getElem?_modify, h]
theorem Box4.set2 (h : Box4 w c T v0 v1 v2 v3) (u : Value) : Box4 (w.setCell ⟨c, 2, none⟩ u) c T v0 v1 u v3 := by unfold Box4 at *; simp [World.setCell, Array.getElem?_modify, h]
theorem Box4.set3 (h : Box4 w c T v0 v1 v2 v3) (u : Value) : Box4 (w.setCell ⟨c, 3, none⟩ u) c T v0 v1 v2 u := by unfold Box4 at *; simp [World.setCell, Array.getElem?_modify, h]
theorem Box4.other (h : Box4 w c T v0 v1 v2 v3) (hd : c ≠ d) (o : Nat) (u : Value) : Box4 (w.setCell ⟨d, o, none⟩ u) c T v0 v1 v2 v3 := by
  unfold Box4 at *
  rw [Below.heap_setCell _ _ _ _ (by simpa using hd)]
  exact h
end
/-- A variable of 5 cells: its block. -/
def Box5 (w : World) (c : Nat) (T : TypeId) (v0 v1 v2 v3 v4 : Value) : Prop := w.heap[c]? = some (.cells #[v0, v1, v2, v3, v4] T (0, 0))
section
variable {w w' : World} {c d : Nat} {T : TypeId} {v0 v1 v2 v3 v4 : Value}
theorem Box5.new (w : World) (T : TypeId) (v0 v1 v2 v3 v4 : Value) : Box5 (w.alloc (.cells #[v0, v1, v2, v3, v4] T)) w.heap.size T v0 v1 v2 v3 v4 := heap_alloc_new w _
theorem Box5.new1 {Y : World} {g : Nat} (T : TypeId) (v0 v1 v2 v3 v4 : Value) (hg : g = Y.heap.size) : Box5 (Y.alloc (.cells #[v0, v1, v2, v3, v4] T)) g T v0 v1 v2 v3 v4 := by
  subst hg; exact Box5.new Y T v0 v1 v2 v3 v4
theorem Box5.lt (h : Box5 w c T v0 v1 v2 v3 v4) : c < w.heap.size := (Array.getElem?_eq_some_iff.1 h).1
theorem Box5.below {b : Nat} (h : Box5 w c T v0 v1 v2 v3 v4) (hb : Below b w w') (hc : c < b) : Box5 w' c T v0 v1 v2 v3 v4 := (hb.block c hc).trans h
theorem Box5.call (h : Box5 w c T v0 v1 v2 v3 v4) (hb : Below w.heap.size w w') : Box5 w' c T v0 v1 v2 v3 v4 := h.below hb h.lt
theorem Box5.callD (h : Box5 w c T v0 v1 v2 v3 v4) (hb : Below w.drew.heap.size w.drew w') : Box5 w' c T v0 v1 v2 v3 v4 := Box5.call (w := w.drew) h hb
theorem Box5.alloc (h : Box5 w c T v0 v1 v2 v3 v4) (o : Obj) : Box5 (w.alloc o) c T v0 v1 v2 v3 v4 := h.call ((Below.refl _ _).alloc (Nat.le_refl _) _)
theorem Box5.grown {row : Option Nat} (h : Box5 w c T v0 v1 v2 v3 v4) (hg : w.grownBy w' row) (hr : row ≠ some c) : Box5 w' c T v0 v1 v2 v3 v4 := (hg.block c h.lt (fun e => hr e.symm)).trans h
theorem Box5.cells (h : Box5 w c T v0 v1 v2 v3 v4) : w.cell? ⟨c, 0, none⟩ = some v0 ∧ w.cell? ⟨c, 1, none⟩ = some v1 ∧ w.cell? ⟨c, 2, none⟩ = some v2 ∧ w.cell? ⟨c, 3, none⟩ = some v3 ∧ w.cell? ⟨c, 4, none⟩ = some v4 := by
  unfold Box5 at h
  refine ⟨?_, ?_, ?_, ?_, ?_⟩ <;> simp [World.cell?, h]
theorem Box5.free (h : Box5 w c T v0 v1 v2 v3 v4) (o : Nat) : w.frozen? ⟨c, o, none⟩ = false := by
  unfold Box5 at h
  simp [World.frozen?, h]
theorem Box5.set0 (h : Box5 w c T v0 v1 v2 v3 v4) (u : Value) : Box5 (w.setCell ⟨c, 0, none⟩ u) c T u v1 v2 v3 v4 := by unfold Box5 at *; simp [World.setCell, Array.getElem?_modify, h]
theorem Box5.set1 (h : Box5 w c T v0 v1 v2 v3 v4) (u : Value) : Box5 (w.setCell ⟨c, 1, none⟩ u) c T v0 u v2 v3 v4 := by unfold Box5 at *; simp [World.setCell, Array.getElem?_modify, h]
theorem Box5.set2 (h : Box5 w c T v0 v1 v2 v3 v4) (u : Value) : Box5 (w.setCell ⟨c, 2, none⟩ u) c T v0 v1 u v3 v4 := by unfold Box5 at *; simp [World.setCell, Array.getElem?_modify, h]
theorem Box5.set3 (h : Box5 w c T v0 v1 v2 v3 v4) (u : Value) : Box5 (w.setCell ⟨c, 3, none⟩ u) c T v0 v1 v2 u v4 := by unfold Box5 at *; simp [World.setCell, Array.getElem?_modify, h]
theorem Box5.set4 (h : Box5 w c T v0 v1 v2 v3 v4) (u : Value) : Box5 (w.setCell ⟨c, 4, none⟩ u) c T v0 v1 v2 v3 u := by unfold Box5 at *; simp [World.setCell, Array.getElem?_modify, h]
theorem Box5.other (h : Box5 w c T v0 v1 v2 v3 v4) (hd : c ≠ d) (o : Nat) (u : Value) : Box5 (w.setCell ⟨d, o, none⟩ u) c T v0 v1 v2 v3 v4 := by
  unfold Box5 at *
  rw [Below.heap_setCell _ _ _ _ (by simpa using hd)]
  exact h
end
/-- A window with an inverse whose row is the call's own. -/
def IvOwn (w : World) (lo hi : Nat) (v : Value) (s : Agg.Iv) : Prop :=
  ∃ iv, v = .agg #[iv, .int .i64 s.agg.x, .int .i64 s.agg.y, .int .i64 s.agg.z] ∧ OwnR w lo hi iv s.items.length s.items
theorem IvOwn.kept {w w' : World} {lo hi : Nat} {v : Value} {s : Agg.Iv} {row : Option Nat} (h : IvOwn w lo hi v s) (hg : w.grownBy w' row) (hr : ∀ j, row = some j → j < lo ∨ hi ≤ j) : IvOwn w' lo hi v s := by
  obtain ⟨iv, hv, h2⟩ := h
  exact ⟨iv, hv, h2.kept hg hr⟩
theorem IvOwn.below {w w' : World} {lo hi : Nat} {v : Value} {s : Agg.Iv} (h : IvOwn w lo hi v s) (hb : Below w.heap.size w w') : IvOwn w' lo hi v s :=
  h.kept (row := none) (Below.grownNone hb _) (fun j e => by cases e)
theorem IvOwn.read {w : World} {lo hi : Nat} {v : Value} {s : Agg.Iv} (h : IvOwn w lo hi v s) : ∃ ia ic, v = .agg #[.slice ia s.items.length ic, .int .i64 s.agg.x, .int .i64 s.agg.y, .int .i64 s.agg.z] ∧ Nums .i64 w ia s.items.length ic s.items := by
  obtain ⟨iv, rfl, h2⟩ := h
  obtain ⟨ia, ic, rfl, hI, -⟩ := h2.nums
  exact ⟨ia, ic, rfl, hI⟩
end Go.Proofs.YtmlkdbmhekiniaaGreat

/-
  Rows of numbers of the call's own that may begin inside their block: read, marked, held.
-/
namespace Go.Proofs.YtmlkdbmhekiniaaGreat
set_option linter.unusedSimpArgs false
set_option linter.unusedVariables false
open Go.RowKit
/-- Numbers in the cells of a block, from one on. -/
def CellsS (w : World) (g off n : Nat) (l : List Int) : Prop :=
  ∃ cur, w.heap[g]? = some (.cells cur 3 (0, 0)) ∧ off + n ≤ cur.size ∧ ∀ i, i < n → cur[off + i]? = some (.int .i64 (l[i]?.getD 0))
theorem CellsS.cell {w : World} {g off n : Nat} {l : List Int} (h : CellsS w g off n l) {i : Nat} (hi : i < n) : w.cell? ⟨g, off + i, none⟩ = some (.int .i64 (l[i]?.getD 0)) := by
  obtain ⟨cur, hg, hn, hc⟩ := h
  simpa [World.cell?, hg] using hc i hi
theorem CellsS.free {w : World} {g off n : Nat} {l : List Int} (h : CellsS w g off n l) (o : Nat) : w.frozen? ⟨g, o, none⟩ = false := by
  obtain ⟨cur, hg, hn, hc⟩ := h
  simp [World.frozen?, hg]
theorem CellsS.lt {w : World} {g off n : Nat} {l : List Int} (h : CellsS w g off n l) : g < w.heap.size := by
  obtain ⟨cur, hg, -⟩ := h
  exact (Array.getElem?_eq_some_iff.1 hg).1
theorem CellsS.set {w : World} {g off n : Nat} {l : List Int} (h : CellsS w g off n l) (hl : l.length = n) {j : Nat} (hj : j < n) (x : Int) : CellsS (w.setCell ⟨g, off + j, none⟩ (.int .i64 x)) g off n (l.set j x) := by
  obtain ⟨cur, hg, hn, hc⟩ := h
  refine ⟨cur.setIfInBounds (off + j) (.int .i64 x), ?_, by simpa using hn, fun i hi => ?_⟩
  · simp [World.setCell, Array.getElem?_modify, hg]
  · rw [Array.getElem?_setIfInBounds]
    by_cases e : j = i
    · subst e
      rw [if_pos rfl, if_pos (by omega), List.getElem?_set_self (by omega)]
      rfl
    · rw [if_neg (by omega), List.getElem?_set_ne e]
      exact hc i hi
theorem CellsS.grown {w w' : World} {g off n : Nat} {l : List Int} {row : Option Nat} (h : CellsS w g off n l) (hg : w.grownBy w' row) (hr : row ≠ some g) : CellsS w' g off n l := by
  obtain ⟨cur, hg0, hn, hc⟩ := h
  exact ⟨cur, (hg.block g (Array.getElem?_eq_some_iff.1 hg0).1 (fun e => hr e.symm)).trans hg0, hn, hc⟩
/-- A row of numbers of one's own: nothing, or cells of a block between. -/
def OwnS (w : World) (lo hi : Nat) (v : Value) (n : Nat) (l : List Int) : Prop :=
  l.length = n ∧ lo ≤ hi ∧ hi ≤ w.heap.size ∧ ((v = .slice none 0 0 ∧ n = 0) ∨ ∃ g off cap, v = .slice (some ⟨g, off, none⟩) n cap ∧ lo ≤ g ∧ g < hi ∧ n ≤ cap ∧ cap ≤ maxLen ∧ CellsS w g off n l)
theorem OwnR.s {w : World} {lo hi n : Nat} {v : Value} {l : List Int} (h : OwnR w lo hi v n l) : OwnS w lo hi v n l := by
  have hl : l.length = n := by have := h.1.1; simpa using this
  obtain ⟨h1, h2, h3, h4⟩ := h
  refine ⟨hl, h2, h3, ?_⟩
  have hrow := h1
  rcases h1.2 with h1 | ⟨g, cap, cur, rfl, hlo, hg, hn, hm, hs, ht⟩
  · exact .inl h1
  · refine .inr ⟨g, 0, cap, rfl, hlo, h4 g rfl, hn, hm, cur, hg, by omega, fun i hi => ?_⟩
    have hc := hrow.cellAt i (by omega)
    simp only [World.cell?, hg] at hc
    rw [Nat.zero_add]
    have e : cur[i]? = (l.map (Value.int .i64))[i]? := by simpa using hc
    rw [e, List.getElem?_map, List.getElem?_eq_getElem (by omega)]
    rfl
theorem OwnS.kept {w w' : World} {lo hi n : Nat} {v : Value} {l : List Int} {row : Option Nat} (h : OwnS w lo hi v n l) (hg : w.grownBy w' row) (hr : ∀ j, row = some j → (j < lo ∨ hi ≤ j) ∨ v.ownBlock ≠ some j) : OwnS w' lo hi v n l := by
  obtain ⟨h1, h2, h3, h4⟩ := h
  refine ⟨h1, h2, Nat.le_trans h3 hg.size, ?_⟩
  rcases h4 with h4 | ⟨g, off, cap, rfl, k1, k2, k3, k4, k5⟩
  · exact .inl h4
  · refine .inr ⟨g, off, cap, rfl, k1, k2, k3, k4, k5.grown hg (fun e => ?_)⟩
    rcases hr g e with h | h
    · omega
    · exact h rfl
theorem OwnS.below {w w' : World} {lo hi n : Nat} {v : Value} {l : List Int} (h : OwnS w lo hi v n l) (hb : Below w.heap.size w w') : OwnS w' lo hi v n l :=
  h.kept (row := none) (Below.grownNone hb _) (fun j e => by cases e)
theorem OwnS.wide {w : World} {lo hi lo' hi' n : Nat} {v : Value} {l : List Int} (h : OwnS w lo hi v n l) (h1 : lo' ≤ lo) (h2 : hi ≤ hi') (h3 : hi' ≤ w.heap.size) : OwnS w lo' hi' v n l := by
  obtain ⟨g1, g2, g3, g4⟩ := h
  refine ⟨g1, by omega, h3, ?_⟩
  rcases g4 with g4 | ⟨g, off, cap, rfl, k1, k2, k3, k4, k5⟩
  · exact .inl g4
  · exact .inr ⟨g, off, cap, rfl, by omega, by omega, k3, k4, k5⟩
theorem OwnS.nums {w : World} {lo hi n : Nat} {v : Value} {l : List Int} (h : OwnS w lo hi v n l) : ∃ a cap, v = .slice a n cap ∧ Nums .i64 w a n cap l := by
  obtain ⟨h1, h2, h3, h4⟩ := h
  rcases h4 with ⟨rfl, h0⟩ | ⟨g, off, cap, rfl, k1, k2, k3, k4, k5⟩
  · subst h0; exact ⟨none, 0, rfl, h1, Nat.le_refl _, by simp [maxLen], .inl rfl⟩
  · exact ⟨_, cap, rfl, h1, k3, k4, .inr ⟨g, off, rfl, k5.lt, fun i hi => k5.cell hi⟩⟩
theorem OwnS.nil (w : World) : OwnS w w.heap.size w.heap.size (.slice none 0 0) 0 [] := ⟨rfl, Nat.le_refl _, Nat.le_refl _, .inl ⟨rfl, rfl⟩⟩
/-- The row without its first number. -/
theorem OwnS.tail {w : World} {lo hi n cap : Nat} {a : Addr} {l : List Int} (h : OwnS w lo hi (.slice (some a) (n + 1) cap) (n + 1) l) : OwnS w lo hi (.slice (some (a.add 1)) n (cap - 1)) n l.tail := by
  obtain ⟨h1, h2, h3, h4⟩ := h
  refine ⟨by simp [h1], h2, h3, ?_⟩
  rcases h4 with ⟨h4, -⟩ | ⟨g, off, cap', e, k1, k2, k3, k4, cur, hg, hn, hc⟩
  · cases h4
  · simp only [Value.slice.injEq, Option.some.injEq, true_and] at e
    obtain ⟨rfl, rfl⟩ := e
    refine .inr ⟨g, off + 1, cap - 1, by rw [Addr.add_lit], k1, k2, by omega, by omega, cur, hg, by omega, fun i hi => ?_⟩
    rw [show off + 1 + i = off + (i + 1) by omega, hc (i + 1) (by omega)]
    simp
set_option maxHeartbeats 1000000 in
theorem markIntS_s {lo hi n : Nat} {v : Value} {l : List Int} (w : World) (k : Int) (h : OwnS w lo hi v n l) (hk0 : 0 ≤ k) (hk1 : k ≤ 100000000) (hn : n ≤ 1048576) :
    Calls Tryz.prog 29 #[v, .int .i64 k] w fun e w' => e = .returned (.int .i64 (k + n)) ∧ OwnS w' lo hi v n (seq k n) ∧ w.grownBy w' v.ownBlock := by
  obtain ⟨hl, h2, h3, h4⟩ := h
  rcases h4 with ⟨rfl, rfl⟩ | ⟨g, off, cap, rfl, hlo, hg, hnc, hcm, hc⟩
  · go_enter Tryz.func29, Tryz.ntmps29
    go_wp2
    go_loopw [1, 5] (fun kv i wr => kv = .int .i64 k ∧ i = .int .i64 0 ∧ wr = w) (fun _ i _ => 0)
    case atStart => exact ⟨rfl, rfl, rfl⟩
    case round =>
      obtain ⟨rfl, rfl, rfl⟩ := hrel
      go_wp2
      go_returns
      exact ⟨by simp, ⟨rfl, h2, h3, .inl ⟨rfl, rfl⟩⟩, ⟨rfl, rfl, rfl, Nat.le_refl _, fun _ _ _ => rfl⟩⟩
  · have hcm' := hcm
    unfold maxLen at hcm
    have HL := Lib.hid hl; clear hl
    have HB := Lib.hid (show w.grownBy w (some g) from ⟨rfl, rfl, rfl, Nat.le_refl _, fun _ _ _ => rfl⟩)
    have H1' := Lib.hid (show CellsS w g off n (marked k l 0) by rw [marked_zero]; exact hc)
    have H4 := Lib.hid (show lo ≤ g ∧ g < hi ∧ n ≤ cap ∧ cap ≤ maxLen from ⟨hlo, hg, hnc, hcm'⟩)
    clear hc hcm' hlo hg
    go_enter Tryz.func29, Tryz.ntmps29
    go_wp2
    go_loopw [1, 5] (fun kv i wr => ∃ j : Nat, j ≤ n ∧ i = .int .i64 j ∧ kv = .int .i64 (k + j) ∧ Hid (CellsS wr g off n (marked k l j)) ∧ Hid (w.grownBy wr (some g))) (fun _ i _ => n - (intOf i).toNat)
    case atStart => exact ⟨0, Nat.zero_le _, rfl, by simp, H1', HB⟩
    case round =>
      obtain ⟨j, hj, rfl, rfl, HR, HG⟩ := hrel
      clear H1' HB
      by_cases hlt : j < n
      · have hst := marked_set k l j (by have := HL.out; omega)
        have HST := Lib.hid hst; clear hst
        have hml : (marked k l j).length = n := by have := HL.out; simp [marked, seq_length]; omega
        have hfr := HR.out.free (off + j)
        have hcd := HR.out.cell hlt
        have hs := HR.out.set hml hlt (k + (j : Int))
        rw [HST.out] at hs
        have HS := Lib.hid hs
        clear hs hml
        have hk0' : (0 : Int) ≤ (j : Int) := Int.natCast_nonneg _
        have hkn : (j : Int) < (n : Int) := by omega
        go_wp2
        go_roundw
        case rel =>
          refine ⟨j + 1, by omega, by go_num, by go_num, HS, ?_⟩
          exact ⟨HG.out.os, HG.out.tape, HG.out.output, by have := HG.out.size; simpa [World.setCell] using this, fun i hi hne => (Below.heap_setCell _ _ _ _ (by show i ≠ g; intro e; exact hne (by rw [e]))).trans (HG.out.block i hi hne)⟩
        case measure => simp [intOf]; omega
      · obtain rfl : j = n := by omega
        go_wp2
        go_returns
        obtain ⟨k1, k2, k3, k4⟩ := H4.out
        refine ⟨rfl, ⟨seq_length _ _, h2, Nat.le_trans h3 HG.out.size, .inr ⟨g, off, cap, rfl, k1, k2, k3, k4, ?_⟩⟩, HG.out⟩
        have := HR.out
        rw [← HL.out, marked_all, HL.out] at this
        exact this
set_option maxHeartbeats 1000000 in
theorem heldIntS_s {lo hi n : Nat} {v : Value} (w : World) (k : Int) (h : OwnS w lo hi v n (seq k n)) (hk0 : 0 ≤ k) (hk1 : k ≤ 100000000) (hn : n ≤ 1048576) :
    Calls Tryz.prog 30 #[v, .int .i64 k] w fun e w' => e = .returned (.int .i64 (k + n)) ∧ Below w.heap.size w w' := by
  obtain ⟨a, cap, rfl, hN⟩ := h.nums
  have hcm : cap ≤ 9223372036854775807 := by have := hN.2.2.1; unfold maxLen at this; omega
  have hnc := hN.2.1
  have H4 := Lib.hid hN.2.2.2
  clear hN h
  go_enter Tryz.func30, Tryz.ntmps30
  go_wp2
  go_loopw [1, 5] (fun kv i wr => ∃ j : Nat, j ≤ n ∧ i = .int .i64 j ∧ kv = .int .i64 (k + j) ∧ Hid (Below w.heap.size w wr)) (fun _ i _ => n - (intOf i).toNat)
  case atStart => exact ⟨0, Nat.zero_le _, rfl, by simp, Below.refl _ _⟩
  case round =>
    obtain ⟨j, hj, rfl, rfl, HW⟩ := hrel
    by_cases hlt : j < n
    · rcases H4.out with h4 | ⟨b, off, rfl, hb, hcs⟩
      · omega
      · have hck := (HW.out.cell (p := ⟨b, off + j, none⟩) hb).trans (hcs j hlt)
        rw [seq_at k n j hlt] at hck
        clear hcs
        have hk0' : (0 : Int) ≤ (j : Int) := Int.natCast_nonneg _
        have hkn : (j : Int) < (n : Int) := by omega
        go_wp2
        go_roundw
        case rel => exact ⟨j + 1, by omega, by go_num, by go_num, HW.out⟩
        case measure => simp [intOf]; omega
    · obtain rfl : j = n := by omega
      go_wp2
      go_returns
      exact ⟨rfl, HW.out⟩
/-- A deque whose rows are the call's own. -/
def DqOwn (w : World) (lo hi : Nat) (v : Value) (s : Agg.Dq) : Prop :=
  ∃ iv pv, v = .agg #[iv, pv, .int .i64 s.first, .int .i64 s.next, .int .i64 s.drops] ∧ OwnS w lo hi iv s.items.length s.items ∧ OwnS w lo hi pv s.places.length s.places ∧ (iv.ownBlock = none ∨ iv.ownBlock ≠ pv.ownBlock)
theorem DqOwn.kept {w w' : World} {lo hi : Nat} {v : Value} {s : Agg.Dq} {row : Option Nat} (h : DqOwn w lo hi v s) (hg : w.grownBy w' row) (hr : ∀ j, row = some j → j < lo ∨ hi ≤ j) : DqOwn w' lo hi v s := by
  obtain ⟨iv, pv, hv, h1, h2, h3⟩ := h
  exact ⟨iv, pv, hv, h1.kept hg (fun j e => .inl (hr j e)), h2.kept hg (fun j e => .inl (hr j e)), h3⟩
theorem DqOwn.below {w w' : World} {lo hi : Nat} {v : Value} {s : Agg.Dq} (h : DqOwn w lo hi v s) (hb : Below w.heap.size w w') : DqOwn w' lo hi v s :=
  h.kept (row := none) (Below.grownNone hb _) (fun j e => by cases e)
theorem DqOwn.wide {w : World} {lo hi lo' hi' : Nat} {v : Value} {s : Agg.Dq} (h : DqOwn w lo hi v s) (h1 : lo' ≤ lo) (h2 : hi ≤ hi') (h3 : hi' ≤ w.heap.size) : DqOwn w lo' hi' v s := by
  obtain ⟨iv, pv, hv, g1, g2, g3⟩ := h
  exact ⟨iv, pv, hv, g1.wide h1 h2 h3, g2.wide h1 h2 h3, g3⟩
theorem DqOwn.read {w : World} {lo hi : Nat} {v : Value} {s : Agg.Dq} (h : DqOwn w lo hi v s) : ∃ ia ic pa pc, v = .agg #[.slice ia s.items.length ic, .slice pa s.places.length pc, .int .i64 s.first, .int .i64 s.next, .int .i64 s.drops] ∧ Nums .i64 w ia s.items.length ic s.items ∧ Nums .i64 w pa s.places.length pc s.places := by
  obtain ⟨iv, pv, rfl, h1, h2, -⟩ := h
  obtain ⟨ia, ic, rfl, hI⟩ := h1.nums
  obtain ⟨pa, pc, rfl, hP⟩ := h2.nums
  exact ⟨ia, ic, pa, pc, rfl, hI, hP⟩
end Go.Proofs.YtmlkdbmhekiniaaGreat

/-
  Windows with an inverse as the exact laws take, copy, compare, mark and hold them; an answer in a variable of its own.
-/
namespace Go.Proofs.YtmlkdbmhekiniaaGreat
set_option linter.unusedSimpArgs false
set_option linter.unusedVariables false
open Go.RowKit
theorem e6_slice {w : World} {base e size n : Nat} {v : Value} {xs : List Value} (h : w.ownsRow base e size v n xs) : ∃ a c, v = .slice a n c := by
  rcases h.2 with ⟨rfl, rfl⟩ | ⟨g, cap, cur, rfl, -⟩
  · exact ⟨none, 0, rfl⟩
  · exact ⟨_, cap, rfl⟩
theorem e6_low {w : World} {base e size n d o : Nat} {v u : Value} {xs : List Value} (h : w.ownsRow base e size v n xs) (hd : d < base) : (w.setCell ⟨d, o, none⟩ u).ownsRow base e size v n xs := ownsRow_setCell_below h hd u
theorem e6_size4 {wr : World} {c : Nat} (u0 u1 u2 u3 : Value) : ((((wr.setCell ⟨c, 0, none⟩ u0).setCell ⟨c, 1, none⟩ u1).setCell ⟨c, 2, none⟩ u2).setCell ⟨c, 3, none⟩ u3).heap.size = wr.heap.size := by simp [World.setCell]
theorem e6_below4 {w wr : World} {c d : Nat} (h : Below d w wr) (hd : d ≤ c) (u0 u1 u2 u3 : Value) :
    Below d w ((((wr.setCell ⟨c, 0, none⟩ u0).setCell ⟨c, 1, none⟩ u1).setCell ⟨c, 2, none⟩ u2).setCell ⟨c, 3, none⟩ u3) := (((h.setCell hd u0).setCell hd u1).setCell hd u2).setCell hd u3
theorem OwnR.set1 {w : World} {lo hi n d o : Nat} {v u : Value} {l : List Int} (h : OwnR w lo hi v n l) (hd : d < lo ∨ hi ≤ d) : OwnR (w.setCell ⟨d, o, none⟩ u) lo hi v n l :=
  h.kept (row := some d) ⟨rfl, rfl, rfl, by simp [World.setCell], fun k hk hne => Below.heap_setCell _ _ _ _ (fun e => hne (by rw [e]))⟩ (fun j e => by cases e; exact hd)
theorem eqValue_6 (x y z : Int) (w : World) :
    Calls Tryz.prog 101 #[.agg #[.int .i64 x, .int .i64 y, .int .i64 z], .agg #[.int .i64 x, .int .i64 y, .int .i64 z]] w fun e w' => e = .returned (.bool true) ∧ Below w.heap.size w w' := by
  go_enter Tryz.func101, Tryz.ntmps101
  go_wp2
  go_returns
  exact ⟨rfl, (by first | (go_grown; done) | (refine below_drewN ?_ _; go_grown; done) | (refine (below_drewN _ ?_); go_grown; done))⟩
/-- A window with an inverse is made anew. -/
def MadeIv (s : Agg.Iv) (w : World) (e : Ending) (w' : World) : Prop := ∃ v, e = .returned v ∧ IvOwn w' w.heap.size w'.heap.size v s ∧ Below w.heap.size w w'
set_option maxRecDepth 8000 in
set_option maxHeartbeats 4000000 in
theorem eqInverse_own {lo hi lo' hi' : Nat} {v v' : Value} {s : Agg.Iv} (w : World) (h : IvOwn w lo hi v s) (h' : IvOwn w lo' hi' v' s) :
    Calls Tryz.prog 47 #[v, v'] w fun e w' => e = .returned (.bool true) ∧ Below w.heap.size w w' := by
  obtain ⟨ia, ic, rfl, hI⟩ := h.read
  obtain ⟨ia', ic', rfl, hI'⟩ := h'.read
  obtain ⟨I, ax, ay, az⟩ := s
  simp only at hI hI'
  have HI := Lib.hid hI
  have HI' := Lib.hid hI'
  clear h h' hI hI'
  obtain ⟨m, hm⟩ : ∃ m, m = I.length := ⟨_, rfl⟩
  rw [← hm] at HI HI'
  simp only [← hm]
  clear hm
  obtain ⟨W, hW⟩ : ∃ W, W = ((w.alloc (.cells #[.slice ia m ic, .int .i64 ax, .int .i64 ay, .int .i64 az] 27)).alloc (.cells #[.slice ia' m ic', .int .i64 ax, .int .i64 ay, .int .i64 az] 27)) := ⟨_, rfl⟩
  have HA := Lib.hid (show Box4 W w.heap.size 27 (.slice ia m ic) (.int .i64 ax) (.int .i64 ay) (.int .i64 az) from by rw [hW]; exact (Box4.new w _ _ _ _ _).alloc _)
  have HR := Lib.hid (show Box4 W (w.heap.size + 1) 27 (.slice ia' m ic') (.int .i64 ax) (.int .i64 ay) (.int .i64 az) from by rw [hW]; exact Box4.new1 (Y := w.alloc _) _ _ _ _ _ (by simp))
  have HB := Lib.hid (show Below w.heap.size w W from by rw [hW]; exact ((Below.refl _ _).alloc (Nat.le_refl _) _).alloc (by simp) _)
  go_enter Tryz.func47, Tryz.ntmps47
  go_wp2_with fail
  rw [← hW]
  clear hW
  refine (eqIntS_same _ _ _ _ _ _ I _ (HI.out.below HB.out) (HI'.out.below HB.out)).mono ?_
  rintro e w1 ⟨rfl, hb1⟩
  have HA1 := Lib.hid (HA.out.call hb1)
  have HR1 := Lib.hid (HR.out.call hb1)
  have HB1 := Lib.hid (HB.out.trans (hb1.mono HB.out.size))
  obtain ⟨q0, q1, q2, q3⟩ := HA1.out.cells
  obtain ⟨r0, r1, r2, r3⟩ := HR1.out.cells
  clear hb1 HA HR HB
  go_wp2_with fail
  refine (eqValue_6 _ _ _ _).mono ?_
  rintro e w2 ⟨rfl, hb2⟩
  have HB2 := Lib.hid (HB1.out.trans (hb2.mono HB1.out.size))
  clear hb2
  go_wp2_with fail
  go_returns
  exact ⟨rfl, HB2.out⟩
theorem IvOwn.touch {W X : World} {lo hi lo' hi' : Nat} {v : Value} {s : Agg.Iv} (h : IvOwn W lo' hi' v s) (ht : Touch lo hi W X) (hd : hi' ≤ lo ∨ hi ≤ lo') : IvOwn X lo' hi' v s := by
  obtain ⟨iv, hv, h2⟩ := h
  exact ⟨iv, hv, h2.touch ht hd⟩
def markIv (k : Int) (s : Agg.Iv) : Agg.Iv := ⟨seq k s.items.length, s.agg⟩
def markNI (s : Agg.Iv) : Int := (s.items.length : Int)
set_option maxHeartbeats 2000000 in
theorem markInverse_own {lo hi : Nat} {v : Value} {s : Agg.Iv} (w : World) (k : Int) (h : IvOwn w lo hi v s) (hk0 : 0 ≤ k) (hk1 : k ≤ 1000) (hn : s.items.length ≤ 1048576) :
    Calls Tryz.prog 48 #[v, .int .i64 k] w fun e w' => e = .returned (.int .i64 (k + markNI s)) ∧ IvOwn w' lo hi v (markIv k s) ∧ Touch lo hi w w' := by
  rw [show k + markNI s = k + (s.items.length : Int) from rfl]
  obtain ⟨iv, rfl, h2⟩ := h
  obtain ⟨ia, ic, rfl⟩ := e6_slice h2.1
  have hb0 : Below w.heap.size w (w.alloc (.cells #[.slice ia s.items.length ic, .int .i64 s.agg.x, .int .i64 s.agg.y, .int .i64 s.agg.z] 27)) := (Below.refl _ _).alloc (Nat.le_refl _) _
  have H2 := Lib.hid (h2.below hb0)
  have HT := Lib.hid ((Touch.refl lo hi w).call hb0)
  have HM2 := Lib.hid (fun w h => markIntS_big w k (lo := lo) (hi := hi) (n := s.items.length) (v := .slice ia s.items.length ic) (l := s.items) h (by omega) (by omega) (by omega))
  clear h2 hb0 hn
  go_enter Tryz.func48, Tryz.ntmps48
  go_wp2_with fail
  refine (HM2.out _ H2.out).mono ?_
  rintro e w2 ⟨rfl, r2, hg2⟩
  have HT2 := Lib.hid (HT.out.trans (Touch.of hg2 (fun g hg => ⟨(H2.out.1.lt g hg).1, H2.out.2.2.2 g hg⟩)))
  have HV2 := Lib.hid r2
  clear r2 hg2
  go_wp2_with fail
  go_returns
  exact ⟨rfl, ⟨_, rfl, by have := HV2.out; simpa [markIv, seq_length] using this⟩, HT2.out⟩
set_option maxHeartbeats 2000000 in
theorem heldInverse_own {lo hi : Nat} {v : Value} {s : Agg.Iv} (w : World) (k : Int) (h : IvOwn w lo hi v (markIv k s)) (hk0 : 0 ≤ k) (hk1 : k ≤ 1000) (hn : s.items.length ≤ 1048576) :
    Calls Tryz.prog 49 #[v, .int .i64 k] w fun e w' => e = .returned (.int .i64 (k + markNI s)) ∧ Below w.heap.size w w' := by
  rw [show k + markNI s = k + (s.items.length : Int) from rfl]
  obtain ⟨iv, rfl, h2⟩ := h
  simp only [markIv, seq_length] at h2
  obtain ⟨ia, ic, rfl⟩ := e6_slice h2.1
  have hb0 : Below w.heap.size w (w.alloc (.cells #[.slice ia s.items.length ic, .int .i64 s.agg.x, .int .i64 s.agg.y, .int .i64 s.agg.z] 27)) := (Below.refl _ _).alloc (Nat.le_refl _) _
  have H2 := Lib.hid (h2.below hb0)
  have HB := Lib.hid hb0
  have HM2 := Lib.hid (fun w h => heldIntS_big w k (lo := lo) (hi := hi) (n := s.items.length) (v := .slice ia s.items.length ic) h (by omega) (by omega) (by omega))
  have hneg : ¬ (k + (s.items.length : Int) < 0) := by omega
  clear h2 hb0 hn
  go_enter Tryz.func49, Tryz.ntmps49
  go_wp2_with fail
  refine (HM2.out _ H2.out).mono ?_
  rintro e w2 ⟨rfl, hb2⟩
  have HB2 := Lib.hid (HB.out.trans (hb2.mono HB.out.size))
  clear hb2
  go_wp2_with fail
  go_returns
  exact ⟨rfl, HB2.out⟩
/-- An answer in a variable of its own, between two numbers; its rows lie elsewhere between them. -/
def IvAns (lb ub : Nat) (X : World) (c : Nat) (s : Agg.Iv) : Prop :=
  ∃ (lo hi : Nat) (ia : Option Addr) (ic : Nat), lb ≤ lo ∧ hi ≤ ub ∧ lb ≤ c ∧ c < ub ∧ (c < lo ∨ hi ≤ c) ∧ ub ≤ X.heap.size ∧ Box4 X c 27 (.slice ia s.items.length ic) (.int .i64 s.agg.x) (.int .i64 s.agg.y) (.int .i64 s.agg.z) ∧ IvOwn X lo hi (.agg #[.slice ia s.items.length ic, .int .i64 s.agg.x, .int .i64 s.agg.y, .int .i64 s.agg.z]) s
theorem IvAns.new {lb : Nat} {Y : World} {lo hi : Nat} {ia : Option Addr} {ic : Nat} {s : Agg.Iv} (hl : lb ≤ lo) (hlo : lo ≤ hi) (hh : hi ≤ Y.heap.size) (ho : IvOwn Y lo hi (.agg #[.slice ia s.items.length ic, .int .i64 s.agg.x, .int .i64 s.agg.y, .int .i64 s.agg.z]) s) : IvAns lb (Y.alloc (.cells #[.slice ia s.items.length ic, .int .i64 s.agg.x, .int .i64 s.agg.y, .int .i64 s.agg.z] 27)).heap.size (Y.alloc (.cells #[.slice ia s.items.length ic, .int .i64 s.agg.x, .int .i64 s.agg.y, .int .i64 s.agg.z] 27)) Y.heap.size s :=
  ⟨lo, hi, ia, ic, hl, by simp; omega, by omega, by simp, .inr hh, Nat.le_refl _, Box4.new _ _ _ _ _ _, ho.below ((Below.refl _ _).alloc (Nat.le_refl _) _)⟩
theorem IvAns.set {lb : Nat} {X : World} {lo hi c : Nat} {ia : Option Addr} {ic : Nat} {s : Agg.Iv} {u0 u1 u2 u3 : Value} (hc : lb ≤ c) (hcl : c < lo) (hh : hi ≤ X.heap.size) (hb : Box4 X c 27 u0 u1 u2 u3) (ho : IvOwn X lo hi (.agg #[.slice ia s.items.length ic, .int .i64 s.agg.x, .int .i64 s.agg.y, .int .i64 s.agg.z]) s) :
    IvAns lb (((((X.setCell ⟨c, 0, none⟩ (.slice ia s.items.length ic)).setCell ⟨c, 1, none⟩ (.int .i64 s.agg.x)).setCell ⟨c, 2, none⟩ (.int .i64 s.agg.y)).setCell ⟨c, 3, none⟩ (.int .i64 s.agg.z))).heap.size (((((X.setCell ⟨c, 0, none⟩ (.slice ia s.items.length ic)).setCell ⟨c, 1, none⟩ (.int .i64 s.agg.x)).setCell ⟨c, 2, none⟩ (.int .i64 s.agg.y)).setCell ⟨c, 3, none⟩ (.int .i64 s.agg.z))) c s := by
  refine ⟨lo, hi, ia, ic, by omega, by rw [e6_size4]; exact hh, hc, by rw [e6_size4]; exact hb.lt, .inl hcl, Nat.le_refl _, (((hb.set0 _).set1 _).set2 _).set3 _, ?_⟩
  obtain ⟨iv, hv, h2⟩ := ho
  exact ⟨iv, hv, (((h2.set1 (.inl hcl)).set1 (.inl hcl)).set1 (.inl hcl)).set1 (.inl hcl)⟩
theorem IvAns.touch {X Y : World} {c lo hi lb ub : Nat} {s : Agg.Iv} (h : IvAns lb ub X c s) (ht : Touch lo hi X Y) (hw : hi ≤ lb ∨ ub ≤ lo) : IvAns lb ub Y c s := by
  obtain ⟨l, g, ia, ic, h1, h2, h3, h4, h5, h6, h7, h8⟩ := h
  exact ⟨l, g, ia, ic, h1, h2, h3, h4, h5, Nat.le_trans h6 ht.2.2.2.1, (ht.2.2.2.2 c h7.lt (by omega)).trans h7, h8.touch ht (by omega)⟩
theorem IvAns.call {X Y : World} {c lb ub : Nat} {s : Agg.Iv} (h : IvAns lb ub X c s) (hb : Below X.heap.size X Y) : IvAns lb ub Y c s :=
  h.touch (lo := ub) (hi := ub) ((Touch.refl _ _ X).call hb) (.inr (Nat.le_refl _))
end Go.Proofs.YtmlkdbmhekiniaaGreat

/-
  Rows of windows with an inverse, one behind each change.
-/
namespace Go.Proofs.YtmlkdbmhekiniaaGreat
set_option linter.unusedSimpArgs false
set_option linter.unusedVariables false
open Go.RowKit
def ivCells (v0 : Value) (s : Agg.Iv) : List Value := [v0, .int .i64 s.agg.x, .int .i64 s.agg.y, .int .i64 s.agg.z]
/-- A row of windows with an inverse of the call's own, each with its rows in memory of its own that the row itself does not lie in. -/
def IvRow (w : World) (base lo0 c : Nat) (v : Value) (n : Nat) (S : Nat → Agg.Iv) : Prop :=
  ∃ C : Nat → List Value, w.ownsRow base 27 4 v n (flat C n) ∧ ∀ i, i < n → ∃ v0 lo hi, C i = ivCells v0 (S i) ∧ OwnR w lo hi v0 (S i).items.length (S i).items ∧ lo0 ≤ lo ∧ (∀ g, v.ownBlock = some g → g < lo ∨ hi ≤ g) ∧ (c < lo ∨ hi ≤ c)
theorem IvRow.below {w w' : World} {base lo0 c n : Nat} {v : Value} {S : Nat → Agg.Iv} (h : IvRow w base lo0 c v n S) (hb : Below w.heap.size w w') : IvRow w' base lo0 c v n S := by
  obtain ⟨C, h1, h2⟩ := h
  refine ⟨C, h1.kept (Below.grownNone hb none) (by cases hv : v.ownBlock <;> simp), fun i hi => ?_⟩
  obtain ⟨v0, lo, hi', e, h10, d⟩ := h2 i hi
  exact ⟨v0, lo, hi', e, h10.below hb, d⟩
theorem IvRow.lower {w : World} {base base' lo0 lo0' c n : Nat} {v : Value} {S : Nat → Agg.Iv} (h : IvRow w base lo0 c v n S) (h1 : base' ≤ base) (h2 : lo0' ≤ lo0) : IvRow w base' lo0' c v n S := by
  obtain ⟨C, g1, g2⟩ := h
  refine ⟨C, owns_lower g1 h1, fun i hi => ?_⟩
  obtain ⟨v0, lo, hi', e, h10, d1, d2⟩ := g2 i hi
  exact ⟨v0, lo, hi', e, h10, by omega, d2⟩
theorem IvRow.set {w : World} {base lo0 c o n : Nat} {u v : Value} {S : Nat → Agg.Iv} (h : IvRow w base lo0 c v n S) (hc : c < base) : IvRow (w.setCell ⟨c, o, none⟩ u) base lo0 c v n S := by
  obtain ⟨C, g1, g2⟩ := h
  have hset : w.grownBy (w.setCell ⟨c, o, none⟩ u) (some c) := ⟨rfl, rfl, rfl, by simp [World.setCell], fun k hk hne => Below.heap_setCell _ _ _ _ (fun e => hne (by rw [e]))⟩
  refine ⟨C, g1.kept hset ?_, fun i hi => ?_⟩
  · cases hv : v.ownBlock with
    | none => exact .inl rfl
    | some g => exact .inr (fun e => by have := (g1.lt g hv).1; have := Option.some.inj e; omega)
  · obtain ⟨v0, lo, hi', e, h10, d1, d2, d3⟩ := g2 i hi
    exact ⟨v0, lo, hi', e, h10.kept hset (fun j e => by have := Option.some.inj e; omega), d1, d2, d3⟩
/-- A slice of windows with an inverse that is read. -/
def IvsAt (w : World) (a : Option Addr) (n cap : Nat) (S : Nat → Agg.Iv) : Prop :=
  n ≤ cap ∧ cap ≤ 9223372036854775807 ∧ (n = 0 ∨ ∃ b off, a = some ⟨b, off, none⟩ ∧ b < w.heap.size ∧ ∀ i, i < n → ∃ ia ic, (w.cell? ⟨b, off + i * 4, none⟩ = some (.slice ia (S i).items.length ic) ∧ w.cell? ⟨b, off + i * 4 + 1, none⟩ = some (.int .i64 (S i).agg.x) ∧ w.cell? ⟨b, off + i * 4 + 2, none⟩ = some (.int .i64 (S i).agg.y) ∧ w.cell? ⟨b, off + i * 4 + 3, none⟩ = some (.int .i64 (S i).agg.z)) ∧ Nums .i64 w ia (S i).items.length ic (S i).items)
theorem IvsAt.below {w w' : World} {a : Option Addr} {n cap : Nat} {S : Nat → Agg.Iv} (h : IvsAt w a n cap S) (hb : Below w.heap.size w w') : IvsAt w' a n cap S := by
  obtain ⟨h1, h2, h3⟩ := h
  refine ⟨h1, h2, ?_⟩
  rcases h3 with h3 | ⟨b, off, ha, hlt, hc⟩
  · exact .inl h3
  · refine .inr ⟨b, off, ha, Nat.lt_of_lt_of_le hlt hb.size, fun i hi => ?_⟩
    obtain ⟨ia, ic, ⟨q0, q1, q2, q3⟩, h10⟩ := hc i hi
    have k := fun o => hb.cell (p := ⟨b, o, none⟩) hlt
    exact ⟨ia, ic, ⟨(k _).trans q0, (k _).trans q1, (k _).trans q2, (k _).trans q3⟩, h10.below hb⟩
/-- The row as a slice that is read, from its state i on. -/
theorem IvRow.read {w : World} {base lo0 c n : Nat} {v : Value} {S : Nat → Agg.Iv} (h : IvRow w base lo0 c v n S) (hn : 0 < n) :
    ∃ g cap, v = .slice (some ⟨g, 0, none⟩) n cap ∧ base ≤ g ∧ g < w.heap.size ∧ n ≤ cap ∧ cap ≤ 9223372036854775807 ∧ ∀ i, i ≤ n → IvsAt w (some ⟨g, i * 4, none⟩) (n - i) (cap - i) (fun j => S (i + j)) := by
  obtain ⟨C, h1, h2⟩ := h
  obtain ⟨g, cap, rfl, hb, hg, hnc, hcm, hcell⟩ := own_cells h1 hn
  refine ⟨g, cap, rfl, hb, hg, hnc, hcm, fun i hi => ⟨by omega, by omega, .inr ⟨g, i * 4, rfl, hg, fun j hj => ?_⟩⟩⟩
  have hlen : ∀ q, q < n → (C q).length = 4 := fun q hq => by
    obtain ⟨v0, lo, hi', e, -⟩ := h2 q hq
    rw [e]; rfl
  obtain ⟨v0, lo, hi', e, h10, -⟩ := h2 (i + j) (by omega)
  obtain ⟨ia, ic, rfl, h20, -⟩ := h10.nums
  have hc : ∀ c, c < 4 → w.cell? ⟨g, i * 4 + j * 4 + c, none⟩ = (C (i + j))[c]? := fun c hc => by
    rw [hcell _ (by omega), show i * 4 + j * 4 + c = (i + j) * 4 + c by omega]
    exact flat_at hlen _ _ (by omega) hc
  refine ⟨ia, ic, ⟨?_, ?_, ?_, ?_⟩, h20⟩
  · have := hc 0 (by omega); rw [e] at this; exact this
  · have := hc 1 (by omega); rw [e] at this; exact this
  · have := hc 2 (by omega); rw [e] at this; exact this
  · have := hc 3 (by omega); rw [e] at this; exact this
/-- A state of the row as the value of a variable, in memory of its own. -/
theorem IvRow.own {w : World} {base lo0 c n : Nat} {v : Value} {S : Nat → Agg.Iv} (h : IvRow w base lo0 c v n S) {i : Nat} (hi : i < n) :
    ∃ g cap v0 lo, v = .slice (some ⟨g, 0, none⟩) n cap ∧ (w.cell? ⟨g, i * 4, none⟩ = some v0 ∧ w.cell? ⟨g, i * 4 + 1, none⟩ = some (.int .i64 (S i).agg.x) ∧ w.cell? ⟨g, i * 4 + 2, none⟩ = some (.int .i64 (S i).agg.y) ∧ w.cell? ⟨g, i * 4 + 3, none⟩ = some (.int .i64 (S i).agg.z)) ∧ lo0 ≤ lo ∧ OwnR w lo w.heap.size v0 (S i).items.length (S i).items := by
  obtain ⟨C, h1, h2⟩ := h
  obtain ⟨g, cap, rfl, hb, hg, hnc, hcm, hcell⟩ := own_cells h1 (by omega)
  have hlen : ∀ q, q < n → (C q).length = 4 := fun q hq => by
    obtain ⟨v0, lo, hi', e, -⟩ := h2 q hq
    rw [e]; rfl
  obtain ⟨v0, lo, hi', e, h10, hlo, -⟩ := h2 i hi
  have hc : ∀ c, c < 4 → w.cell? ⟨g, i * 4 + c, none⟩ = (C i)[c]? := fun c hc => by
    rw [hcell _ (by omega)]
    exact flat_at hlen _ _ (by omega) hc
  refine ⟨g, cap, v0, lo, rfl, ⟨?_, ?_, ?_, ?_⟩, hlo, h10.wide (Nat.le_refl _) (own_hiR h10) (Nat.le_refl _)⟩
  · have := hc 0 (by omega); rw [e] at this; exact this
  · have := hc 1 (by omega); rw [e] at this; exact this
  · have := hc 2 (by omega); rw [e] at this; exact this
  · have := hc 3 (by omega); rw [e] at this; exact this
/-- A state more behind the row. -/
theorem IvRow.more {w w1 w2 : World} {base lo0 c n lo hi : Nat} {v v' v0 : Value} {S : Nat → Agg.Iv} {C : Nat → List Value}
    (h2 : ∀ i, i < n → ∃ v0 lo hi, C i = ivCells v0 (S i) ∧ OwnR w lo hi v0 (S i).items.length (S i).items ∧ lo0 ≤ lo ∧ (∀ g, v.ownBlock = some g → g < lo ∨ hi ≤ g) ∧ (c < lo ∨ hi ≤ c))
    (hb : Below w.heap.size w w1) (hV : OwnR w1 lo hi v0 (S n).items.length (S n).items) (hlo : lo0 ≤ lo) (hnew : ∀ g, v.ownBlock = some g → g < lo ∨ hi ≤ g) (hcc : c < lo ∨ hi ≤ c)
    (hg : w1.grownBy w2 v.ownBlock) (hown : w2.ownsRow base 27 4 v' (n + 1) (flat C n ++ ivCells v0 (S n))) (hwh : v'.ownBlock = v.ownBlock ∨ ∃ g, v'.ownBlock = some g ∧ w1.heap.size ≤ g) : IvRow w2 base lo0 c v' (n + 1) S := by
  refine ⟨fun i => if i = n then ivCells v0 (S n) else C i, by rw [flat_put]; exact hown, fun i hi => ?_⟩
  have hout : ∀ {lo hi : Nat}, hi ≤ w1.heap.size → (∀ g, v.ownBlock = some g → g < lo ∨ hi ≤ g) → ∀ g, v'.ownBlock = some g → g < lo ∨ hi ≤ g := fun hle hh g hgv => by
    rcases hwh with e | ⟨g', e, hge⟩
    · exact hh g (e ▸ hgv)
    · rw [e] at hgv
      obtain rfl := Option.some.inj hgv
      exact .inr (by omega)
  by_cases hin : i = n
  · subst hin
    have h10 := hV
    exact ⟨v0, lo, _, by simp, h10.kept hg hnew, hlo, hout (own_hiR h10) hnew, hcc⟩
  · obtain ⟨v0', lo', hi', e, h10, d0, d, d3⟩ := h2 i (by omega)
    have h20 := h10.below hb
    exact ⟨v0', lo', hi', by simp [hin, e], h20.kept hg d, d0, hout (own_hiR h20) d, d3⟩
end Go.Proofs.YtmlkdbmhekiniaaGreat

/-
  The program's list of the states of windows with an inverse, from the one before all changes on.
-/
namespace Go.Proofs.YtmlkdbmhekiniaaGreat
set_option linter.unusedSimpArgs false
set_option linter.unusedVariables false
open Go.RowKit
theorem Box4.news {w : World} {c : Nat} {T : TypeId} {v0 v1 v2 v3 : Value} (h : Box4 w c T v0 v1 v2 v3) : ∀ j u, [v0, v1, v2, v3][j]? = some u → w.cell? ((⟨c, 0, none⟩ : Addr).add j) = some u := by
  obtain ⟨h0, h1, h2, h3⟩ := h.cells
  intro j u hj
  rw [Addr.add_lit, Nat.zero_add]
  match j, hj with
  | 0, hj => simp at hj; subst hj; exact h0
  | 1, hj => simp at hj; subst hj; exact h1
  | 2, hj => simp at hj; subst hj; exact h2
  | 3, hj => simp at hj; subst hj; exact h3
  | j + 4, hj => simp at hj
/-- What a step, or the start, answers. -/
def IvMade (b : Bool) (s : Agg.Iv) (w : World) (e : Ending) (w' : World) : Prop :=
  ∃ v0, e = .returned (.tuple #[.agg #[v0, .int .i64 s.agg.x, .int .i64 s.agg.y, .int .i64 s.agg.z], .bool b]) ∧ (OwnR w' w.heap.size w'.heap.size v0 s.items.length s.items) ∧ Below w.heap.size w w'
/-- The states, in a row of the call's own. -/
def IvStates (b : Bool) (n : Nat) (S : Nat → Agg.Iv) (w : World) (e : Ending) (w' : World) : Prop :=
  ∃ v, e = .returned (.tuple #[v, .bool b]) ∧ (b = true → ∃ c, IvRow w' w.heap.size w.heap.size c v n S) ∧ Below w.heap.size w w'
theorem infoIv : (Tryz.prog.info? 27).map (fun i => (i.zero, i.size, i.bytes)) = some (some (.agg #[.slice none 0 0, .int .i64 0, .int .i64 0, .int .i64 0]), 4, 48) := by kernel_rfl
set_option maxRecDepth 8000 in
set_option maxHeartbeats 4000000 in
theorem statesOf_iv (k : Int) (f0 f1 : Nat) (c0 : ∀ args w, Sem.run Tryz.prog (Go.callFunc f0 args) w = .ok (.enter f0 args) w) (c1 : ∀ args w, Sem.run Tryz.prog (Go.callFunc f1 args) w = .ok (.enter f1 args) w)
    (kb : Bool) (S : Nat → Agg.Iv) (a : Option Addr) (n cap : Nat) (l : List (Bool × Int)) (w : World) (h : Ops w a n cap l)
    (hstart : ∀ w', Calls Tryz.prog f0 #[.int .i64 k] w' (IvMade kb (S 0) w'))
    (hstep : kb = true → Agg.opsOk l = true → ∀ j, j < n → ∀ w' ia ic, Nums .i64 w' ia (S j).items.length ic (S j).items →
      Calls Tryz.prog f1 #[.int .i64 k, .agg #[.slice ia (S j).items.length ic, .int .i64 (S j).agg.x, .int .i64 (S j).agg.y, .int .i64 (S j).agg.z], .agg #[.bool (Agg.opAt l j).1, .int .i64 (Agg.opAt l j).2]] w' (IvMade true (S (j + 1)) w')) :
    Calls Tryz.prog 94 #[.int .i64 k, .slice a n cap, .func (.func f0) #[] #[], .func (.func f1) #[] #[]] w (IvStates (kb && Agg.opsOk l) (n + 1) S w) := by
  obtain ⟨i0, hi0, hz0, hz1, hz2⟩ := info_parts infoIv
  have hll : l.length = n := h.1
  have hnc : n ≤ cap := h.2.1
  have hcm : cap ≤ 9223372036854775807 := by have := h.2.2.1; unfold maxLen at this; omega
  have H0 := Lib.hid h
  have HLL := Lib.hid hll
  have HC0 := Lib.hid (hstart w)
  have HSTP := Lib.hid hstep
  clear h hll hstart hstep
  obtain ⟨lb, hlb⟩ : ∃ lb, lb = Agg.opsOk l := ⟨_, rfl⟩
  rw [← hlb]
  have HLB := Lib.hid hlb
  clear hlb
  go_enter Tryz.func94, Tryz.ntmps94
  go_wp2_with fail
  refine HC0.out.mono ?_
  rintro e w1 ⟨v0, rfl, h10, hb1⟩
  obtain ⟨ia, ic, rfl, -, -⟩ := id h10.nums
  obtain ⟨W2, hW2⟩ : ∃ W2, W2 = w1.alloc (.cells #[.slice ia (S 0).items.length ic, .int .i64 (S 0).agg.x, .int .i64 (S 0).agg.y, .int .i64 (S 0).agg.z] 27) := ⟨_, rfl⟩
  have hbn : Below w1.heap.size w1 W2 := by rw [hW2]; exact (Below.refl _ _).alloc (Nat.le_refl _) _
  have HX2 := Lib.hid (show Box4 W2 w1.heap.size 27 (.slice ia (S 0).items.length ic) (.int .i64 (S 0).agg.x) (.int .i64 (S 0).agg.y) (.int .i64 (S 0).agg.z) from by rw [hW2]; exact Box4.new w1 _ _ _ _ _)
  have HB2 := Lib.hid (hb1.trans (hbn.mono hb1.size))
  have HV2 := Lib.hid (show OwnR W2 w.heap.size w1.heap.size (.slice ia (S 0).items.length ic) (S 0).items.length (S 0).items from (h10.below hbn))
  have hsv1 : w.heap.size ≤ w1.heap.size := hb1.size
  clear hb1 hbn h10
  go_upto_region 2 with (fail)
  rw [← hW2]
  clear hW2
  obtain ⟨sv, hsv⟩ : ∃ sv, sv = w1.heap.size := ⟨_, rfl⟩
  rw [← hsv] at HX2 HV2 hsv1 ⊢
  clear hsv
  cases kb
  · go_wp2
    go_returns
    exact ⟨_, rfl, (fun h => by simp at h), HB2.out⟩
  · go_wp2_with fail
    refine (opsValid_any a n cap l _ (H0.out.below HB2.out)).mono ?_
    rintro e w3 ⟨rfl, hb3⟩
    rw [← HLB.out]
    have HX3 := Lib.hid (HX2.out.call hb3)
    have HB3 := Lib.hid (HB2.out.trans (hb3.mono HB2.out.size))
    have HV3 := Lib.hid (show OwnR w3 w.heap.size sv (.slice ia (S 0).items.length ic) (S 0).items.length (S 0).items from by have h10 := HV2.out; exact (h10.below hb3))
    clear hb3 HX2 HB2 HV2 HC0
    cases lb
    · go_wp2
      go_returns
      exact ⟨_, rfl, (fun h => by simp at h), HB3.out⟩
    · have hops := HLB.out.symm
      have HSTJ := Lib.hid (HSTP.out (by first | rfl | trivial) hops)
      clear HSTP
      have hn2 : n ≤ 200 := by
        simp only [Agg.opsOk, Bool.and_eq_true, decide_eq_true_eq] at hops
        have := hops.1.1
        have := HLL.out
        omega
      have hlx := HX3.out.lt
      obtain ⟨q0, q1, q2, q3⟩ := HX3.out.cells
      obtain ⟨W4, hW4⟩ : ∃ W4, W4 = w3.alloc (.cells #[.slice ia (S 0).items.length ic, .int .i64 (S 0).agg.x, .int .i64 (S 0).agg.y, .int .i64 (S 0).agg.z] 27) := ⟨_, rfl⟩
      have hbn : Below w3.heap.size w3 W4 := by rw [hW4]; exact (Below.refl _ _).alloc (Nat.le_refl _) _
      have HX4 := Lib.hid (HX3.out.call hbn)
      have HB4 := Lib.hid (HB3.out.trans (hbn.mono HB3.out.size))
      have HS4 := Lib.hid (show IvRow W4 (sv + 1) w.heap.size sv (.slice (some ⟨w3.heap.size, 0, none⟩) 1 1) 1 S ∧ (∃ lo hi, OwnR W4 lo hi (.slice ia (S 0).items.length ic) (S 0).items.length (S 0).items) from by
        have hVV : OwnR W4 w.heap.size sv (.slice ia (S 0).items.length ic) (S 0).items.length (S 0).items := by have h10 := HV3.out; exact (h10.below hbn)
        have hgg : ∀ g, (Value.slice (some ⟨w3.heap.size, 0, none⟩) 1 1).ownBlock = some g → g < w.heap.size ∨ sv ≤ g := fun g hg => by
          simp only [Value.ownBlock, Option.some.injEq] at hg
          exact .inr (by omega)
        refine ⟨⟨fun _ => ivCells (.slice ia (S 0).items.length ic) (S 0), ?_, fun i hi => ?_⟩, w.heap.size, sv, hVV⟩
        · rw [hW4]
          have := own_lit (w := w3) (base := sv + 1) (n := 1) (size := 4) (e := 27) #[.slice ia (S 0).items.length ic, .int .i64 (S 0).agg.x, .int .i64 (S 0).agg.y, .int .i64 (S 0).agg.z] (by omega) (by simp [maxLen]) (by simp)
          simpa [flat, ivCells] using this
        · obtain rfl : i = 0 := by omega
          have h10 := hVV
          exact ⟨_, w.heap.size, sv, rfl, h10, Nat.le_refl _, hgg, .inr (Nat.le_refl _)⟩)
      clear hbn HX3 HB3 HV3 hops
      go_upto_region 5 with (fail)
      rw [← hW4]
      obtain ⟨rv, hrv⟩ : ∃ rv, rv = Value.slice (some ⟨w3.heap.size, 0, none⟩) 1 1 := ⟨_, rfl⟩
      rw [← hrv] at HS4 ⊢
      clear hW4 hrv q0 q1 q2 q3
      go_wp2_with fail
      go_loopw [12, 32] (fun ov i wr => ∃ (j lo hi : Nat) (ia : Option Addr) (ic : Nat), j ≤ n ∧ i = .int .i64 j ∧ Hid (IvRow wr (sv + 1) w.heap.size sv ov (j + 1) S) ∧ Hid (Box4 wr sv 27 (.slice ia (S j).items.length ic) (.int .i64 (S j).agg.x) (.int .i64 (S j).agg.y) (.int .i64 (S j).agg.z)) ∧ Hid (OwnR wr lo hi (.slice ia (S j).items.length ic) (S j).items.length (S j).items) ∧ Hid (Below w.heap.size w wr)) (fun _ i _ => n - (intOf i).toNat)
      case atStart =>
        obtain ⟨hs4, lo4, hi4, hV4⟩ := HS4.out
        exact ⟨0, lo4, hi4, ia, ic, Nat.zero_le _, rfl, Lib.hid hs4, HX4, Lib.hid hV4, HB4⟩
      case round =>
        clear HX4 HB4 HS4
        obtain ⟨j, lo, hi, gia, gic, hj, rfl, ho, hx, hrows, hw⟩ := hrel
        have hwr := hw.out.size
        have hxl := hx.out.lt
        by_cases hlt : j < n
        · rcases H0.out.2.2.2 with h4 | ⟨b, off, rfl, hbl, hcs⟩
          · omega
          · have hc0 := (hcs j hlt).1
            have hd0 := (hcs j hlt).2
            clear hcs
            have h10 := hrows.out
            have r0 : Nums .i64 wr gia (S j).items.length gic (S j).items := by
              obtain ⟨a1, b1, e1, hX, -⟩ := h10.nums
              simp only [Value.slice.injEq, true_and] at e1
              obtain ⟨rfl, rfl⟩ := e1
              exact hX
            have hst := HSTJ.out j hlt
            have hopat : Agg.opAt l j = l[j]?.getD (false, 0) := rfl
            obtain ⟨⟨p, x⟩, hpx⟩ : ∃ o, o = Agg.opAt l j := ⟨_, rfl⟩
            rw [← hopat, ← hpx] at hc0 hd0
            rw [← hpx] at hst
            obtain ⟨S1, hS1⟩ : ∃ S1, S1 = S (j + 1) := ⟨_, rfl⟩
            rw [← hS1] at hst
            obtain ⟨S0, hS0⟩ : ∃ S0, S0 = S j := ⟨_, rfl⟩
            rw [← hS0] at hst r0 hx hrows
            have HST := Lib.hid hst
            have HS1 := Lib.hid hS1
            have hk0 : (0 : Int) ≤ (j : Int) := Int.natCast_nonneg _
            have hkn : (j : Int) < (n : Int) := by omega
            have hck := (hw.out.cell (p := ⟨b, off + j * 2, none⟩) hbl).trans hc0
            have hcl := (hw.out.cell (p := ⟨b, off + j * 2 + 1, none⟩) hbl).trans hd0
            obtain ⟨W5, hW5⟩ : ∃ W5, W5 = wr.alloc (.cells #[.bool p, .int .i64 x] 29) := ⟨_, rfl⟩
            have hbn : Below wr.heap.size wr W5 := by rw [hW5]; exact (Below.refl _ _).alloc (Nat.le_refl _) _
            have hnew : W5.heap[wr.heap.size]? = some (.cells #[.bool p, .int .i64 x] 29 (0, 0)) := by rw [hW5]; exact heap_alloc_new wr _
            have p0 : W5.cell? ⟨wr.heap.size, 0, none⟩ = some (.bool p) := by simp [World.cell?, hnew]
            have p1 : W5.cell? ⟨wr.heap.size, 1, none⟩ = some (.int .i64 x) := by simp [World.cell?, hnew]
            have HX5 := Lib.hid (hx.out.call hbn)
            have HO5 := Lib.hid (ho.out.below hbn)
            have HF5 := Lib.hid (show Nums .i64 W5 gia S0.items.length gic S0.items from (r0.below hbn))
            have HB5 := Lib.hid (hw.out.trans (hbn.mono hwr))
            have hs5 : wr.heap.size ≤ W5.heap.size := hbn.size
            have HLT := Lib.hid (show ∀ g, u12.ownBlock = some g → sv < g ∧ g < W5.heap.size from fun g hg => by
              obtain ⟨C, g1, -⟩ := ho.out
              have := g1.lt g hg
              omega)
            clear hbn hnew hst hopat hpx hc0 hd0 hS0 hS1 r0 h10 hrows
            go_upto_region 8 with (fail)
            rw [← hW5]
            clear hW5
            obtain ⟨q0, q1, q2, q3⟩ := HX5.out.cells
            go_wp2_with fail
            refine (HST.out _ _ _ HF5.out).mono ?_
            rintro e w6 ⟨v0, rfl, h10, hb6⟩
            obtain ⟨nia, nic, rfl, -, -⟩ := id h10.nums
            have HX6 := Lib.hid (HX5.out.call hb6)
            have HO6 := Lib.hid (HO5.out.below hb6)
            have HB6 := Lib.hid (HB5.out.trans (hb6.mono HB5.out.size))
            have hs6 : W5.heap.size ≤ w6.heap.size := hb6.size
            clear hb6 q0 q1 q2 q3 p0 p1 HX5 HO5 HB5 HF5
            obtain ⟨X6, hX6⟩ : ∃ X6, X6 = ((((w6.setCell ⟨sv, 0, none⟩ (.slice nia S1.items.length nic)).setCell ⟨sv, 1, none⟩ (.int .i64 S1.agg.x)).setCell ⟨sv, 2, none⟩ (.int .i64 S1.agg.y)).setCell ⟨sv, 3, none⟩ (.int .i64 S1.agg.z)) := ⟨_, rfl⟩
            have hsz : w6.heap.size ≤ X6.heap.size := by rw [hX6]; simp [World.setCell]
            have hwr5 : sv < W5.heap.size := by omega
            have HX7 := Lib.hid (show Box4 X6 sv 27 (.slice nia S1.items.length nic) (.int .i64 S1.agg.x) (.int .i64 S1.agg.y) (.int .i64 S1.agg.z) from by rw [hX6]; exact ((((HX6.out.set0 _).set1 _).set2 _).set3 _))
            have HO7 := Lib.hid (show IvRow X6 (sv + 1) w.heap.size sv u12 (j + 1) S from by
              have hc : sv < sv + 1 := Nat.lt_succ_self _
              rw [hX6]
              exact ((((HO6.out.set hc).set hc).set hc).set hc))
            have HB7 := Lib.hid (show Below w.heap.size w X6 from by
              rw [hX6]
              exact ((((HB6.out.setCell hsv1 _).setCell hsv1 _).setCell hsv1 _).setCell hsv1 _))
            have HV7 := Lib.hid (show OwnR X6 W5.heap.size w6.heap.size (.slice nia S1.items.length nic) S1.items.length S1.items from by
              have hc : sv < W5.heap.size := hwr5
              rw [hX6]
              exact (((((h10.put hc).put hc).put hc).put hc)))
            clear h10 HO6 HB6
            obtain ⟨q0, q1, q2, q3⟩ := HX6.out.cells
            have q9 := HX6.out.free
            go_upto_region 9 with (fail)
            rw [← hX6]
            clear hX6 q0 q1 q2 q3 q9 HX6
            obtain ⟨C, hown7, hst7⟩ := HO7.out
            have HOWN7 := Lib.hid hown7
            have HST7 := Lib.hid hst7
            clear hown7 hst7 HO7
            have hsz7 : sv < X6.heap.size := by omega
            obtain ⟨q0, q1, q2, q3⟩ := HX7.out.cells
            go_wp2_with (
              at_builtin
              go_must (refine wpList_append_where rfl (.tmp 44) (.tmp 46) 122 rfl (sv + 1) 27 i0 (.agg #[.slice none 0 0, .int .i64 0, .int .i64 0, .int .i64 0]) 4 48 Tryz.underlying122 hi0 hz0 hz1 hz2 rfl (by decide) _ _ _ rfl (HOWN7.out.alloc _) ⟨X6.heap.size, 0, none⟩ 1 1 [.slice nia S1.items.length nic, .int .i64 S1.agg.x, .int .i64 S1.agg.y, .int .i64 S1.agg.z] rfl rfl (Box4.news (Box4.new X6 _ _ _ _ _)) (fun u hu => by simp only [List.mem_cons, List.not_mem_nil, or_false] at hu; rcases hu with rfl | rfl | rfl | rfl <;> rfl) (by unfold maxLen; omega) (by omega) (by simp; omega) ?_)
              intro v9 w9 hown9 hgrow9 hwh9
              have hba : Below X6.heap.size X6 (X6.alloc (.cells #[.slice nia S1.items.length nic, .int .i64 S1.agg.x, .int .i64 S1.agg.y, .int .i64 S1.agg.z] 27)) := (Below.refl _ _).alloc (Nat.le_refl _) _
              have HR9 := Lib.hid (show IvRow w9 (sv + 1) w.heap.size sv v9 (j + 1 + 1) S from by
                have hh := HS1.out
                refine IvRow.more (lo := W5.heap.size) (hi := w6.heap.size) (v0 := .slice nia S1.items.length nic) HST7.out hba ?_ ?_ ?_ (.inl hwr5) hgrow9 ?_ ?_
                · rw [← hh]
                  have h10 := HV7.out
                  exact (h10.below hba)
                · omega
                · exact fun g hg => .inl (HLT.out g hg).2
                · rw [← hh]; exact hown9
                · exact hwh9)
              have HX9 := Lib.hid ((HX7.out.call hba).grown hgrow9 (fun e => by have := (HLT.out _ e).1; omega))
              have HV9 := Lib.hid (show OwnR w9 W5.heap.size w6.heap.size (.slice nia S1.items.length nic) S1.items.length S1.items from by
                have h10 := HV7.out
                exact ((h10.below hba).kept hgrow9 (fun g hg => .inl (HLT.out g hg).2)))
              have HB9 := Lib.hid ((HB7.out.trans (hba.mono HB7.out.size)).grown hgrow9 (by have := hba.size; omega) (fun g hg => by have := (HLT.out g hg).1; omega))
              clear hown9 hgrow9 hwh9 hba)
            go_roundw
            case rel =>
              have hh := HS1.out
              refine ⟨j + 1, W5.heap.size, w6.heap.size, nia, nic, by omega, by go_num, HR9, ?_, ?_, HB9⟩
              · rw [← hh]; exact HX9
              · rw [← hh]; exact HV9
            case measure => simp [intOf]; omega
        · obtain rfl : j = n := by omega
          have hlt' : ¬ (j : Int) < (j : Int) := by omega
          go_wp2
          go_returns
          exact ⟨_, rfl, fun _ => ⟨sv, ho.out.lower (by omega) (Nat.le_refl _)⟩, hw.out⟩
end Go.Proofs.YtmlkdbmhekiniaaGreat

/-
  The program's numbers of the states of windows with an inverse.
-/
namespace Go.Proofs.YtmlkdbmhekiniaaGreat
set_option linter.unusedSimpArgs false
set_option linter.unusedVariables false
open Go.RowKit
set_option maxRecDepth 8000 in
set_option maxHeartbeats 2000000 in
theorem numbersOf_iv (k : Int) (f1 : Nat) (c1 : ∀ args w, Sem.run Tryz.prog (Go.callFunc f1 args) w = .ok (.enter f1 args) w) (S : Nat → Agg.Iv) (V : Nat → Agg.V) (a : Option Addr) (n cap : Nat) (hn : n ≤ 1000) (w : World) (h : IvsAt w a n cap S)
    (hval : ∀ j, j < n → ∀ w' ia ic, Nums .i64 w' ia (S j).items.length ic (S j).items →
      Calls Tryz.prog f1 #[.int .i64 k, .agg #[.slice ia (S j).items.length ic, .int .i64 (S j).agg.x, .int .i64 (S j).agg.y, .int .i64 (S j).agg.z]] w' fun e w2 => e = .returned (.tuple #[.agg #[.int .i64 (V j).x, .int .i64 (V j).y, .int .i64 (V j).z], .bool true]) ∧ Below w'.heap.size w' w2) :
    Calls Tryz.prog 96 #[.int .i64 k, .slice a n cap, .func (.func f1) #[] #[]] w (MadeRow (Agg.numsV k V n) n w) := by
  obtain ⟨i0, hi0, hz0, hz1, hz2⟩ := info_parts infoInt
  have hnc := h.1
  have hcm := h.2.1
  have HN := Lib.hid h
  have HVAL := Lib.hid hval
  clear h hval
  have hsl := Agg.numsV_len k V n
  have hst := fun j => Agg.numsV_step k V n j
  obtain ⟨L, hL⟩ : ∃ L, L = Agg.numsV k V n := ⟨_, rfl⟩
  rw [← hL] at hsl hst ⊢
  have HSL := Lib.hid hsl
  have HST := Lib.hid hst
  clear hsl hst hL
  go_enter Tryz.func96, Tryz.ntmps96
  go_wp2_with (at_make; refine wpList_make_own _ rfl _ _ 23 rfl w.heap.size 3 i0 (.int .i64 0) 1 Tryz.underlying23 hi0 hz0 hz1 .i64 .i64 _ n rfl rfl rfl ?b1 ?b2 ?b3 ?_)
  case b1 => rw [hz2]; omega
  case b2 => unfold maxLen; omega
  case b3 => exact Nat.le_refl _
  intro w1 hown hgrow
  have HO := Lib.hid (show w1.ownsRow w.heap.size 3 1 (.slice (some ⟨w.heap.size, 0, none⟩) 0 n) 0 ((L.take 0).map (Value.int .i64)) from hown)
  have HB := Lib.hid ((Below.refl w.heap.size w).grown hgrow (Nat.le_refl _) (fun k hk => by simp at hk))
  clear hown hgrow
  go_wp2
  go_loopw [7, 17] (fun ov i wr => ∃ j : Nat, j ≤ n ∧ i = .int .i64 j ∧ Hid (wr.ownsRow w.heap.size 3 1 ov j ((L.take j).map (Value.int .i64))) ∧ Hid (Below w.heap.size w wr)) (fun _ i _ => n - (intOf i).toNat)
  case atStart => exact ⟨0, Nat.zero_le _, rfl, HO, HB⟩
  case round =>
    obtain ⟨j, hj, rfl, ho, hw⟩ := hrel
    clear HO HB
    have hwr := hw.out.size
    by_cases hlt : j < n
    · rcases (HN.out.below hw.out).2.2 with h0 | ⟨b, off, rfl, hbw, hcs⟩
      · omega
      · obtain ⟨gia, gic, ⟨q0, q1, q2, q3⟩, r0⟩ := hcs j hlt
        clear hcs
        have hst := HST.out j hlt
        have hvj := HVAL.out j hlt
        obtain ⟨S0, hS0⟩ : ∃ S0, S0 = S j := ⟨_, rfl⟩
        rw [← hS0] at hvj q0 q1 q2 q3 r0
        obtain ⟨⟨vx, vy, vz⟩, hV⟩ : ∃ Y, Y = V j := ⟨_, rfl⟩
        rw [← hV] at hvj hst
        obtain ⟨x, hx⟩ : ∃ x, x = Agg.num k ⟨vx, vy, vz⟩ := ⟨_, rfl⟩
        have hG := fun w => numberOf_any k vx vy vz w
        rw [← hx] at hst hG
        have HF := Lib.hid (show Nums .i64 wr gia S0.items.length gic S0.items from r0)
        have HVJ := Lib.hid hvj
        have HG := Lib.hid hG
        have HS2 := Lib.hid hst
        have hk0 : (0 : Int) ≤ (j : Int) := Int.natCast_nonneg _
        have hkn : (j : Int) < (n : Int) := by omega
        have hlt' : ∀ q, u7.ownBlock = some q → w.heap.size ≤ q := fun q hq => (ho.out.lt q hq).1
        obtain ⟨W5, hW5⟩ : ∃ W5, W5 = wr.alloc (.cells #[.slice gia S0.items.length gic, .int .i64 S0.agg.x, .int .i64 S0.agg.y, .int .i64 S0.agg.z] 27) := ⟨_, rfl⟩
        have hbn : Below wr.heap.size wr W5 := by rw [hW5]; exact (Below.refl _ _).alloc (Nat.le_refl _) _
        have HX5 := Lib.hid (show Box4 W5 wr.heap.size 27 (.slice gia S0.items.length gic) (.int .i64 S0.agg.x) (.int .i64 S0.agg.y) (.int .i64 S0.agg.z) from by rw [hW5]; exact Box4.new wr _ _ _ _ _)
        have HF5 := Lib.hid (show Nums .i64 W5 gia S0.items.length gic S0.items from HF.out.below hbn)
        have HO5 := Lib.hid (ho.out.kept (Below.grownNone hbn none) (Classical.em _))
        have HB5 := Lib.hid (hw.out.trans (hbn.mono hwr))
        clear hbn r0 hvj hG hst hS0 hV hx HF
        go_upto_region 5 with (fail)
        rw [← hW5]
        clear hW5 q0 q1 q2 q3
        obtain ⟨q0, q1, q2, q3⟩ := HX5.out.cells
        go_wp2_with fail
        refine (HVJ.out _ _ _ HF5.out).mono ?_
        rintro e w6 ⟨rfl, hb6⟩
        have HO6 := Lib.hid (HO5.out.kept (Below.grownNone hb6 none) (Classical.em _))
        have HB6 := Lib.hid (HB5.out.trans (hb6.mono HB5.out.size))
        clear hb6 q0 q1 q2 q3 HX5 HO5 HB5 HF5
        obtain ⟨W7, hW7⟩ : ∃ W7, W7 = w6.alloc (.cells #[.int .i64 vx, .int .i64 vy, .int .i64 vz] 25) := ⟨_, rfl⟩
        have hbn : Below w6.heap.size w6 W7 := by rw [hW7]; exact (Below.refl _ _).alloc (Nat.le_refl _) _
        have HX7 := Lib.hid (show Box W7 w6.heap.size 25 vx vy vz from by rw [hW7]; exact Box.new w6 _ _ _ _)
        have HO7 := Lib.hid (HO6.out.kept (Below.grownNone hbn none) (Classical.em _))
        have HB7 := Lib.hid (HB6.out.trans (hbn.mono HB6.out.size))
        clear hbn HO6 HB6
        go_upto_region 6 with (fail)
        rw [← hW7]
        clear hW7
        obtain ⟨q0, q1, q2⟩ := HX7.out.cells
        go_wp2_with fail
        refine (HG.out _).mono ?_
        rintro e w8 ⟨rfl, hb8⟩
        have HO8 := Lib.hid (HO7.out.kept (Below.grownNone hb8 none) (Classical.em _))
        have HB8 := Lib.hid (HB7.out.trans (hb8.mono HB7.out.size))
        have hs8 := HB8.out.size
        clear hb8 HG HO7 HB7 q0 q1 q2 HX7
        go_wp2_with (at_builtin; refine wpList_append_own _ rfl (.tmp 28) (.tmp 32) 23 rfl w.heap.size 3 i0 (.int .i64 0) 1 8 Tryz.underlying23 hi0 hz0 hz1 hz2 rfl (by decide) _ _ _ rfl (HO8.out.alloc _) ⟨w8.heap.size, 0, none⟩ 1 1 [.int .i64 x] rfl rfl (cell_one_new _ _ _) (ints_oneCell .i64 [x]) (by unfold maxLen; omega) (by omega) (by simp; omega) ?_; intro v' w9 hown5 hgrow5 hnil5; have HO9 := Lib.hid hown5; have HB9 := Lib.hid ((HB8.out.alloc HB8.out.size _).grown hgrow5 (by have := HB8.out.size; simp; omega) hlt'); clear hown5 hgrow5 hnil5)
        go_roundw
        case rel =>
          refine ⟨j + 1, by omega, by go_num, Lib.hid ?_, HB9⟩
          rw [HS2.out, List.map_append]
          exact HO9.out
        case measure => simp [intOf]; omega
    · obtain rfl : j = n := by omega
      have ho2 := ho.out
      rw [List.take_of_length_le (by have := HSL.out; omega)] at ho2
      have HO2 := Lib.hid ho2
      clear ho2
      have hlt' : ¬ (j : Int) < (j : Int) := by omega
      go_wp2
      go_returns
      exact ⟨_, rfl, OwnR.made HO2.out hw.out.size, hw.out⟩
end Go.Proofs.YtmlkdbmhekiniaaGreat
