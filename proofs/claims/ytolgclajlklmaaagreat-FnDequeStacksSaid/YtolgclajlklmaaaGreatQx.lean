import Derived.Test.YtolgclajlklmaaaGreatRw
import Derived.Test.YtolgclajlklmaaaGreatMa
import Derived.Deep.AppendSrc
import Derived.Lib.AppendZeros
import Derived.OwnWalk
import Derived.Deep.Cut
import Derived.Deep.DeepMust
/-
  Worlds that are later than one; worlds in which only blocks between two numbers have been written.
-/
namespace Go.Proofs.YtolgclajlklmaaaGreat
set_option linter.unusedSimpArgs false
set_option linter.unusedVariables false
open Go.RowKit
/-- Below the blocks of the world W nothing has changed, and there are no fewer blocks. -/
def Snc (W X : World) : Prop := Below W.heap.size W X ∧ W.heap.size ≤ X.heap.size
theorem Snc.refl (W : World) : Snc W W := ⟨Below.refl _ _, Nat.le_refl _⟩
theorem Snc.call {W X Y : World} (h : Snc W X) (hb : Below X.heap.size X Y) : Snc W Y := ⟨h.1.trans (hb.mono h.2), Nat.le_trans h.2 hb.size⟩
theorem Snc.alloc {W X : World} (h : Snc W X) (o : Obj) : Snc W (X.alloc o) := h.call ((Below.refl _ _).alloc (Nat.le_refl _) _)
theorem Snc.drew {W X : World} (h : Snc W X) : Snc W X.drew := h.call (Below.refl _ _).drew
theorem Snc.cell {W X : World} {b o : Nat} {u : Value} (h : Snc W X) (q : W.cell? ⟨b, o, none⟩ = some u) (hb : b < W.heap.size) : X.cell? ⟨b, o, none⟩ = some u := (h.1.cell (p := ⟨b, o, none⟩) hb).trans q
theorem Snc.set {W X : World} (h : Snc W X) {c : Nat} (hc : W.heap.size ≤ c) (o : Nat) (u : Value) : Snc W (X.setCell ⟨c, o, none⟩ u) :=
  ⟨h.1.setCell hc _, by have := (h.1.setCell (p := ⟨c, o, none⟩) hc u).size; exact this⟩
/-- Only blocks from lo on and below hi may have been written, of those that were there. -/
def Touch (lo hi : Nat) (W X : World) : Prop := X.os = W.os ∧ X.tape = W.tape ∧ X.output = W.output ∧ W.heap.size ≤ X.heap.size ∧ ∀ k, k < W.heap.size → (k < lo ∨ hi ≤ k) → X.heap[k]? = W.heap[k]?
theorem Touch.below {lo hi B : Nat} {w W X : World} (h : Touch lo hi W X) (hb : Below B w W) (hB : B ≤ w.heap.size) (hl : B ≤ lo) : Below B w X :=
  hb.trans ⟨h.1, h.2.1, h.2.2.1, h.2.2.2.1, fun k hk => h.2.2.2.2 k (by have := hb.size; omega) (.inl (by omega))⟩
theorem Touch.of {lo hi : Nat} {W X : World} {row : Option Nat} (h : W.grownBy X row) (hr : ∀ g, row = some g → lo ≤ g ∧ g < hi) : Touch lo hi W X :=
  ⟨h.os, h.tape, h.output, h.size, fun k hk ho => h.block k hk (fun e => by have := hr k e.symm; omega)⟩
theorem Touch.trans {lo hi : Nat} {W X Y : World} (h : Touch lo hi W X) (k : Touch lo hi X Y) : Touch lo hi W Y :=
  ⟨k.1.trans h.1, k.2.1.trans h.2.1, k.2.2.1.trans h.2.2.1, Nat.le_trans h.2.2.2.1 k.2.2.2.1, fun i hi ho => (k.2.2.2.2 i (Nat.lt_of_lt_of_le hi h.2.2.2.1) ho).trans (h.2.2.2.2 i hi ho)⟩
theorem Touch.call {lo hi : Nat} {W X Y : World} (h : Touch lo hi W X) (hb : Below X.heap.size X Y) : Touch lo hi W Y :=
  h.trans ⟨hb.os, hb.tape, hb.output, hb.size, fun k hk _ => hb.block k hk⟩
theorem touch_block {lo hi c : Nat} {W X : World} {b : Obj} (h : W.heap[c]? = some b) (ht : Touch lo hi W X) (hd : c < lo ∨ hi ≤ c) : X.heap[c]? = some b := (ht.2.2.2.2 c (Array.getElem?_eq_some_iff.1 h).1 hd).trans h
theorem Touch.refl (lo hi : Nat) (W : World) : Touch lo hi W W := ⟨rfl, rfl, rfl, Nat.le_refl _, fun _ _ _ => rfl⟩
theorem own_touch {W X : World} {lo hi base e sz n : Nat} {v : Value} {xs : List Value} (h : W.ownsRow base e sz v n xs) (ht : Touch lo hi W X) (hv : ∀ g, v.ownBlock = some g → g < lo ∨ hi ≤ g) : X.ownsRow base e sz v n xs := by
  obtain ⟨h1, h2⟩ := h
  refine ⟨h1, ?_⟩
  rcases h2 with h2 | ⟨g, cap, cur, hvv, hlo, hg, rest⟩
  · exact .inl h2
  · refine .inr ⟨g, cap, cur, hvv, hlo, ?_, rest⟩
    rw [ht.2.2.2.2 g (Array.getElem?_eq_some_iff.1 hg).1 (hv g (by rw [hvv]; rfl))]
    exact hg
theorem OwnR.touch {W X : World} {lo hi lo' hi' n : Nat} {v : Value} {l : List Int} (h : OwnR W lo' hi' v n l) (ht : Touch lo hi W X) (hd : hi' ≤ lo ∨ hi ≤ lo') : OwnR X lo' hi' v n l := by
  obtain ⟨h1, h2, h3, h4⟩ := h
  exact ⟨own_touch h1 ht (fun g hg => by have := h4 g hg; have := (h1.lt g hg).1; omega), h2, Nat.le_trans h3 ht.2.2.2.1, h4⟩
set_option maxHeartbeats 1000000 in
theorem markIntS_big {lo hi n : Nat} {v : Value} {l : List Int} (w : World) (k : Int) (h : OwnR w lo hi v n l) (hk0 : 0 ≤ k) (hk1 : k ≤ 100000000) (hn : n ≤ 1048576) :
    Calls Tryz.prog 24 #[v, .int .i64 k] w fun e w' => e = .returned (.int .i64 (k + n)) ∧ OwnR w' lo hi v n (seq k n) ∧ w.grownBy w' v.ownBlock := by
  have hl : l.length = n := by have := h.1.1; simpa using this
  obtain ⟨h1, h2, h3, h4⟩ := h
  rcases h1.2 with ⟨rfl, rfl⟩ | ⟨g, cap, cur, rfl, hlo, hg, hnc, hcm, -, -⟩
  · go_enter Tryz.func24, Tryz.ntmps24
    go_wp2
    go_loopw [1, 5] (fun kv i wr => kv = .int .i64 k ∧ i = .int .i64 0 ∧ wr = w) (fun _ i _ => 0)
    case atStart => exact ⟨rfl, rfl, rfl⟩
    case round =>
      obtain ⟨rfl, rfl, rfl⟩ := hrel
      go_wp2
      go_returns
      exact ⟨by simp, ⟨⟨by simp [seq], .inl ⟨rfl, rfl⟩⟩, h2, h3, h4⟩, ⟨rfl, rfl, rfl, Nat.le_refl _, fun _ _ _ => rfl⟩⟩
  · unfold maxLen at hcm
    have H1 := Lib.hid h1; clear h1 hg
    have HL := Lib.hid hl; clear hl
    have hgw : g < w.heap.size := by have := h4 g rfl; omega
    have HB := Lib.hid (show w.grownBy w (some g) from ⟨rfl, rfl, rfl, Nat.le_refl _, fun _ _ _ => rfl⟩)
    have H1' := Lib.hid (show w.ownsRow lo 3 1 (.slice (some ⟨g, 0, none⟩) n cap) n ((marked k l 0).map (Value.int .i64)) by rw [marked_zero]; exact H1.out)
    have H4 := Lib.hid h4; clear h4
    clear H1
    go_enter Tryz.func24, Tryz.ntmps24
    go_wp2
    go_loopw [1, 5] (fun kv i wr => ∃ j : Nat, j ≤ n ∧ i = .int .i64 j ∧ kv = .int .i64 (k + j) ∧ Hid (wr.ownsRow lo 3 1 (.slice (some ⟨g, 0, none⟩) n cap) n ((marked k l j).map (Value.int .i64))) ∧ Hid (w.grownBy wr (some g))) (fun _ i _ => n - (intOf i).toNat)
    case atStart => exact ⟨0, Nat.zero_le _, rfl, by simp, H1', HB⟩
    case round =>
      obtain ⟨j, hj, rfl, rfl, HR, HG⟩ := hrel
      clear H1' HB
      by_cases hlt : j < n
      · have hst := marked_set k l j (by have := HL.out; omega)
        have HST := Lib.hid hst; clear hst
        have hfr := HR.out.frozenAt j
        have hcd : ∃ y, wr.cell? ⟨g, j, none⟩ = some y := by
          have hh := HR.out.cellAt j (by omega)
          have hlen : j < ((marked k l j).map (Value.int .i64)).length := by rw [HR.out.1]; omega
          exact ⟨_, hh.trans (List.getElem?_eq_getElem hlen)⟩
        obtain ⟨y, hcd⟩ := hcd
        have hk0' : (0 : Int) ≤ (j : Int) := Int.natCast_nonneg _
        have hkn : (j : Int) < (n : Int) := by omega
        go_wp2
        go_roundw
        case rel =>
          refine ⟨j + 1, by omega, by go_num, by go_num, ?_, ?_⟩
          · have hs := HR.out.stored j (Value.int .i64 (k + j))
            rw [← List.map_set, HST.out] at hs
            exact hs.1
          · exact ⟨HG.out.os, HG.out.tape, HG.out.output, by have := HG.out.size; simpa [World.setCell] using this, fun i hi hne => (Below.heap_setCell _ _ _ _ (by show i ≠ g; intro e; exact hne (by rw [e]))).trans (HG.out.block i hi hne)⟩
        case measure => simp [intOf]; omega
      · obtain rfl : j = n := by omega
        go_wp2
        go_returns
        refine ⟨rfl, ⟨?_, h2, Nat.le_trans h3 HG.out.size, H4.out⟩, HG.out⟩
        have := HR.out
        rw [← HL.out, marked_all, HL.out] at this
        exact this

end Go.Proofs.YtolgclajlklmaaaGreat

/-
  Variables of four and of five cells; windows with an inverse, and deques, whose rows are the call's own.
-/
namespace Go.Proofs.YtolgclajlklmaaaGreat
set_option linter.unusedSimpArgs false
set_option linter.unusedVariables false
open Go.RowKit
/-- A variable of 4 cells: its block. -/
def Box4 (w : World) (c : Nat) (T : TypeId) (v0 v1 v2 v3 : Value) : Prop := w.heap[c]? = some (.cells #[v0, v1, v2, v3] T (0, 0))
section
variable {w w' : World} {c d : Nat} {T : TypeId} {v0 v1 v2 v3 : Value}
theorem Box4.new (w : World) (T : TypeId) (v0 v1 v2 v3 : Value) : Box4 (w.alloc (.cells #[v0, v1, v2, v3] T)) w.heap.size T v0 v1 v2 v3 := heap_alloc_new w _
theorem Box4.new1 {Y : World} {g : Nat} (T : TypeId) (v0 v1 v2 v3 : Value) (hg : g = Y.heap.size) : Box4 (Y.alloc (.cells #[v0, v1, v2, v3] T)) g T v0 v1 v2 v3 := by
  subst hg; exact Box4.new Y T v0 v1 v2 v3
theorem Box4.lt (h : Box4 w c T v0 v1 v2 v3) : c < w.heap.size := (Array.getElem?_eq_some_iff.1 h).1
theorem Box4.below {b : Nat} (h : Box4 w c T v0 v1 v2 v3) (hb : Below b w w') (hc : c < b) : Box4 w' c T v0 v1 v2 v3 := (hb.block c hc).trans h
theorem Box4.call (h : Box4 w c T v0 v1 v2 v3) (hb : Below w.heap.size w w') : Box4 w' c T v0 v1 v2 v3 := h.below hb h.lt
theorem Box4.callD (h : Box4 w c T v0 v1 v2 v3) (hb : Below w.drew.heap.size w.drew w') : Box4 w' c T v0 v1 v2 v3 := Box4.call (w := w.drew) h hb
theorem Box4.alloc (h : Box4 w c T v0 v1 v2 v3) (o : Obj) : Box4 (w.alloc o) c T v0 v1 v2 v3 := h.call ((Below.refl _ _).alloc (Nat.le_refl _) _)
theorem Box4.grown {row : Option Nat} (h : Box4 w c T v0 v1 v2 v3) (hg : w.grownBy w' row) (hr : row ≠ some c) : Box4 w' c T v0 v1 v2 v3 := (hg.block c h.lt (fun e => hr e.symm)).trans h
theorem Box4.cells (h : Box4 w c T v0 v1 v2 v3) : w.cell? ⟨c, 0, none⟩ = some v0 ∧ w.cell? ⟨c, 1, none⟩ = some v1 ∧ w.cell? ⟨c, 2, none⟩ = some v2 ∧ w.cell? ⟨c, 3, none⟩ = some v3 := by
  unfold Box4 at h
  refine ⟨?_, ?_, ?_, ?_⟩ <;> simp [World.cell?, h]
theorem Box4.free (h : Box4 w c T v0 v1 v2 v3) (o : Nat) : w.frozen? ⟨c, o, none⟩ = false := by
  unfold Box4 at h
  simp [World.frozen?, h]
theorem Box4.set0 (h : Box4 w c T v0 v1 v2 v3) (u : Value) : Box4 (w.setCell ⟨c, 0, none⟩ u) c T u v1 v2 v3 := by unfold Box4 at *; simp [World.setCell, Array.getElem?_modify, h]
theorem Box4.set1 (h : Box4 w c T v0 v1 v2 v3) (u : Value) : Box4 (w.setCell ⟨c, 1, none⟩ u) c T v0 u v2 v3 := by unfold Box4 at *; simp [World.setCell, Array.getElem?_modify, h]
theorem Box4.set2 (h : Box4 w c T v0 v1 v2 v3) (u : Value) : Box4 (w.setCell ⟨c, 2, none⟩ u) c T v0 v1 u v3 := by unfold Box4 at *; simp [World.setCell, Array.getElem?_modify, h]
theorem Box4.set3 (h : Box4 w c T v0 v1 v2 v3) (u : Value) : Box4 (w.setCell ⟨c, 3, none⟩ u) c T v0 v1 v2 u := by unfold Box4 at *; simp [World.setCell, Array.getElem?_modify, h]
theorem Box4.other (h : Box4 w c T v0 v1 v2 v3) (hd : c ≠ d) (o : Nat) (u : Value) : Box4 (w.setCell ⟨d, o, none⟩ u) c T v0 v1 v2 v3 := by
  unfold Box4 at *
  rw [Below.heap_setCell _ _ _ _ (by simpa using hd)]
  exact h
end
/-- A variable of 5 cells: its block. -/
def Box5 (w : World) (c : Nat) (T : TypeId) (v0 v1 v2 v3 v4 : Value) : Prop := w.heap[c]? = some (.cells #[v0, v1, v2, v3, v4] T (0, 0))
section
variable {w w' : World} {c d : Nat} {T : TypeId} {v0 v1 v2 v3 v4 : Value}
theorem Box5.new (w : World) (T : TypeId) (v0 v1 v2 v3 v4 : Value) : Box5 (w.alloc (.cells #[v0, v1, v2, v3, v4] T)) w.heap.size T v0 v1 v2 v3 v4 := heap_alloc_new w _
theorem Box5.new1 {Y : World} {g : Nat} (T : TypeId) (v0 v1 v2 v3 v4 : Value) (hg : g = Y.heap.size) : Box5 (Y.alloc (.cells #[v0, v1, v2, v3, v4] T)) g T v0 v1 v2 v3 v4 := by
  subst hg; exact Box5.new Y T v0 v1 v2 v3 v4
theorem Box5.lt (h : Box5 w c T v0 v1 v2 v3 v4) : c < w.heap.size := (Array.getElem?_eq_some_iff.1 h).1
theorem Box5.below {b : Nat} (h : Box5 w c T v0 v1 v2 v3 v4) (hb : Below b w w') (hc : c < b) : Box5 w' c T v0 v1 v2 v3 v4 := (hb.block c hc).trans h
theorem Box5.call (h : Box5 w c T v0 v1 v2 v3 v4) (hb : Below w.heap.size w w') : Box5 w' c T v0 v1 v2 v3 v4 := h.below hb h.lt
theorem Box5.callD (h : Box5 w c T v0 v1 v2 v3 v4) (hb : Below w.drew.heap.size w.drew w') : Box5 w' c T v0 v1 v2 v3 v4 := Box5.call (w := w.drew) h hb
theorem Box5.alloc (h : Box5 w c T v0 v1 v2 v3 v4) (o : Obj) : Box5 (w.alloc o) c T v0 v1 v2 v3 v4 := h.call ((Below.refl _ _).alloc (Nat.le_refl _) _)
theorem Box5.grown {row : Option Nat} (h : Box5 w c T v0 v1 v2 v3 v4) (hg : w.grownBy w' row) (hr : row ≠ some c) : Box5 w' c T v0 v1 v2 v3 v4 := (hg.block c h.lt (fun e => hr e.symm)).trans h
theorem Box5.cells (h : Box5 w c T v0 v1 v2 v3 v4) : w.cell? ⟨c, 0, none⟩ = some v0 ∧ w.cell? ⟨c, 1, none⟩ = some v1 ∧ w.cell? ⟨c, 2, none⟩ = some v2 ∧ w.cell? ⟨c, 3, none⟩ = some v3 ∧ w.cell? ⟨c, 4, none⟩ = some v4 := by
  unfold Box5 at h
  refine ⟨?_, ?_, ?_, ?_, ?_⟩ <;> simp [World.cell?, h]
theorem Box5.free (h : Box5 w c T v0 v1 v2 v3 v4) (o : Nat) : w.frozen? ⟨c, o, none⟩ = false := by
  unfold Box5 at h
  simp [World.frozen?, h]
theorem Box5.set0 (h : Box5 w c T v0 v1 v2 v3 v4) (u : Value) : Box5 (w.setCell ⟨c, 0, none⟩ u) c T u v1 v2 v3 v4 := by unfold Box5 at *; simp [World.setCell, Array.getElem?_modify, h]
theorem Box5.set1 (h : Box5 w c T v0 v1 v2 v3 v4) (u : Value) : Box5 (w.setCell ⟨c, 1, none⟩ u) c T v0 u v2 v3 v4 := by unfold Box5 at *; simp [World.setCell, Array.getElem?_modify, h]
theorem Box5.set2 (h : Box5 w c T v0 v1 v2 v3 v4) (u : Value) : Box5 (w.setCell ⟨c, 2, none⟩ u) c T v0 v1 u v3 v4 := by unfold Box5 at *; simp [World.setCell, Array.getElem?_modify, h]
theorem Box5.set3 (h : Box5 w c T v0 v1 v2 v3 v4) (u : Value) : Box5 (w.setCell ⟨c, 3, none⟩ u) c T v0 v1 v2 u v4 := by unfold Box5 at *; simp [World.setCell, Array.getElem?_modify, h]
theorem Box5.set4 (h : Box5 w c T v0 v1 v2 v3 v4) (u : Value) : Box5 (w.setCell ⟨c, 4, none⟩ u) c T v0 v1 v2 v3 u := by unfold Box5 at *; simp [World.setCell, Array.getElem?_modify, h]
theorem Box5.other (h : Box5 w c T v0 v1 v2 v3 v4) (hd : c ≠ d) (o : Nat) (u : Value) : Box5 (w.setCell ⟨d, o, none⟩ u) c T v0 v1 v2 v3 v4 := by
  unfold Box5 at *
  rw [Below.heap_setCell _ _ _ _ (by simpa using hd)]
  exact h
end
/-- A window with an inverse whose row is the call's own. -/
def IvOwn (w : World) (lo hi : Nat) (v : Value) (s : Agg.Iv) : Prop :=
  ∃ iv, v = .agg #[iv, .int .i64 s.agg.x, .int .i64 s.agg.y, .int .i64 s.agg.z] ∧ OwnR w lo hi iv s.items.length s.items
theorem IvOwn.kept {w w' : World} {lo hi : Nat} {v : Value} {s : Agg.Iv} {row : Option Nat} (h : IvOwn w lo hi v s) (hg : w.grownBy w' row) (hr : ∀ j, row = some j → j < lo ∨ hi ≤ j) : IvOwn w' lo hi v s := by
  obtain ⟨iv, hv, h2⟩ := h
  exact ⟨iv, hv, h2.kept hg hr⟩
theorem IvOwn.below {w w' : World} {lo hi : Nat} {v : Value} {s : Agg.Iv} (h : IvOwn w lo hi v s) (hb : Below w.heap.size w w') : IvOwn w' lo hi v s :=
  h.kept (row := none) (Below.grownNone hb _) (fun j e => by cases e)
theorem IvOwn.read {w : World} {lo hi : Nat} {v : Value} {s : Agg.Iv} (h : IvOwn w lo hi v s) : ∃ ia ic, v = .agg #[.slice ia s.items.length ic, .int .i64 s.agg.x, .int .i64 s.agg.y, .int .i64 s.agg.z] ∧ Nums .i64 w ia s.items.length ic s.items := by
  obtain ⟨iv, rfl, h2⟩ := h
  obtain ⟨ia, ic, rfl, hI, -⟩ := h2.nums
  exact ⟨ia, ic, rfl, hI⟩
end Go.Proofs.YtolgclajlklmaaaGreat

/-
  Rows of numbers of the call's own that may begin inside their block: read, marked, held.
-/
namespace Go.Proofs.YtolgclajlklmaaaGreat
set_option linter.unusedSimpArgs false
set_option linter.unusedVariables false
open Go.RowKit
/-- Numbers in the cells of a block, from one on. -/
def CellsS (w : World) (g off n : Nat) (l : List Int) : Prop :=
  ∃ cur, w.heap[g]? = some (.cells cur 3 (0, 0)) ∧ off + n ≤ cur.size ∧ ∀ i, i < n → cur[off + i]? = some (.int .i64 (l[i]?.getD 0))
theorem CellsS.cell {w : World} {g off n : Nat} {l : List Int} (h : CellsS w g off n l) {i : Nat} (hi : i < n) : w.cell? ⟨g, off + i, none⟩ = some (.int .i64 (l[i]?.getD 0)) := by
  obtain ⟨cur, hg, hn, hc⟩ := h
  simpa [World.cell?, hg] using hc i hi
theorem CellsS.free {w : World} {g off n : Nat} {l : List Int} (h : CellsS w g off n l) (o : Nat) : w.frozen? ⟨g, o, none⟩ = false := by
  obtain ⟨cur, hg, hn, hc⟩ := h
  simp [World.frozen?, hg]
theorem CellsS.lt {w : World} {g off n : Nat} {l : List Int} (h : CellsS w g off n l) : g < w.heap.size := by
  obtain ⟨cur, hg, -⟩ := h
  exact (Array.getElem?_eq_some_iff.1 hg).1
theorem CellsS.set {w : World} {g off n : Nat} {l : List Int} (h : CellsS w g off n l) (hl : l.length = n) {j : Nat} (hj : j < n) (x : Int) : CellsS (w.setCell ⟨g, off + j, none⟩ (.int .i64 x)) g off n (l.set j x) := by
  obtain ⟨cur, hg, hn, hc⟩ := h
  refine ⟨cur.setIfInBounds (off + j) (.int .i64 x), ?_, by simpa using hn, fun i hi => ?_⟩
  · simp [World.setCell, Array.getElem?_modify, hg]
  · rw [Array.getElem?_setIfInBounds]
    by_cases e : j = i
    · subst e
      rw [if_pos rfl, if_pos (by omega), List.getElem?_set_self (by omega)]
      rfl
    · rw [if_neg (by omega), List.getElem?_set_ne e]
      exact hc i hi
theorem CellsS.grown {w w' : World} {g off n : Nat} {l : List Int} {row : Option Nat} (h : CellsS w g off n l) (hg : w.grownBy w' row) (hr : row ≠ some g) : CellsS w' g off n l := by
  obtain ⟨cur, hg0, hn, hc⟩ := h
  exact ⟨cur, (hg.block g (Array.getElem?_eq_some_iff.1 hg0).1 (fun e => hr e.symm)).trans hg0, hn, hc⟩
/-- A row of numbers of one's own: nothing, or cells of a block between. -/
def OwnS (w : World) (lo hi : Nat) (v : Value) (n : Nat) (l : List Int) : Prop :=
  l.length = n ∧ lo ≤ hi ∧ hi ≤ w.heap.size ∧ ((v = .slice none 0 0 ∧ n = 0) ∨ ∃ g off cap, v = .slice (some ⟨g, off, none⟩) n cap ∧ lo ≤ g ∧ g < hi ∧ n ≤ cap ∧ cap ≤ maxLen ∧ CellsS w g off n l)
theorem OwnR.s {w : World} {lo hi n : Nat} {v : Value} {l : List Int} (h : OwnR w lo hi v n l) : OwnS w lo hi v n l := by
  have hl : l.length = n := by have := h.1.1; simpa using this
  obtain ⟨h1, h2, h3, h4⟩ := h
  refine ⟨hl, h2, h3, ?_⟩
  have hrow := h1
  rcases h1.2 with h1 | ⟨g, cap, cur, rfl, hlo, hg, hn, hm, hs, ht⟩
  · exact .inl h1
  · refine .inr ⟨g, 0, cap, rfl, hlo, h4 g rfl, hn, hm, cur, hg, by omega, fun i hi => ?_⟩
    have hc := hrow.cellAt i (by omega)
    simp only [World.cell?, hg] at hc
    rw [Nat.zero_add]
    have e : cur[i]? = (l.map (Value.int .i64))[i]? := by simpa using hc
    rw [e, List.getElem?_map, List.getElem?_eq_getElem (by omega)]
    rfl
theorem OwnS.kept {w w' : World} {lo hi n : Nat} {v : Value} {l : List Int} {row : Option Nat} (h : OwnS w lo hi v n l) (hg : w.grownBy w' row) (hr : ∀ j, row = some j → (j < lo ∨ hi ≤ j) ∨ v.ownBlock ≠ some j) : OwnS w' lo hi v n l := by
  obtain ⟨h1, h2, h3, h4⟩ := h
  refine ⟨h1, h2, Nat.le_trans h3 hg.size, ?_⟩
  rcases h4 with h4 | ⟨g, off, cap, rfl, k1, k2, k3, k4, k5⟩
  · exact .inl h4
  · refine .inr ⟨g, off, cap, rfl, k1, k2, k3, k4, k5.grown hg (fun e => ?_)⟩
    rcases hr g e with h | h
    · omega
    · exact h rfl
theorem OwnS.below {w w' : World} {lo hi n : Nat} {v : Value} {l : List Int} (h : OwnS w lo hi v n l) (hb : Below w.heap.size w w') : OwnS w' lo hi v n l :=
  h.kept (row := none) (Below.grownNone hb _) (fun j e => by cases e)
theorem OwnS.wide {w : World} {lo hi lo' hi' n : Nat} {v : Value} {l : List Int} (h : OwnS w lo hi v n l) (h1 : lo' ≤ lo) (h2 : hi ≤ hi') (h3 : hi' ≤ w.heap.size) : OwnS w lo' hi' v n l := by
  obtain ⟨g1, g2, g3, g4⟩ := h
  refine ⟨g1, by omega, h3, ?_⟩
  rcases g4 with g4 | ⟨g, off, cap, rfl, k1, k2, k3, k4, k5⟩
  · exact .inl g4
  · exact .inr ⟨g, off, cap, rfl, by omega, by omega, k3, k4, k5⟩
theorem OwnS.nums {w : World} {lo hi n : Nat} {v : Value} {l : List Int} (h : OwnS w lo hi v n l) : ∃ a cap, v = .slice a n cap ∧ Nums .i64 w a n cap l := by
  obtain ⟨h1, h2, h3, h4⟩ := h
  rcases h4 with ⟨rfl, h0⟩ | ⟨g, off, cap, rfl, k1, k2, k3, k4, k5⟩
  · subst h0; exact ⟨none, 0, rfl, h1, Nat.le_refl _, by simp [maxLen], .inl rfl⟩
  · exact ⟨_, cap, rfl, h1, k3, k4, .inr ⟨g, off, rfl, k5.lt, fun i hi => k5.cell hi⟩⟩
theorem OwnS.nil (w : World) : OwnS w w.heap.size w.heap.size (.slice none 0 0) 0 [] := ⟨rfl, Nat.le_refl _, Nat.le_refl _, .inl ⟨rfl, rfl⟩⟩
/-- The row without its first number. -/
theorem OwnS.tail {w : World} {lo hi n cap : Nat} {a : Addr} {l : List Int} (h : OwnS w lo hi (.slice (some a) (n + 1) cap) (n + 1) l) : OwnS w lo hi (.slice (some (a.add 1)) n (cap - 1)) n l.tail := by
  obtain ⟨h1, h2, h3, h4⟩ := h
  refine ⟨by simp [h1], h2, h3, ?_⟩
  rcases h4 with ⟨h4, -⟩ | ⟨g, off, cap', e, k1, k2, k3, k4, cur, hg, hn, hc⟩
  · cases h4
  · simp only [Value.slice.injEq, Option.some.injEq, true_and] at e
    obtain ⟨rfl, rfl⟩ := e
    refine .inr ⟨g, off + 1, cap - 1, by rw [Addr.add_lit], k1, k2, by omega, by omega, cur, hg, by omega, fun i hi => ?_⟩
    rw [show off + 1 + i = off + (i + 1) by omega, hc (i + 1) (by omega)]
    simp
set_option maxHeartbeats 1000000 in
theorem markIntS_s {lo hi n : Nat} {v : Value} {l : List Int} (w : World) (k : Int) (h : OwnS w lo hi v n l) (hk0 : 0 ≤ k) (hk1 : k ≤ 100000000) (hn : n ≤ 1048576) :
    Calls Tryz.prog 24 #[v, .int .i64 k] w fun e w' => e = .returned (.int .i64 (k + n)) ∧ OwnS w' lo hi v n (seq k n) ∧ w.grownBy w' v.ownBlock := by
  obtain ⟨hl, h2, h3, h4⟩ := h
  rcases h4 with ⟨rfl, rfl⟩ | ⟨g, off, cap, rfl, hlo, hg, hnc, hcm, hc⟩
  · go_enter Tryz.func24, Tryz.ntmps24
    go_wp2
    go_loopw [1, 5] (fun kv i wr => kv = .int .i64 k ∧ i = .int .i64 0 ∧ wr = w) (fun _ i _ => 0)
    case atStart => exact ⟨rfl, rfl, rfl⟩
    case round =>
      obtain ⟨rfl, rfl, rfl⟩ := hrel
      go_wp2
      go_returns
      exact ⟨by simp, ⟨rfl, h2, h3, .inl ⟨rfl, rfl⟩⟩, ⟨rfl, rfl, rfl, Nat.le_refl _, fun _ _ _ => rfl⟩⟩
  · have hcm' := hcm
    unfold maxLen at hcm
    have HL := Lib.hid hl; clear hl
    have HB := Lib.hid (show w.grownBy w (some g) from ⟨rfl, rfl, rfl, Nat.le_refl _, fun _ _ _ => rfl⟩)
    have H1' := Lib.hid (show CellsS w g off n (marked k l 0) by rw [marked_zero]; exact hc)
    have H4 := Lib.hid (show lo ≤ g ∧ g < hi ∧ n ≤ cap ∧ cap ≤ maxLen from ⟨hlo, hg, hnc, hcm'⟩)
    clear hc hcm' hlo hg
    go_enter Tryz.func24, Tryz.ntmps24
    go_wp2
    go_loopw [1, 5] (fun kv i wr => ∃ j : Nat, j ≤ n ∧ i = .int .i64 j ∧ kv = .int .i64 (k + j) ∧ Hid (CellsS wr g off n (marked k l j)) ∧ Hid (w.grownBy wr (some g))) (fun _ i _ => n - (intOf i).toNat)
    case atStart => exact ⟨0, Nat.zero_le _, rfl, by simp, H1', HB⟩
    case round =>
      obtain ⟨j, hj, rfl, rfl, HR, HG⟩ := hrel
      clear H1' HB
      by_cases hlt : j < n
      · have hst := marked_set k l j (by have := HL.out; omega)
        have HST := Lib.hid hst; clear hst
        have hml : (marked k l j).length = n := by have := HL.out; simp [marked, seq_length]; omega
        have hfr := HR.out.free (off + j)
        have hcd := HR.out.cell hlt
        have hs := HR.out.set hml hlt (k + (j : Int))
        rw [HST.out] at hs
        have HS := Lib.hid hs
        clear hs hml
        have hk0' : (0 : Int) ≤ (j : Int) := Int.natCast_nonneg _
        have hkn : (j : Int) < (n : Int) := by omega
        go_wp2
        go_roundw
        case rel =>
          refine ⟨j + 1, by omega, by go_num, by go_num, HS, ?_⟩
          exact ⟨HG.out.os, HG.out.tape, HG.out.output, by have := HG.out.size; simpa [World.setCell] using this, fun i hi hne => (Below.heap_setCell _ _ _ _ (by show i ≠ g; intro e; exact hne (by rw [e]))).trans (HG.out.block i hi hne)⟩
        case measure => simp [intOf]; omega
      · obtain rfl : j = n := by omega
        go_wp2
        go_returns
        obtain ⟨k1, k2, k3, k4⟩ := H4.out
        refine ⟨rfl, ⟨seq_length _ _, h2, Nat.le_trans h3 HG.out.size, .inr ⟨g, off, cap, rfl, k1, k2, k3, k4, ?_⟩⟩, HG.out⟩
        have := HR.out
        rw [← HL.out, marked_all, HL.out] at this
        exact this
/-- A deque whose rows are the call's own. -/
def DqOwn (w : World) (lo hi : Nat) (v : Value) (s : Agg.Dq) : Prop :=
  ∃ iv pv, v = .agg #[iv, pv, .int .i64 s.first, .int .i64 s.next, .int .i64 s.drops] ∧ OwnS w lo hi iv s.items.length s.items ∧ OwnS w lo hi pv s.places.length s.places ∧ (iv.ownBlock = none ∨ iv.ownBlock ≠ pv.ownBlock)
theorem DqOwn.kept {w w' : World} {lo hi : Nat} {v : Value} {s : Agg.Dq} {row : Option Nat} (h : DqOwn w lo hi v s) (hg : w.grownBy w' row) (hr : ∀ j, row = some j → j < lo ∨ hi ≤ j) : DqOwn w' lo hi v s := by
  obtain ⟨iv, pv, hv, h1, h2, h3⟩ := h
  exact ⟨iv, pv, hv, h1.kept hg (fun j e => .inl (hr j e)), h2.kept hg (fun j e => .inl (hr j e)), h3⟩
theorem DqOwn.below {w w' : World} {lo hi : Nat} {v : Value} {s : Agg.Dq} (h : DqOwn w lo hi v s) (hb : Below w.heap.size w w') : DqOwn w' lo hi v s :=
  h.kept (row := none) (Below.grownNone hb _) (fun j e => by cases e)
theorem DqOwn.wide {w : World} {lo hi lo' hi' : Nat} {v : Value} {s : Agg.Dq} (h : DqOwn w lo hi v s) (h1 : lo' ≤ lo) (h2 : hi ≤ hi') (h3 : hi' ≤ w.heap.size) : DqOwn w lo' hi' v s := by
  obtain ⟨iv, pv, hv, g1, g2, g3⟩ := h
  exact ⟨iv, pv, hv, g1.wide h1 h2 h3, g2.wide h1 h2 h3, g3⟩
theorem DqOwn.read {w : World} {lo hi : Nat} {v : Value} {s : Agg.Dq} (h : DqOwn w lo hi v s) : ∃ ia ic pa pc, v = .agg #[.slice ia s.items.length ic, .slice pa s.places.length pc, .int .i64 s.first, .int .i64 s.next, .int .i64 s.drops] ∧ Nums .i64 w ia s.items.length ic s.items ∧ Nums .i64 w pa s.places.length pc s.places := by
  obtain ⟨iv, pv, rfl, h1, h2, -⟩ := h
  obtain ⟨ia, ic, rfl, hI⟩ := h1.nums
  obtain ⟨pa, pc, rfl, hP⟩ := h2.nums
  exact ⟨ia, ic, pa, pc, rfl, hI, hP⟩
end Go.Proofs.YtolgclajlklmaaaGreat

/-
  Windows with an inverse as the exact laws take, copy, compare, mark and hold them; an answer in a variable of its own.
-/
namespace Go.Proofs.YtolgclajlklmaaaGreat
set_option linter.unusedSimpArgs false
set_option linter.unusedVariables false
open Go.RowKit
theorem e6_slice {w : World} {base e size n : Nat} {v : Value} {xs : List Value} (h : w.ownsRow base e size v n xs) : ∃ a c, v = .slice a n c := by
  rcases h.2 with ⟨rfl, rfl⟩ | ⟨g, cap, cur, rfl, -⟩
  · exact ⟨none, 0, rfl⟩
  · exact ⟨_, cap, rfl⟩
theorem e6_low {w : World} {base e size n d o : Nat} {v u : Value} {xs : List Value} (h : w.ownsRow base e size v n xs) (hd : d < base) : (w.setCell ⟨d, o, none⟩ u).ownsRow base e size v n xs := ownsRow_setCell_below h hd u
theorem e6_size4 {wr : World} {c : Nat} (u0 u1 u2 u3 : Value) : ((((wr.setCell ⟨c, 0, none⟩ u0).setCell ⟨c, 1, none⟩ u1).setCell ⟨c, 2, none⟩ u2).setCell ⟨c, 3, none⟩ u3).heap.size = wr.heap.size := by simp [World.setCell]
theorem e6_below4 {w wr : World} {c d : Nat} (h : Below d w wr) (hd : d ≤ c) (u0 u1 u2 u3 : Value) :
    Below d w ((((wr.setCell ⟨c, 0, none⟩ u0).setCell ⟨c, 1, none⟩ u1).setCell ⟨c, 2, none⟩ u2).setCell ⟨c, 3, none⟩ u3) := (((h.setCell hd u0).setCell hd u1).setCell hd u2).setCell hd u3
theorem OwnR.set1 {w : World} {lo hi n d o : Nat} {v u : Value} {l : List Int} (h : OwnR w lo hi v n l) (hd : d < lo ∨ hi ≤ d) : OwnR (w.setCell ⟨d, o, none⟩ u) lo hi v n l :=
  h.kept (row := some d) ⟨rfl, rfl, rfl, by simp [World.setCell], fun k hk hne => Below.heap_setCell _ _ _ _ (fun e => hne (by rw [e]))⟩ (fun j e => by cases e; exact hd)
theorem eqValue_6 (x y z : Int) (w : World) :
    Calls Tryz.prog 64 #[.agg #[.int .i64 x, .int .i64 y, .int .i64 z], .agg #[.int .i64 x, .int .i64 y, .int .i64 z]] w fun e w' => e = .returned (.bool true) ∧ Below w.heap.size w w' := by
  go_enter Tryz.func64, Tryz.ntmps64
  go_wp2
  go_returns
  exact ⟨rfl, (by first | (go_grown; done) | (refine below_drewN ?_ _; go_grown; done) | (refine (below_drewN _ ?_); go_grown; done))⟩
/-- A window with an inverse is made anew. -/
def MadeIv (s : Agg.Iv) (w : World) (e : Ending) (w' : World) : Prop := ∃ v, e = .returned v ∧ IvOwn w' w.heap.size w'.heap.size v s ∧ Below w.heap.size w w'
theorem IvOwn.touch {W X : World} {lo hi lo' hi' : Nat} {v : Value} {s : Agg.Iv} (h : IvOwn W lo' hi' v s) (ht : Touch lo hi W X) (hd : hi' ≤ lo ∨ hi ≤ lo') : IvOwn X lo' hi' v s := by
  obtain ⟨iv, hv, h2⟩ := h
  exact ⟨iv, hv, h2.touch ht hd⟩
def markIv (k : Int) (s : Agg.Iv) : Agg.Iv := ⟨seq k s.items.length, s.agg⟩
def markNI (s : Agg.Iv) : Int := (s.items.length : Int)
end Go.Proofs.YtolgclajlklmaaaGreat

/-
  Deques as the exact laws take, copy, compare, mark and hold them; an answer in a variable of its own.
-/
namespace Go.Proofs.YtolgclajlklmaaaGreat
set_option linter.unusedSimpArgs false
set_option linter.unusedVariables false
open Go.RowKit
theorem OwnS.touch {W X : World} {lo hi lo' hi' n : Nat} {v : Value} {l : List Int} (h : OwnS W lo' hi' v n l) (ht : Touch lo hi W X) (hd : hi' ≤ lo ∨ hi ≤ lo') : OwnS X lo' hi' v n l := by
  obtain ⟨h1, h2, h3, h4⟩ := h
  refine ⟨h1, h2, Nat.le_trans h3 ht.2.2.2.1, ?_⟩
  rcases h4 with h4 | ⟨g, off, cap, hv, k1, k2, k3, k4, cur, hg, hn, hc⟩
  · exact .inl h4
  · exact .inr ⟨g, off, cap, hv, k1, k2, k3, k4, cur, touch_block hg ht (by omega), hn, hc⟩
theorem DqOwn.touch {W X : World} {lo hi lo' hi' : Nat} {v : Value} {s : Agg.Dq} (h : DqOwn W lo' hi' v s) (ht : Touch lo hi W X) (hd : hi' ≤ lo ∨ hi ≤ lo') : DqOwn X lo' hi' v s := by
  obtain ⟨iv, pv, hv, h1, h2, h3⟩ := h
  exact ⟨iv, pv, hv, h1.touch ht hd, h2.touch ht hd, h3⟩
theorem OwnS.setFar {w : World} {lo hi n d o : Nat} {v u : Value} {l : List Int} (h : OwnS w lo hi v n l) (hd : d < lo ∨ hi ≤ d) : OwnS (w.setCell ⟨d, o, none⟩ u) lo hi v n l :=
  h.kept (row := some d) ⟨rfl, rfl, rfl, by simp [World.setCell], fun k hk hne => Below.heap_setCell _ _ _ _ (fun e => hne (by rw [e]))⟩ (fun j e => by cases e; exact .inl hd)
theorem f6_size5 {wr : World} {c : Nat} (u0 u1 u2 u3 u4 : Value) : (((((wr.setCell ⟨c, 0, none⟩ u0).setCell ⟨c, 1, none⟩ u1).setCell ⟨c, 2, none⟩ u2).setCell ⟨c, 3, none⟩ u3).setCell ⟨c, 4, none⟩ u4).heap.size = wr.heap.size := by simp [World.setCell]
theorem f6_below5 {w wr : World} {c d : Nat} (h : Below d w wr) (hd : d ≤ c) (u0 u1 u2 u3 u4 : Value) :
    Below d w (((((wr.setCell ⟨c, 0, none⟩ u0).setCell ⟨c, 1, none⟩ u1).setCell ⟨c, 2, none⟩ u2).setCell ⟨c, 3, none⟩ u3).setCell ⟨c, 4, none⟩ u4) := ((((h.setCell hd u0).setCell hd u1).setCell hd u2).setCell hd u3).setCell hd u4
theorem OwnS.set5 {wr : World} {lo hi n c : Nat} {v : Value} {l : List Int} (h : OwnS wr lo hi v n l) (hd : c < lo ∨ hi ≤ c) (u0 u1 u2 u3 u4 : Value) :
    OwnS (((((wr.setCell ⟨c, 0, none⟩ u0).setCell ⟨c, 1, none⟩ u1).setCell ⟨c, 2, none⟩ u2).setCell ⟨c, 3, none⟩ u3).setCell ⟨c, 4, none⟩ u4) lo hi v n l :=
  ((((h.setFar hd).setFar hd).setFar hd).setFar hd).setFar hd
theorem OwnS.block {w : World} {lo hi n : Nat} {v : Value} {l : List Int} (h : OwnS w lo hi v n l) : ∀ g, v.ownBlock = some g → lo ≤ g ∧ g < hi := by
  intro g hg
  rcases h.2.2.2 with ⟨rfl, -⟩ | ⟨g', off, cap, rfl, k1, k2, -⟩
  · simp [Value.ownBlock] at hg
  · simp only [Value.ownBlock, Option.some.injEq] at hg
    omega
theorem OwnS.slice {w : World} {lo hi n : Nat} {v : Value} {l : List Int} (h : OwnS w lo hi v n l) : ∃ a c, v = .slice a n c := by
  obtain ⟨a, c, rfl, -⟩ := h.nums
  exact ⟨a, c, rfl⟩
/-- Rows that lie in different parts. -/
theorem parts_apart {w w' : World} {lo hi lo' hi' n n' : Nat} {v v' : Value} {l l' : List Int} (h : OwnS w lo hi v n l) (h' : OwnS w' lo' hi' v' n' l') (hd : hi ≤ lo') : v.ownBlock = none ∨ v.ownBlock ≠ v'.ownBlock := by
  cases hv : v.ownBlock with
  | none => exact .inl rfl
  | some g => exact .inr (fun e => by have := h.block g hv; have := h'.block g e.symm; omega)
end Go.Proofs.YtolgclajlklmaaaGreat

/-
  Deques: marked and held; an answer in a variable of its own.
-/
namespace Go.Proofs.YtolgclajlklmaaaGreat
set_option linter.unusedSimpArgs false
set_option linter.unusedVariables false
open Go.RowKit
def markDq (k : Int) (s : Agg.Dq) : Agg.Dq := ⟨seq k s.items.length, seq (k + (s.items.length : Int)) s.places.length, s.first, s.next, s.drops⟩
def markND (s : Agg.Dq) : Int := (s.items.length : Int) + (s.places.length : Int)
theorem DqOwn.set5 {wr : World} {lo hi c : Nat} {v : Value} {s : Agg.Dq} (h : DqOwn wr lo hi v s) (hd : c < lo ∨ hi ≤ c) (u0 u1 u2 u3 u4 : Value) :
    DqOwn (((((wr.setCell ⟨c, 0, none⟩ u0).setCell ⟨c, 1, none⟩ u1).setCell ⟨c, 2, none⟩ u2).setCell ⟨c, 3, none⟩ u3).setCell ⟨c, 4, none⟩ u4) lo hi v s := by
  obtain ⟨iv, pv, hv, h1, h2, h3⟩ := h
  exact ⟨iv, pv, hv, h1.set5 hd _ _ _ _ _, h2.set5 hd _ _ _ _ _, h3⟩
/-- An answer in a variable of its own, between two numbers; its rows lie elsewhere between them. -/
def DqAns (lb ub : Nat) (X : World) (c : Nat) (s : Agg.Dq) : Prop :=
  ∃ (lo hi : Nat) (ia : Option Addr) (ic : Nat) (pa : Option Addr) (pc : Nat), lb ≤ lo ∧ hi ≤ ub ∧ lb ≤ c ∧ c < ub ∧ (c < lo ∨ hi ≤ c) ∧ ub ≤ X.heap.size ∧ Box5 X c 28 (.slice ia s.items.length ic) (.slice pa s.places.length pc) (.int .i64 s.first) (.int .i64 s.next) (.int .i64 s.drops) ∧ DqOwn X lo hi (.agg #[.slice ia s.items.length ic, .slice pa s.places.length pc, .int .i64 s.first, .int .i64 s.next, .int .i64 s.drops]) s
theorem DqAns.new {lb : Nat} {Y : World} {lo hi : Nat} {ia : Option Addr} {ic : Nat} {pa : Option Addr} {pc : Nat} {s : Agg.Dq} (hl : lb ≤ lo) (hlo : lo ≤ hi) (hh : hi ≤ Y.heap.size) (ho : DqOwn Y lo hi (.agg #[.slice ia s.items.length ic, .slice pa s.places.length pc, .int .i64 s.first, .int .i64 s.next, .int .i64 s.drops]) s) : DqAns lb (Y.alloc (.cells #[.slice ia s.items.length ic, .slice pa s.places.length pc, .int .i64 s.first, .int .i64 s.next, .int .i64 s.drops] 28)).heap.size (Y.alloc (.cells #[.slice ia s.items.length ic, .slice pa s.places.length pc, .int .i64 s.first, .int .i64 s.next, .int .i64 s.drops] 28)) Y.heap.size s :=
  ⟨lo, hi, ia, ic, pa, pc, hl, by simp; omega, by omega, by simp, .inr hh, Nat.le_refl _, Box5.new _ _ _ _ _ _ _, ho.below ((Below.refl _ _).alloc (Nat.le_refl _) _)⟩
theorem DqAns.set {lb : Nat} {X : World} {lo hi c : Nat} {ia : Option Addr} {ic : Nat} {pa : Option Addr} {pc : Nat} {s : Agg.Dq} {u0 u1 u2 u3 u4 : Value} (hc : lb ≤ c) (hcl : c < lo) (hh : hi ≤ X.heap.size) (hb : Box5 X c 28 u0 u1 u2 u3 u4) (ho : DqOwn X lo hi (.agg #[.slice ia s.items.length ic, .slice pa s.places.length pc, .int .i64 s.first, .int .i64 s.next, .int .i64 s.drops]) s) :
    DqAns lb ((((((X.setCell ⟨c, 0, none⟩ (.slice ia s.items.length ic)).setCell ⟨c, 1, none⟩ (.slice pa s.places.length pc)).setCell ⟨c, 2, none⟩ (.int .i64 s.first)).setCell ⟨c, 3, none⟩ (.int .i64 s.next)).setCell ⟨c, 4, none⟩ (.int .i64 s.drops))).heap.size ((((((X.setCell ⟨c, 0, none⟩ (.slice ia s.items.length ic)).setCell ⟨c, 1, none⟩ (.slice pa s.places.length pc)).setCell ⟨c, 2, none⟩ (.int .i64 s.first)).setCell ⟨c, 3, none⟩ (.int .i64 s.next)).setCell ⟨c, 4, none⟩ (.int .i64 s.drops))) c s :=
  ⟨lo, hi, ia, ic, pa, pc, by omega, by rw [f6_size5]; exact hh, hc, by rw [f6_size5]; exact hb.lt, .inl hcl, Nat.le_refl _, ((((hb.set0 _).set1 _).set2 _).set3 _).set4 _, ho.set5 (.inl hcl) _ _ _ _ _⟩
theorem DqAns.touch {X Y : World} {c lo hi lb ub : Nat} {s : Agg.Dq} (h : DqAns lb ub X c s) (ht : Touch lo hi X Y) (hw : hi ≤ lb ∨ ub ≤ lo) : DqAns lb ub Y c s := by
  obtain ⟨l, g, ia, ic, pa, pc, h1, h2, h3, h4, h5, h6, h7, h8⟩ := h
  exact ⟨l, g, ia, ic, pa, pc, h1, h2, h3, h4, h5, Nat.le_trans h6 ht.2.2.2.1, (ht.2.2.2.2 c h7.lt (by omega)).trans h7, h8.touch ht (by omega)⟩
theorem DqAns.call {X Y : World} {c lb ub : Nat} {s : Agg.Dq} (h : DqAns lb ub X c s) (hb : Below X.heap.size X Y) : DqAns lb ub Y c s :=
  h.touch (lo := ub) (hi := ub) ((Touch.refl _ _ X).call hb) (.inr (Nat.le_refl _))
end Go.Proofs.YtolgclajlklmaaaGreat

/-
  What both changes of a deque share: a part of a row of one's own; a change as a variable; what a change answers.
-/
namespace Go.Proofs.YtolgclajlklmaaaGreat
set_option linter.unusedSimpArgs false
set_option linter.unusedVariables false
open Go.RowKit
/-- The first elements of a row of one's own. -/
theorem own_prefix {w : World} {base e size n k : Nat} {v : Value} {xs : List Value} (h : w.ownsRow base e size v n xs) (hk : k ≤ n) : ∃ a c, v = .slice a n c ∧ w.ownsRow base e size (.slice a k c) k (xs.take (k * size)) := by
  obtain ⟨hl, h⟩ := h
  have hm : k * size ≤ n * size := Nat.mul_le_mul_right size hk
  rcases h with ⟨rfl, rfl⟩ | ⟨g, cap, cur, rfl, hb, hg, h1, h2, h3, h4⟩
  · obtain rfl : k = 0 := by omega
    exact ⟨none, 0, rfl, by simp, .inl ⟨rfl, rfl⟩⟩
  · refine ⟨some ⟨g, 0, none⟩, cap, rfl, by rw [List.length_take, hl]; omega, .inr ⟨g, cap, cur, rfl, hb, hg, by omega, h2, h3, ?_⟩⟩
    rw [← h4, List.take_take, Nat.min_eq_left hm]
theorem own_prefix_int {w : World} {base n k c : Nat} {a : Option Addr} {l : List Int} (h : w.ownsRow base 3 1 (.slice a n c) n (l.map (Value.int .i64))) (hk : k ≤ n) : w.ownsRow base 3 1 (.slice a k c) k ((l.take k).map (Value.int .i64)) := by
  obtain ⟨a', c', e, h2⟩ := own_prefix h hk
  simp only [Value.slice.injEq, true_and] at e
  obtain ⟨rfl, rfl⟩ := e
  rw [Nat.mul_one, ← List.map_take] at h2
  exact h2
/-- A variable of two cells: its block. -/
def Box2d (w : World) (c : Nat) (T : TypeId) (u v : Value) : Prop := w.heap[c]? = some (.cells #[u, v] T (0, 0))
section
variable {w w' : World} {c d : Nat} {T : TypeId} {u v : Value}
theorem Box2d.new1 {Y : World} {g : Nat} (T : TypeId) (u v : Value) (hg : g = Y.heap.size) : Box2d (Y.alloc (.cells #[u, v] T)) g T u v := by subst hg; exact heap_alloc_new Y _
theorem Box2d.lt (h : Box2d w c T u v) : c < w.heap.size := (Array.getElem?_eq_some_iff.1 h).1
theorem Box2d.call (h : Box2d w c T u v) (hb : Below w.heap.size w w') : Box2d w' c T u v := (hb.block c h.lt).trans h
theorem Box2d.alloc (h : Box2d w c T u v) (o : Obj) : Box2d (w.alloc o) c T u v := h.call ((Below.refl _ _).alloc (Nat.le_refl _) _)
theorem Box2d.grown {row : Option Nat} (h : Box2d w c T u v) (hg : w.grownBy w' row) (hr : row ≠ some c) : Box2d w' c T u v := (hg.block c h.lt (fun e => hr e.symm)).trans h
theorem Box2d.other (h : Box2d w c T u v) (hd : c ≠ d) (o : Nat) (x : Value) : Box2d (w.setCell ⟨d, o, none⟩ x) c T u v := by
  unfold Box2d at *
  rw [Below.heap_setCell _ _ _ _ (by simpa using hd)]
  exact h
theorem Box2d.cells (h : Box2d w c T u v) : w.cell? ⟨c, 0, none⟩ = some u ∧ w.cell? ⟨c, 1, none⟩ = some v := by
  unfold Box2d at h
  constructor <;> simp [World.cell?, h]
theorem Box2d.touch {lo hi : Nat} (h : Box2d w c T u v) (ht : Touch lo hi w w') (hc : c < lo ∨ hi ≤ c) : Box2d w' c T u v := touch_block h ht hc
end
theorem own_far {w : World} {base e size n d o : Nat} {v u : Value} {xs : List Value} (h : w.ownsRow base e size v n xs) (hd : ∀ g, v.ownBlock = some g → g ≠ d) : (w.setCell ⟨d, o, none⟩ u).ownsRow base e size v n xs := by
  refine h.kept (row := some d) ⟨rfl, rfl, rfl, by simp [World.setCell], fun k hk hne => Below.heap_setCell _ _ _ _ (fun e => hne (by rw [e]))⟩ ?_
  cases hv : v.ownBlock with
  | none => exact .inl rfl
  | some g => exact .inr (fun e => by cases e; exact hd _ hv rfl)
theorem own_s {w : World} {base n : Nat} {v : Value} {l : List Int} (h : w.ownsRow base 3 1 v n (l.map (Value.int .i64))) (hb : base ≤ w.heap.size) : OwnS w base w.heap.size v n l :=
  OwnR.s ⟨h, hb, Nat.le_refl _, fun g hg => (h.lt g hg).2⟩
/-- What a change of a deque answers, in memory of its own. -/
def DqOut (b : Bool) (s : Agg.Dq) (w : World) (e : Ending) (w' : World) : Prop :=
  ∃ v, e = .returned (.tuple #[v, .bool b]) ∧ DqOwn w' w.heap.size w'.heap.size v s ∧ Below w.heap.size w w'
theorem DqOut.zero {w w' : World} (hb : Below w.heap.size w w') : DqOut false Agg.zeroDq w (.returned (.tuple #[.agg #[.slice none 0 0, .slice none 0 0, .int .i64 0, .int .i64 0, .int .i64 0], .bool false])) w' :=
  ⟨_, rfl, ⟨_, _, rfl, ⟨rfl, hb.size, Nat.le_refl _, .inl ⟨rfl, rfl⟩⟩, ⟨rfl, hb.size, Nat.le_refl _, .inl ⟨rfl, rfl⟩⟩, .inl rfl⟩, hb⟩
end Go.Proofs.YtolgclajlklmaaaGreat
