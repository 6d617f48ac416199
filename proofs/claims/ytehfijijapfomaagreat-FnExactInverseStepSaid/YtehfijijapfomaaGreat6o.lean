/-
  Rows of numbers of the call's own that may begin inside their block: read, marked, held.
-/
import Derived.Test.YtehfijijapfomaaGreatRw
import Derived.Test.YtehfijijapfomaaGreat6b
namespace Go.Proofs.YtehfijijapfomaaGreat
set_option linter.unusedSimpArgs false
set_option linter.unusedVariables false
open Go.RowKit
/-- Numbers in the cells of a block, from one on. -/
def CellsS (w : World) (g off n : Nat) (l : List Int) : Prop :=
  ∃ cur, w.heap[g]? = some (.cells cur 3 (0, 0)) ∧ off + n ≤ cur.size ∧ ∀ i, i < n → cur[off + i]? = some (.int .i64 (l[i]?.getD 0))
theorem CellsS.cell {w : World} {g off n : Nat} {l : List Int} (h : CellsS w g off n l) {i : Nat} (hi : i < n) : w.cell? ⟨g, off + i, none⟩ = some (.int .i64 (l[i]?.getD 0)) := by
  obtain ⟨cur, hg, hn, hc⟩ := h
  simpa [World.cell?, hg] using hc i hi
theorem CellsS.free {w : World} {g off n : Nat} {l : List Int} (h : CellsS w g off n l) (o : Nat) : w.frozen? ⟨g, o, none⟩ = false := by
  obtain ⟨cur, hg, hn, hc⟩ := h
  simp [World.frozen?, hg]
theorem CellsS.lt {w : World} {g off n : Nat} {l : List Int} (h : CellsS w g off n l) : g < w.heap.size := by
  obtain ⟨cur, hg, -⟩ := h
  exact (Array.getElem?_eq_some_iff.1 hg).1
theorem CellsS.set {w : World} {g off n : Nat} {l : List Int} (h : CellsS w g off n l) (hl : l.length = n) {j : Nat} (hj : j < n) (x : Int) : CellsS (w.setCell ⟨g, off + j, none⟩ (.int .i64 x)) g off n (l.set j x) := by
  obtain ⟨cur, hg, hn, hc⟩ := h
  refine ⟨cur.setIfInBounds (off + j) (.int .i64 x), ?_, by simpa using hn, fun i hi => ?_⟩
  · simp [World.setCell, Array.getElem?_modify, hg]
  · rw [Array.getElem?_setIfInBounds]
    by_cases e : j = i
    · subst e
      rw [if_pos rfl, if_pos (by omega), List.getElem?_set_self (by omega)]
      rfl
    · rw [if_neg (by omega), List.getElem?_set_ne e]
      exact hc i hi
theorem CellsS.grown {w w' : World} {g off n : Nat} {l : List Int} {row : Option Nat} (h : CellsS w g off n l) (hg : w.grownBy w' row) (hr : row ≠ some g) : CellsS w' g off n l := by
  obtain ⟨cur, hg0, hn, hc⟩ := h
  exact ⟨cur, (hg.block g (Array.getElem?_eq_some_iff.1 hg0).1 (fun e => hr e.symm)).trans hg0, hn, hc⟩
/-- A row of numbers of one's own: nothing, or cells of a block between. -/
def OwnS (w : World) (lo hi : Nat) (v : Value) (n : Nat) (l : List Int) : Prop :=
  l.length = n ∧ lo ≤ hi ∧ hi ≤ w.heap.size ∧ ((v = .slice none 0 0 ∧ n = 0) ∨ ∃ g off cap, v = .slice (some ⟨g, off, none⟩) n cap ∧ lo ≤ g ∧ g < hi ∧ n ≤ cap ∧ cap ≤ maxLen ∧ CellsS w g off n l)
theorem OwnR.s {w : World} {lo hi n : Nat} {v : Value} {l : List Int} (h : OwnR w lo hi v n l) : OwnS w lo hi v n l := by
  have hl : l.length = n := by have := h.1.1; simpa using this
  obtain ⟨h1, h2, h3, h4⟩ := h
  refine ⟨hl, h2, h3, ?_⟩
  have hrow := h1
  rcases h1.2 with h1 | ⟨g, cap, cur, rfl, hlo, hg, hn, hm, hs, ht⟩
  · exact .inl h1
  · refine .inr ⟨g, 0, cap, rfl, hlo, h4 g rfl, hn, hm, cur, hg, by omega, fun i hi => ?_⟩
    have hc := hrow.cellAt i (by omega)
    simp only [World.cell?, hg] at hc
    rw [Nat.zero_add]
    have e : cur[i]? = (l.map (Value.int .i64))[i]? := by simpa using hc
    rw [e, List.getElem?_map, List.getElem?_eq_getElem (by omega)]
    rfl
theorem OwnS.kept {w w' : World} {lo hi n : Nat} {v : Value} {l : List Int} {row : Option Nat} (h : OwnS w lo hi v n l) (hg : w.grownBy w' row) (hr : ∀ j, row = some j → (j < lo ∨ hi ≤ j) ∨ v.ownBlock ≠ some j) : OwnS w' lo hi v n l := by
  obtain ⟨h1, h2, h3, h4⟩ := h
  refine ⟨h1, h2, Nat.le_trans h3 hg.size, ?_⟩
  rcases h4 with h4 | ⟨g, off, cap, rfl, k1, k2, k3, k4, k5⟩
  · exact .inl h4
  · refine .inr ⟨g, off, cap, rfl, k1, k2, k3, k4, k5.grown hg (fun e => ?_)⟩
    rcases hr g e with h | h
    · omega
    · exact h rfl
theorem OwnS.below {w w' : World} {lo hi n : Nat} {v : Value} {l : List Int} (h : OwnS w lo hi v n l) (hb : Below w.heap.size w w') : OwnS w' lo hi v n l :=
  h.kept (row := none) (Below.grownNone hb _) (fun j e => by cases e)
theorem OwnS.wide {w : World} {lo hi lo' hi' n : Nat} {v : Value} {l : List Int} (h : OwnS w lo hi v n l) (h1 : lo' ≤ lo) (h2 : hi ≤ hi') (h3 : hi' ≤ w.heap.size) : OwnS w lo' hi' v n l := by
  obtain ⟨g1, g2, g3, g4⟩ := h
  refine ⟨g1, by omega, h3, ?_⟩
  rcases g4 with g4 | ⟨g, off, cap, rfl, k1, k2, k3, k4, k5⟩
  · exact .inl g4
  · exact .inr ⟨g, off, cap, rfl, by omega, by omega, k3, k4, k5⟩
theorem OwnS.nums {w : World} {lo hi n : Nat} {v : Value} {l : List Int} (h : OwnS w lo hi v n l) : ∃ a cap, v = .slice a n cap ∧ Nums .i64 w a n cap l := by
  obtain ⟨h1, h2, h3, h4⟩ := h
  rcases h4 with ⟨rfl, h0⟩ | ⟨g, off, cap, rfl, k1, k2, k3, k4, k5⟩
  · subst h0; exact ⟨none, 0, rfl, h1, Nat.le_refl _, by simp [maxLen], .inl rfl⟩
  · exact ⟨_, cap, rfl, h1, k3, k4, .inr ⟨g, off, rfl, k5.lt, fun i hi => k5.cell hi⟩⟩
theorem OwnS.nil (w : World) : OwnS w w.heap.size w.heap.size (.slice none 0 0) 0 [] := ⟨rfl, Nat.le_refl _, Nat.le_refl _, .inl ⟨rfl, rfl⟩⟩
/-- The row without its first number. -/
theorem OwnS.tail {w : World} {lo hi n cap : Nat} {a : Addr} {l : List Int} (h : OwnS w lo hi (.slice (some a) (n + 1) cap) (n + 1) l) : OwnS w lo hi (.slice (some (a.add 1)) n (cap - 1)) n l.tail := by
  obtain ⟨h1, h2, h3, h4⟩ := h
  refine ⟨by simp [h1], h2, h3, ?_⟩
  rcases h4 with ⟨h4, -⟩ | ⟨g, off, cap', e, k1, k2, k3, k4, cur, hg, hn, hc⟩
  · cases h4
  · simp only [Value.slice.injEq, Option.some.injEq, true_and] at e
    obtain ⟨rfl, rfl⟩ := e
    refine .inr ⟨g, off + 1, cap - 1, by rw [Addr.add_lit], k1, k2, by omega, by omega, cur, hg, by omega, fun i hi => ?_⟩
    rw [show off + 1 + i = off + (i + 1) by omega, hc (i + 1) (by omega)]
    simp
set_option maxHeartbeats 1000000 in
theorem markIntS_s {lo hi n : Nat} {v : Value} {l : List Int} (w : World) (k : Int) (h : OwnS w lo hi v n l) (hk0 : 0 ≤ k) (hk1 : k ≤ 1000000) (hn : n ≤ 1048576) :
    Calls Tryz.prog 22 #[v, .int .i64 k] w fun e w' => e = .returned (.int .i64 (k + n)) ∧ OwnS w' lo hi v n (seq k n) ∧ w.grownBy w' v.ownBlock := by
  obtain ⟨hl, h2, h3, h4⟩ := h
  rcases h4 with ⟨rfl, rfl⟩ | ⟨g, off, cap, rfl, hlo, hg, hnc, hcm, hc⟩
  · go_enter Tryz.func22, Tryz.ntmps22
    go_wp2
    go_loopw [1, 5] (fun kv i wr => kv = .int .i64 k ∧ i = .int .i64 0 ∧ wr = w) (fun _ i _ => 0)
    case atStart => exact ⟨rfl, rfl, rfl⟩
    case round =>
      obtain ⟨rfl, rfl, rfl⟩ := hrel
      go_wp2
      go_returns
      exact ⟨by simp, ⟨rfl, h2, h3, .inl ⟨rfl, rfl⟩⟩, ⟨rfl, rfl, rfl, Nat.le_refl _, fun _ _ _ => rfl⟩⟩
  · have hcm' := hcm
    unfold maxLen at hcm
    have HL := Lib.hid hl; clear hl
    have HB := Lib.hid (show w.grownBy w (some g) from ⟨rfl, rfl, rfl, Nat.le_refl _, fun _ _ _ => rfl⟩)
    have H1' := Lib.hid (show CellsS w g off n (marked k l 0) by rw [marked_zero]; exact hc)
    have H4 := Lib.hid (show lo ≤ g ∧ g < hi ∧ n ≤ cap ∧ cap ≤ maxLen from ⟨hlo, hg, hnc, hcm'⟩)
    clear hc hcm' hlo hg
    go_enter Tryz.func22, Tryz.ntmps22
    go_wp2
    go_loopw [1, 5] (fun kv i wr => ∃ j : Nat, j ≤ n ∧ i = .int .i64 j ∧ kv = .int .i64 (k + j) ∧ Hid (CellsS wr g off n (marked k l j)) ∧ Hid (w.grownBy wr (some g))) (fun _ i _ => n - (intOf i).toNat)
    case atStart => exact ⟨0, Nat.zero_le _, rfl, by simp, H1', HB⟩
    case round =>
      obtain ⟨j, hj, rfl, rfl, HR, HG⟩ := hrel
      clear H1' HB
      by_cases hlt : j < n
      · have hst := marked_set k l j (by have := HL.out; omega)
        have HST := Lib.hid hst; clear hst
        have hml : (marked k l j).length = n := by have := HL.out; simp [marked, seq_length]; omega
        have hfr := HR.out.free (off + j)
        have hcd := HR.out.cell hlt
        have hs := HR.out.set hml hlt (k + (j : Int))
        rw [HST.out] at hs
        have HS := Lib.hid hs
        clear hs hml
        have hk0' : (0 : Int) ≤ (j : Int) := Int.natCast_nonneg _
        have hkn : (j : Int) < (n : Int) := by omega
        go_wp2
        go_roundw
        case rel =>
          refine ⟨j + 1, by omega, by go_num, by go_num, HS, ?_⟩
          exact ⟨HG.out.os, HG.out.tape, HG.out.output, by have := HG.out.size; simpa [World.setCell] using this, fun i hi hne => (Below.heap_setCell _ _ _ _ (by show i ≠ g; intro e; exact hne (by rw [e]))).trans (HG.out.block i hi hne)⟩
        case measure => simp [intOf]; omega
      · obtain rfl : j = n := by omega
        go_wp2
        go_returns
        obtain ⟨k1, k2, k3, k4⟩ := H4.out
        refine ⟨rfl, ⟨seq_length _ _, h2, Nat.le_trans h3 HG.out.size, .inr ⟨g, off, cap, rfl, k1, k2, k3, k4, ?_⟩⟩, HG.out⟩
        have := HR.out
        rw [← HL.out, marked_all, HL.out] at this
        exact this
set_option maxHeartbeats 1000000 in
theorem heldIntS_s {lo hi n : Nat} {v : Value} (w : World) (k : Int) (h : OwnS w lo hi v n (seq k n)) (hk0 : 0 ≤ k) (hk1 : k ≤ 1000000) (hn : n ≤ 1048576) :
    Calls Tryz.prog 23 #[v, .int .i64 k] w fun e w' => e = .returned (.int .i64 (k + n)) ∧ Below w.heap.size w w' := by
  obtain ⟨a, cap, rfl, hN⟩ := h.nums
  have hcm : cap ≤ 9223372036854775807 := by have := hN.2.2.1; unfold maxLen at this; omega
  have hnc := hN.2.1
  have H4 := Lib.hid hN.2.2.2
  clear hN h
  go_enter Tryz.func23, Tryz.ntmps23
  go_wp2
  go_loopw [1, 5] (fun kv i wr => ∃ j : Nat, j ≤ n ∧ i = .int .i64 j ∧ kv = .int .i64 (k + j) ∧ Hid (Below w.heap.size w wr)) (fun _ i _ => n - (intOf i).toNat)
  case atStart => exact ⟨0, Nat.zero_le _, rfl, by simp, Below.refl _ _⟩
  case round =>
    obtain ⟨j, hj, rfl, rfl, HW⟩ := hrel
    by_cases hlt : j < n
    · rcases H4.out with h4 | ⟨b, off, rfl, hb, hcs⟩
      · omega
      · have hck := (HW.out.cell (p := ⟨b, off + j, none⟩) hb).trans (hcs j hlt)
        rw [seq_at k n j hlt] at hck
        clear hcs
        have hk0' : (0 : Int) ≤ (j : Int) := Int.natCast_nonneg _
        have hkn : (j : Int) < (n : Int) := by omega
        go_wp2
        go_roundw
        case rel => exact ⟨j + 1, by omega, by go_num, by go_num, HW.out⟩
        case measure => simp [intOf]; omega
    · obtain rfl : j = n := by omega
      go_wp2
      go_returns
      exact ⟨rfl, HW.out⟩
/-- A deque whose rows are the call's own. -/
def DqOwn (w : World) (lo hi : Nat) (v : Value) (s : Agg.Dq) : Prop :=
  ∃ iv pv, v = .agg #[iv, pv, .int .i64 s.first, .int .i64 s.next, .int .i64 s.drops] ∧ OwnS w lo hi iv s.items.length s.items ∧ OwnS w lo hi pv s.places.length s.places ∧ (iv.ownBlock = none ∨ iv.ownBlock ≠ pv.ownBlock)
theorem DqOwn.kept {w w' : World} {lo hi : Nat} {v : Value} {s : Agg.Dq} {row : Option Nat} (h : DqOwn w lo hi v s) (hg : w.grownBy w' row) (hr : ∀ j, row = some j → j < lo ∨ hi ≤ j) : DqOwn w' lo hi v s := by
  obtain ⟨iv, pv, hv, h1, h2, h3⟩ := h
  exact ⟨iv, pv, hv, h1.kept hg (fun j e => .inl (hr j e)), h2.kept hg (fun j e => .inl (hr j e)), h3⟩
theorem DqOwn.below {w w' : World} {lo hi : Nat} {v : Value} {s : Agg.Dq} (h : DqOwn w lo hi v s) (hb : Below w.heap.size w w') : DqOwn w' lo hi v s :=
  h.kept (row := none) (Below.grownNone hb _) (fun j e => by cases e)
theorem DqOwn.wide {w : World} {lo hi lo' hi' : Nat} {v : Value} {s : Agg.Dq} (h : DqOwn w lo hi v s) (h1 : lo' ≤ lo) (h2 : hi ≤ hi') (h3 : hi' ≤ w.heap.size) : DqOwn w lo' hi' v s := by
  obtain ⟨iv, pv, hv, g1, g2, g3⟩ := h
  exact ⟨iv, pv, hv, g1.wide h1 h2 h3, g2.wide h1 h2 h3, g3⟩
theorem DqOwn.read {w : World} {lo hi : Nat} {v : Value} {s : Agg.Dq} (h : DqOwn w lo hi v s) : ∃ ia ic pa pc, v = .agg #[.slice ia s.items.length ic, .slice pa s.places.length pc, .int .i64 s.first, .int .i64 s.next, .int .i64 s.drops] ∧ Nums .i64 w ia s.items.length ic s.items ∧ Nums .i64 w pa s.places.length pc s.places := by
  obtain ⟨iv, pv, rfl, h1, h2, -⟩ := h
  obtain ⟨ia, ic, rfl, hI⟩ := h1.nums
  obtain ⟨pa, pc, rfl, hP⟩ := h2.nums
  exact ⟨ia, ic, pa, pc, rfl, hI, hP⟩
end Go.Proofs.YtehfijijapfomaaGreat
