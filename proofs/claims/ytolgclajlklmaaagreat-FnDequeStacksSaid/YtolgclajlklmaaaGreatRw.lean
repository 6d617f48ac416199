import Derived.Test.YtolgclajlklmaaaGreatA
import Derived.OpenShut
import Derived.Deep.OwnRows
import Derived.Maps.AppendAt
import Derived.Deep.RegionHeld3
import Derived.Deep.AppendSrc
import Derived.Lib.AppendZeros
import Derived.OwnWalk
import Derived.Test.YtolgclajlklmaaaGreatMa
/-
  Slices of numbers: a slice value that reads as a list; it stays so where memory only grows; what was handed in is such a slice.
-/
namespace Go.Proofs.YtolgclajlklmaaaGreat
open Go.RowKit
set_option linter.unusedSimpArgs false

/-- A slice of integers of a kind as it came in: nil, or a row of cells. -/
def IsRow (k : IntKind) (w : World) (a : Option Addr) (len cap : Nat) (zs : List Int) : Prop :=
  (a = none ∧ len = 0 ∧ cap = 0 ∧ zs = []) ∨
  ∃ x, a = some x ∧ len ≤ cap ∧ cap ≤ maxLen ∧ zs.length = cap ∧ (∀ i, i < zs.length → w.cell? (x.add i) = some (.int k (zs.getD i 0))) ∧ ∀ n ∈ zs, (Lit.int k n).wf = true

/-- The slice with this address, length and capacity reads as the list l. -/
def Nums (k : IntKind) (w : World) (a : Option Addr) (n cap : Nat) (l : List Int) : Prop :=
  l.length = n ∧ n ≤ cap ∧ cap ≤ maxLen ∧
  (n = 0 ∨ ∃ b off, a = some ⟨b, off, none⟩ ∧ b < w.heap.size ∧ ∀ i, i < n → w.cell? ⟨b, off + i, none⟩ = some (.int k (l[i]?.getD 0)))

theorem Nums.below {k : IntKind} {w w' : World} {a : Option Addr} {n cap : Nat} {l : List Int} (h : Nums k w a n cap l) (hb : Below w.heap.size w w') : Nums k w' a n cap l := by
  obtain ⟨h1, h2, h3, h4⟩ := h
  refine ⟨h1, h2, h3, ?_⟩
  rcases h4 with h4 | ⟨b, off, ha, hlt, hc⟩
  · exact .inl h4
  · exact .inr ⟨b, off, ha, Nat.lt_of_lt_of_le hlt hb.size, fun i hi => (hb.cell (p := ⟨b, off + i, none⟩) hlt).trans (hc i hi)⟩

theorem Nums.of_row {k : IntKind} {w : World} {a : Option Addr} {len cap : Nat} {zs : List Int} (h : IsRow k w a len cap zs) : Nums k w a len cap (zs.take len) := by
  rcases h with ⟨rfl, rfl, rfl, rfl⟩ | ⟨x, rfl, hl, hm, hz, hcell, _⟩
  · exact ⟨rfl, Nat.le_refl _, by simp [maxLen], .inl rfl⟩
  · refine ⟨by simp; omega, hl, hm, ?_⟩
    by_cases h0 : len = 0
    · exact .inl h0
    · have hc := hcell 0 (by omega)
      obtain ⟨b, off, spot⟩ := x
      have hspot : spot = none := by simpa [Addr.add] using World.cell?_spot hc
      subst hspot
      refine .inr ⟨b, off, rfl, World.block_lt_of_cell? w _ hc, fun i hi => ?_⟩
      have hi2 := hcell i (by omega)
      have ea : (⟨b, off, none⟩ : Addr).add i = ⟨b, off + i, none⟩ := by
        by_cases hi0 : i = 0
        · subst hi0; simp [Addr.add]
        · simp [Addr.add, hi0]
      rw [ea] at hi2
      rw [hi2, List.getD_eq_getElem?_getD]
      simp [List.getElem?_take, hi]

theorem Nums.row_wf {k : IntKind} {w : World} {a : Option Addr} {len cap : Nat} {zs : List Int} (h : IsRow k w a len cap zs) : ∀ n ∈ zs.take len, (Lit.int k n).wf = true := by
  rcases h with ⟨rfl, rfl, rfl, rfl⟩ | ⟨x, rfl, _, _, _, _, hw⟩
  · simp
  · exact fun n hn => hw n (List.mem_of_mem_take hn)

/-- A variable of three numbers: its block. -/
def Box (w : World) (c : Nat) (T : TypeId) (x y z : Int) : Prop := w.heap[c]? = some (.cells #[.int .i64 x, .int .i64 y, .int .i64 z] T (0, 0))

theorem Box.new (w : World) (T : TypeId) (x y z : Int) : Box (w.alloc (.cells #[.int .i64 x, .int .i64 y, .int .i64 z] T)) w.heap.size T x y z := heap_alloc_new w _
theorem Box.lt {w : World} {c : Nat} {T : TypeId} {x y z : Int} (h : Box w c T x y z) : c < w.heap.size := (Array.getElem?_eq_some_iff.1 h).1
theorem Box.below {w w' : World} {B c : Nat} {T : TypeId} {x y z : Int} (h : Box w c T x y z) (hb : Below B w w') (hc : c < B) : Box w' c T x y z := (hb.block c hc).trans h
theorem Box.cells {w : World} {c : Nat} {T : TypeId} {x y z : Int} (h : Box w c T x y z) :
    w.cell? ⟨c, 0, none⟩ = some (.int .i64 x) ∧ w.cell? ⟨c, 1, none⟩ = some (.int .i64 y) ∧ w.cell? ⟨c, 2, none⟩ = some (.int .i64 z) := by
  unfold Box at h
  refine ⟨?_, ?_, ?_⟩ <;> simp [World.cell?, h]
theorem Box.free {w : World} {c : Nat} {T : TypeId} {x y z : Int} (h : Box w c T x y z) (o : Nat) : w.frozen? ⟨c, o, none⟩ = false := by
  unfold Box at h
  simp [World.frozen?, h]
theorem Box.set {w : World} {c : Nat} {T : TypeId} {x y z : Int} (h : Box w c T x y z) (x' y' z' : Int) :
    Box (((w.setCell ⟨c, 0, none⟩ (.int .i64 x')).setCell ⟨c, 1, none⟩ (.int .i64 y')).setCell ⟨c, 2, none⟩ (.int .i64 z')) c T x' y' z' := by
  unfold Box at *
  simp [World.setCell, Array.getElem?_modify, h]
theorem Box.set_other {w : World} {c d : Nat} {T : TypeId} {x y z : Int} (h : Box w d T x y z) (hd : d ≠ c) (o : Nat) (v : Value) :
    Box (w.setCell ⟨c, o, none⟩ v) d T x y z := by
  unfold Box at *
  rw [Below.heap_setCell _ _ _ _ (by simpa using hd)]
  exact h

/-- Two variables, and what was there before the call, over a call that makes memory alone. -/
theorem carry {w wr w2 : World} {c : Nat} {T S : TypeId} {x y z x' y' z' : Int} (HB : Box wr c T x y z) (HR : Box wr w.heap.size S x' y' z') (HW : Below w.heap.size w wr) (_hwc : w.heap.size < c) (hb : Below wr.heap.size wr w2) :
    Box w2 c T x y z ∧ Box w2 w.heap.size S x' y' z' ∧ Below w.heap.size w w2 :=
  ⟨HB.below hb HB.lt, HR.below hb HR.lt, HW.trans (hb.mono (Nat.le_of_lt HR.lt))⟩
theorem carryD {w wr w2 : World} {c : Nat} {T S : TypeId} {x y z x' y' z' : Int} (HB : Box wr c T x y z) (HR : Box wr w.heap.size S x' y' z') (HW : Below w.heap.size w wr) (hwc : w.heap.size < c) (hb : Below wr.drew.heap.size wr.drew w2) :
    Box w2 c T x y z ∧ Box w2 w.heap.size S x' y' z' ∧ Below w.heap.size w w2 :=
  carry (wr := wr.drew) HB HR HW.drew hwc hb

end Go.Proofs.YtolgclajlklmaaaGreat

/-
  Copies of slices of numbers, and their comparison, as the exact laws make them.
-/
namespace Go.Proofs.YtolgclajlklmaaaGreat
set_option linter.unusedSimpArgs false
set_option linter.unusedVariables false
open Go.RowKit

/-- A slice of new memory that reads as l. -/
def MadeNums (l : List Int) (n : Nat) (w : World) (e : Ending) (w' : World) : Prop :=
  ∃ b, e = .returned (.slice (some ⟨b, 0, none⟩) n n) ∧ Nums .i64 w' (some ⟨b, 0, none⟩) n n l ∧ Below w.heap.size w w' ∧ w.heap.size ≤ b

theorem Nums.of_owns {w : World} {base e g n cap : Nat} {l : List Int} (h : w.ownsRow base e 1 (.slice (some ⟨g, 0, none⟩) n cap) n (l.map (Value.int .i64))) : Nums .i64 w (some ⟨g, 0, none⟩) n cap l := by
  have hl : l.length = n := by have := h.1; simpa using this
  have hcells : ∀ j, j < n → w.cell? ⟨g, j, none⟩ = some (.int .i64 (l[j]?.getD 0)) := by
    intro j hj
    rw [World.ownsRow.cellAt h j (by omega)]
    simp [List.getElem?_map, List.getElem?_eq_getElem (show j < l.length by omega)]
  rcases h.2 with ⟨hv, _⟩ | ⟨g', cap', cur, hv, hb, hg, h1, h2, h3, h4⟩
  · simp at hv
  · simp only [Value.slice.injEq, Option.some.injEq, Addr.mk.injEq] at hv
    obtain ⟨⟨rfl, -, -⟩, -, rfl⟩ := hv
    exact ⟨hl, h1, h2, .inr ⟨g, 0, rfl, (Array.getElem?_eq_some_iff.1 hg).1, fun i hi => by rw [Nat.zero_add]; exact hcells i hi⟩⟩

/-- The first k numbers of l, and zeros behind them. -/
def partly (l : List Int) (k : Nat) : List Int := l.take k ++ List.replicate (l.length - k) 0
theorem partly_zero (l : List Int) : partly l 0 = List.replicate l.length 0 := by simp [partly]
theorem partly_all (l : List Int) : partly l l.length = l := by simp [partly]
theorem partly_set (l : List Int) (k : Nat) (h : k < l.length) : (partly l k).set k (l[k]?.getD 0) = partly l (k + 1) := by
  apply List.ext_getElem?
  intro i
  simp only [partly, List.getElem?_set, List.getElem?_append, List.length_append, List.length_take, List.length_replicate, List.getElem?_take, List.getElem?_replicate]
  by_cases hik : k = i
  · subst hik
    simp [h, Nat.min_eq_left (Nat.le_of_lt h), Nat.min_eq_left (show k + 1 ≤ l.length by omega)] <;> omega
  · rw [if_neg hik]
    rw [Nat.min_eq_left (Nat.le_of_lt h), Nat.min_eq_left (show k + 1 ≤ l.length by omega)]
    by_cases h1 : i < k
    · rw [if_pos h1, if_pos (show i < k + 1 by omega)]; simp [h1, show i < k + 1 by omega]
    · rw [if_neg h1, if_neg (show ¬ i < k + 1 by omega)]
      by_cases h2 : i < l.length
      · rw [if_pos (by omega), if_pos (by omega)]
      · rw [if_neg (by omega), if_neg (by omega)]

theorem infoInt : (Tryz.prog.info? 3).map (fun i => (i.zero, i.size, i.bytes)) = some (some (.int .i64 0), 1, 8) := by kernel_rfl

set_option maxHeartbeats 1000000 in
theorem toIntS_any (a : Option Addr) (n cap : Nat) (l : List Int) (w : World) (h : Nums .i64 w a n cap l) (hn : n ≤ 1048576) :
    Calls Tryz.prog 18 #[.slice a n cap] w (MadeNums l n w) := by
  obtain ⟨i0, hi, hz0, hz1, hz2⟩ := info_parts infoInt
  obtain ⟨hl, hcap, hm, h4⟩ := h
  unfold maxLen at hm
  have HL := Lib.hid hl; clear hl
  have H4 := Lib.hid h4; clear h4
  go_enter Tryz.func18, Tryz.ntmps18
  go_wp2_with (at_make; refine wpList_make_full _ rfl _ _ 26 rfl w.heap.size 3 i0 (.int .i64 0) 1 Tryz.underlying26 hi hz0 hz1 .i64 .i64 _ _ n rfl rfl rfl rfl ?b1 ?b2 ?b3 ?_)
  case b1 => rw [hz2]; omega
  case b2 => unfold maxLen; omega
  case b3 => exact Nat.le_refl _
  intro w1 hown hgrow
  have hown' : w1.ownsRow w.heap.size 3 1 (.slice (some ⟨w.heap.size, 0, none⟩) n n) n ((partly l 0).map (Value.int .i64)) := by
    have e : (madeCells #[Value.int .i64 0] n).toList = (partly l 0).map (Value.int .i64) := by
      rw [toList_madeCells_one, partly_zero, HL.out, List.map_replicate]
    rw [← e]; exact hown
  have hB : Below w.heap.size w w1 := (Below.refl _ _).grown hgrow (Nat.le_refl _) (fun k hk => by simp at hk)
  have HO := Lib.hid hown'; clear hown' hown
  have HB := Lib.hid hB; clear hB hgrow
  clear hi hz0 hz1 hz2
  go_wp2
  go_loopw [4] (fun i wr => ∃ k : Nat, k ≤ n ∧ i = .int .i64 k ∧ Hid (wr.ownsRow w.heap.size 3 1 (.slice (some ⟨w.heap.size, 0, none⟩) n n) n ((partly l k).map (Value.int .i64))) ∧ Hid (Below w.heap.size w wr)) (fun i _ => n - (intOf i).toNat)
  case atStart => exact ⟨0, Nat.zero_le _, rfl, HO, HB⟩
  case round =>
    obtain ⟨k, hk, rfl, HR, HW⟩ := hrel
    clear HO HB
    by_cases hlt : k < n
    · rcases H4.out with h4 | ⟨b, off, rfl, hb, hcs⟩
      · omega
      · have hck := (HW.out.cell (p := ⟨b, off + k, none⟩) hb).trans (hcs k hlt)
        clear hcs
        obtain ⟨x, hx⟩ : ∃ x, x = l[k]?.getD 0 := ⟨_, rfl⟩
        rw [← hx] at hck
        have hst := partly_set l k (by have := HL.out; omega)
        rw [← hx] at hst
        have HX := Lib.hid hx; clear hx
        have HST := Lib.hid hst; clear hst
        have hfr := HR.out.frozenAt k
        have hcd : ∃ y, wr.cell? ⟨w.heap.size, k, none⟩ = some y := by
          have hh := HR.out.cellAt k (by omega)
          have hlen : k < ((partly l k).map (Value.int .i64)).length := by rw [HR.out.1]; omega
          exact ⟨_, hh.trans (List.getElem?_eq_getElem hlen)⟩
        obtain ⟨y, hcd⟩ := hcd
        have hk0 : (0 : Int) ≤ (k : Int) := Int.natCast_nonneg _
        have hkn : (k : Int) < (n : Int) := by omega
        go_wp2
        go_roundw
        case rel =>
          refine ⟨k + 1, by omega, by go_num, ?_, HW.out.setCell (Nat.le_refl _) _⟩
          have hs := HR.out.stored k (Value.int .i64 x)
          rw [← List.map_set, HST.out] at hs
          exact hs.1
        case measure => simp [intOf]; omega
    · have hkn : k = l.length := by have := HL.out; omega
      have HKN := Lib.hid hkn; clear hkn
      have hlt' : n ≤ k := by omega
      clear hlt
      go_wp2
      go_returns
      refine ⟨w.heap.size, rfl, Nums.of_owns (base := w.heap.size) (e := 3) ?_, HW.out, Nat.le_refl _⟩
      have := HR.out
      rw [HKN.out, partly_all] at this
      exact this

set_option maxHeartbeats 1000000 in
theorem eqIntS_same (a1 : Option Addr) (n1 cap1 : Nat) (a2 : Option Addr) (n2 cap2 : Nat) (l : List Int) (w : World) (h1 : Nums .i64 w a1 n1 cap1 l) (h2 : Nums .i64 w a2 n2 cap2 l) :
    Calls Tryz.prog 22 #[.slice a1 n1 cap1, .slice a2 n2 cap2] w fun e w' => e = .returned (.bool true) ∧ Below w.heap.size w w' := by
  obtain ⟨hl1, hcap1, hm1, h41⟩ := h1
  obtain ⟨hl2, hcap2, hm2, h42⟩ := h2
  obtain rfl : n1 = n2 := by omega
  unfold maxLen at hm1
  have HL := Lib.hid hl1; clear hl1 hl2 hm2 hcap2
  have H1 := Lib.hid h41; clear h41
  have H2 := Lib.hid h42; clear h42
  go_enter Tryz.func22, Tryz.ntmps22
  go_wp2
  go_loopw [5] (fun i wr => ∃ k : Nat, k ≤ n1 ∧ i = .int .i64 k ∧ Hid (Below w.heap.size w wr)) (fun i _ => n1 - (intOf i).toNat)
  case atStart => exact ⟨0, Nat.zero_le _, rfl, Below.refl _ _⟩
  case round =>
    obtain ⟨k, hk, rfl, HW⟩ := hrel
    by_cases hlt : k < n1
    · rcases H1.out with h4 | ⟨b, off, rfl, hb, hcs⟩
      · omega
      · rcases H2.out with h4 | ⟨b', off', rfl, hb', hcs'⟩
        · omega
        · have hck := (HW.out.cell (p := ⟨b, off + k, none⟩) hb).trans (hcs k hlt)
          have hck' := (HW.out.cell (p := ⟨b', off' + k, none⟩) hb').trans (hcs' k hlt)
          clear hcs hcs'
          obtain ⟨x, hx⟩ : ∃ x, x = l[k]?.getD 0 := ⟨_, rfl⟩
          rw [← hx] at hck hck'
          clear hx
          have hk0 : (0 : Int) ≤ (k : Int) := Int.natCast_nonneg _
          have hkn : (k : Int) < (n1 : Int) := by omega
          go_wp2
          go_quiet (fail)
          go_wp2
          go_roundw
          case rel => exact ⟨k + 1, by omega, by go_num, below_drewN HW.out _⟩
          case measure => simp [intOf]; omega
    · have hlt' : n1 ≤ k := by omega
      clear hlt
      go_wp2
      go_returns
      exact ⟨rfl, HW.out⟩
end Go.Proofs.YtolgclajlklmaaaGreat

/-
  Rows of numbers in memory of the call's own, as the exact laws make, mark, compare and hold them.
-/
namespace Go.Proofs.YtolgclajlklmaaaGreat
set_option linter.unusedSimpArgs false
set_option linter.unusedVariables false
open Go.RowKit

theorem Below.grownNone {w w' : World} (hb : Below w.heap.size w w') (row : Option Nat) : w.grownBy w' row :=
  ⟨hb.os, hb.tape, hb.output, hb.size, fun k hk _ => hb.block k hk⟩

/-- A row of numbers whose block, if it has one, is not below lo and below hi. -/
def OwnR (w : World) (lo hi : Nat) (v : Value) (n : Nat) (l : List Int) : Prop :=
  w.ownsRow lo 3 1 v n (l.map (Value.int .i64)) ∧ lo ≤ hi ∧ hi ≤ w.heap.size ∧ (∀ g, v.ownBlock = some g → g < hi)

theorem OwnR.kept {w w' : World} {lo hi n : Nat} {v : Value} {l : List Int} {row : Option Nat} (h : OwnR w lo hi v n l) (hg : w.grownBy w' row) (hr : ∀ j, row = some j → j < lo ∨ hi ≤ j) : OwnR w' lo hi v n l := by
  obtain ⟨h1, h2, h3, h4⟩ := h
  refine ⟨h1.kept hg ?_, h2, Nat.le_trans h3 hg.size, h4⟩
  cases hv : v.ownBlock with
  | none => exact .inl rfl
  | some g =>
    refine .inr (fun e => ?_)
    have := (h1.lt g hv).1
    have := h4 g hv
    have := hr g e.symm
    omega
theorem OwnR.below {w w' : World} {lo hi n : Nat} {v : Value} {l : List Int} (h : OwnR w lo hi v n l) (hb : Below w.heap.size w w') : OwnR w' lo hi v n l :=
  h.kept (row := none) (Below.grownNone hb _) (fun j e => by cases e)
theorem OwnR.nums {w : World} {lo hi n : Nat} {v : Value} {l : List Int} (h : OwnR w lo hi v n l) : ∃ a cap, v = .slice a n cap ∧ Nums .i64 w a n cap l ∧ l.length = n := by
  have hl : l.length = n := by have := h.1.1; simpa using this
  rcases h.1.2 with ⟨rfl, rfl⟩ | ⟨g, cap, cur, rfl, -, hg, h1, h2, -⟩
  · exact ⟨none, 0, rfl, ⟨hl, Nat.le_refl _, by simp [maxLen], .inl rfl⟩, hl⟩
  · exact ⟨_, cap, rfl, Nums.of_owns (g := g) h.1, hl⟩
theorem owns_lower {w : World} {base base' e size n : Nat} {v : Value} {xs : List Value} (h : w.ownsRow base e size v n xs) (hb : base' ≤ base) : w.ownsRow base' e size v n xs := by
  obtain ⟨h1, h2⟩ := h
  refine ⟨h1, ?_⟩
  rcases h2 with h2 | ⟨g, cap, cur, hv, hg, rest⟩
  · exact .inl h2
  · exact .inr ⟨g, cap, cur, hv, Nat.le_trans hb hg, rest⟩
/-- A row that a call has made. -/
theorem OwnR.made {w w' : World} {n : Nat} {v : Value} {l : List Int} (h : w'.ownsRow w.heap.size 3 1 v n (l.map (Value.int .i64))) (hs : w.heap.size ≤ w'.heap.size) : OwnR w' w.heap.size w'.heap.size v n l :=
  ⟨h, hs, Nat.le_refl _, fun g hg => (h.lt g hg).2⟩

/-- A row is made, with these numbers. -/
def MadeRow (l : List Int) (n : Nat) (w : World) (e : Ending) (w' : World) : Prop :=
  ∃ v, e = .returned v ∧ OwnR w' w.heap.size w'.heap.size v n l ∧ Below w.heap.size w w'

set_option maxHeartbeats 1000000 in
theorem toIntS_own (a : Option Addr) (n cap : Nat) (l : List Int) (w : World) (h : Nums .i64 w a n cap l) (hn : n ≤ 1048576) :
    Calls Tryz.prog 18 #[.slice a n cap] w (MadeRow l n w) := by
  obtain ⟨i0, hi, hz0, hz1, hz2⟩ := info_parts infoInt
  obtain ⟨hl, hcap, hm, h4⟩ := h
  unfold maxLen at hm
  have HL := Lib.hid hl; clear hl
  have H4 := Lib.hid h4; clear h4
  go_enter Tryz.func18, Tryz.ntmps18
  go_wp2_with (at_make; refine wpList_make_full _ rfl _ _ 26 rfl w.heap.size 3 i0 (.int .i64 0) 1 Tryz.underlying26 hi hz0 hz1 .i64 .i64 _ _ n rfl rfl rfl rfl ?b1 ?b2 ?b3 ?_)
  case b1 => rw [hz2]; omega
  case b2 => unfold maxLen; omega
  case b3 => exact Nat.le_refl _
  intro w1 hown hgrow
  have hown' : w1.ownsRow w.heap.size 3 1 (.slice (some ⟨w.heap.size, 0, none⟩) n n) n ((partly l 0).map (Value.int .i64)) := by
    have e : (madeCells #[Value.int .i64 0] n).toList = (partly l 0).map (Value.int .i64) := by
      rw [toList_madeCells_one, partly_zero, HL.out, List.map_replicate]
    rw [← e]; exact hown
  have hB : Below w.heap.size w w1 := (Below.refl _ _).grown hgrow (Nat.le_refl _) (fun k hk => by simp at hk)
  have HO := Lib.hid hown'; clear hown' hown
  have HB := Lib.hid hB; clear hB hgrow
  clear hi hz0 hz1 hz2
  go_wp2
  go_loopw [4] (fun i wr => ∃ k : Nat, k ≤ n ∧ i = .int .i64 k ∧ Hid (wr.ownsRow w.heap.size 3 1 (.slice (some ⟨w.heap.size, 0, none⟩) n n) n ((partly l k).map (Value.int .i64))) ∧ Hid (Below w.heap.size w wr)) (fun i _ => n - (intOf i).toNat)
  case atStart => exact ⟨0, Nat.zero_le _, rfl, HO, HB⟩
  case round =>
    obtain ⟨k, hk, rfl, HR, HW⟩ := hrel
    clear HO HB
    by_cases hlt : k < n
    · rcases H4.out with h4 | ⟨b, off, rfl, hb, hcs⟩
      · omega
      · have hck := (HW.out.cell (p := ⟨b, off + k, none⟩) hb).trans (hcs k hlt)
        clear hcs
        obtain ⟨x, hx⟩ : ∃ x, x = l[k]?.getD 0 := ⟨_, rfl⟩
        rw [← hx] at hck
        have hst := partly_set l k (by have := HL.out; omega)
        rw [← hx] at hst
        have HX := Lib.hid hx; clear hx
        have HST := Lib.hid hst; clear hst
        have hfr := HR.out.frozenAt k
        have hcd : ∃ y, wr.cell? ⟨w.heap.size, k, none⟩ = some y := by
          have hh := HR.out.cellAt k (by omega)
          have hlen : k < ((partly l k).map (Value.int .i64)).length := by rw [HR.out.1]; omega
          exact ⟨_, hh.trans (List.getElem?_eq_getElem hlen)⟩
        obtain ⟨y, hcd⟩ := hcd
        have hk0 : (0 : Int) ≤ (k : Int) := Int.natCast_nonneg _
        have hkn : (k : Int) < (n : Int) := by omega
        go_wp2
        go_roundw
        case rel =>
          refine ⟨k + 1, by omega, by go_num, ?_, HW.out.setCell (Nat.le_refl _) _⟩
          have hs := HR.out.stored k (Value.int .i64 x)
          rw [← List.map_set, HST.out] at hs
          exact hs.1
        case measure => simp [intOf]; omega
    · have hkn : k = l.length := by have := HL.out; omega
      have HKN := Lib.hid hkn; clear hkn
      have hlt' : n ≤ k := by omega
      clear hlt
      go_wp2
      go_returns
      refine ⟨_, rfl, OwnR.made ?_ HW.out.size, HW.out⟩
      have := HR.out
      rw [HKN.out, partly_all] at this
      exact this

theorem eqIntS_own {lo hi n lo' hi' n' : Nat} {v v' : Value} {l : List Int} (w : World) (h : OwnR w lo hi v n l) (h' : OwnR w lo' hi' v' n' l) :
    Calls Tryz.prog 22 #[v, v'] w fun e w' => e = .returned (.bool true) ∧ Below w.heap.size w w' := by
  obtain ⟨a, cap, rfl, hN, -⟩ := h.nums
  obtain ⟨a', cap', rfl, hN', -⟩ := h'.nums
  exact eqIntS_same _ _ _ _ _ _ l _ hN hN'

/-- k, k + 1 and so on: n numbers. -/
def seq (k : Int) : Nat → List Int
  | 0 => []
  | n + 1 => k :: seq (k + 1) n
theorem seq_length (k : Int) (n : Nat) : (seq k n).length = n := by
  induction n generalizing k with
  | zero => rfl
  | succ n ih => simp [seq, ih]
theorem seq_at (k : Int) (n i : Nat) (h : i < n) : (seq k n)[i]?.getD 0 = k + i := by
  induction n generalizing k i with
  | zero => omega
  | succ n ih =>
    cases i with
    | zero => simp [seq]
    | succ i => simp [seq, ih (k + 1) i (by omega)]; omega

/-- The first i numbers of l replaced by those from k on. -/
def marked (k : Int) (l : List Int) (i : Nat) : List Int := (seq k i) ++ l.drop i
theorem marked_zero (k : Int) (l : List Int) : marked k l 0 = l := by simp [marked, seq]
theorem marked_all (k : Int) (l : List Int) : marked k l l.length = seq k l.length := by simp [marked]
theorem seq_snoc (k : Int) (n : Nat) : seq k (n + 1) = seq k n ++ [k + n] := by
  induction n generalizing k with
  | zero => simp [seq]
  | succ n ih =>
    rw [seq, ih (k + 1), seq, List.cons_append]
    congr 2
    simp
    omega
theorem marked_set (k : Int) (l : List Int) (i : Nat) (h : i < l.length) : (marked k l i).set i (k + i) = marked k l (i + 1) := by
  unfold marked
  rw [List.set_append_right _ _ (by rw [seq_length]; omega), seq_length, Nat.sub_self, List.drop_eq_getElem_cons h, List.set_cons_zero, seq_snoc, List.append_assoc, List.singleton_append]

set_option maxHeartbeats 1000000 in
theorem markIntS_own {lo hi n : Nat} {v : Value} {l : List Int} (w : World) (k : Int) (h : OwnR w lo hi v n l) (hk0 : 0 ≤ k) (hk1 : k ≤ 1000000) (hn : n ≤ 1048576) :
    Calls Tryz.prog 24 #[v, .int .i64 k] w fun e w' => e = .returned (.int .i64 (k + n)) ∧ OwnR w' lo hi v n (seq k n) ∧ w.grownBy w' v.ownBlock := by
  have hl : l.length = n := by have := h.1.1; simpa using this
  obtain ⟨h1, h2, h3, h4⟩ := h
  rcases h1.2 with ⟨rfl, rfl⟩ | ⟨g, cap, cur, rfl, hlo, hg, hnc, hcm, -, -⟩
  · go_enter Tryz.func24, Tryz.ntmps24
    go_wp2
    go_loopw [1, 5] (fun kv i wr => kv = .int .i64 k ∧ i = .int .i64 0 ∧ wr = w) (fun _ i _ => 0)
    case atStart => exact ⟨rfl, rfl, rfl⟩
    case round =>
      obtain ⟨rfl, rfl, rfl⟩ := hrel
      go_wp2
      go_returns
      exact ⟨by simp, ⟨⟨by simp [seq], .inl ⟨rfl, rfl⟩⟩, h2, h3, h4⟩, ⟨rfl, rfl, rfl, Nat.le_refl _, fun _ _ _ => rfl⟩⟩
  · unfold maxLen at hcm
    have H1 := Lib.hid h1; clear h1 hg
    have HL := Lib.hid hl; clear hl
    have hgw : g < w.heap.size := by have := h4 g rfl; omega
    have HB := Lib.hid (show w.grownBy w (some g) from ⟨rfl, rfl, rfl, Nat.le_refl _, fun _ _ _ => rfl⟩)
    have H1' := Lib.hid (show w.ownsRow lo 3 1 (.slice (some ⟨g, 0, none⟩) n cap) n ((marked k l 0).map (Value.int .i64)) by rw [marked_zero]; exact H1.out)
    have H4 := Lib.hid h4; clear h4
    clear H1
    go_enter Tryz.func24, Tryz.ntmps24
    go_wp2
    go_loopw [1, 5] (fun kv i wr => ∃ j : Nat, j ≤ n ∧ i = .int .i64 j ∧ kv = .int .i64 (k + j) ∧ Hid (wr.ownsRow lo 3 1 (.slice (some ⟨g, 0, none⟩) n cap) n ((marked k l j).map (Value.int .i64))) ∧ Hid (w.grownBy wr (some g))) (fun _ i _ => n - (intOf i).toNat)
    case atStart => exact ⟨0, Nat.zero_le _, rfl, by simp, H1', HB⟩
    case round =>
      obtain ⟨j, hj, rfl, rfl, HR, HG⟩ := hrel
      clear H1' HB
      by_cases hlt : j < n
      · have hst := marked_set k l j (by have := HL.out; omega)
        have HST := Lib.hid hst; clear hst
        have hfr := HR.out.frozenAt j
        have hcd : ∃ y, wr.cell? ⟨g, j, none⟩ = some y := by
          have hh := HR.out.cellAt j (by omega)
          have hlen : j < ((marked k l j).map (Value.int .i64)).length := by rw [HR.out.1]; omega
          exact ⟨_, hh.trans (List.getElem?_eq_getElem hlen)⟩
        obtain ⟨y, hcd⟩ := hcd
        have hk0' : (0 : Int) ≤ (j : Int) := Int.natCast_nonneg _
        have hkn : (j : Int) < (n : Int) := by omega
        go_wp2
        go_roundw
        case rel =>
          refine ⟨j + 1, by omega, by go_num, by go_num, ?_, ?_⟩
          · have hs := HR.out.stored j (Value.int .i64 (k + j))
            rw [← List.map_set, HST.out] at hs
            exact hs.1
          · exact ⟨HG.out.os, HG.out.tape, HG.out.output, by have := HG.out.size; simpa [World.setCell] using this, fun i hi hne => (Below.heap_setCell _ _ _ _ (by show i ≠ g; intro e; exact hne (by rw [e]))).trans (HG.out.block i hi hne)⟩
        case measure => simp [intOf]; omega
      · obtain rfl : j = n := by omega
        go_wp2
        go_returns
        refine ⟨rfl, ⟨?_, h2, Nat.le_trans h3 HG.out.size, H4.out⟩, HG.out⟩
        have := HR.out
        rw [← HL.out, marked_all, HL.out] at this
        exact this

end Go.Proofs.YtolgclajlklmaaaGreat

/-
  Rows of changes: a slice of pairs of a bool and a number; rows of the call's own; comparison, marks.
-/
namespace Go.Proofs.YtolgclajlklmaaaGreat
set_option linter.unusedSimpArgs false
set_option linter.unusedVariables false
open Go.RowKit

def opCells (o : Bool × Int) : List Value := [.bool o.1, .int .i64 o.2]
def opRow (l : List (Bool × Int)) : List Value := l.flatMap opCells
theorem opRow_nil : opRow [] = [] := rfl
theorem opRow_snoc (l : List (Bool × Int)) (o : Bool × Int) : opRow (l ++ [o]) = opRow l ++ [.bool o.1, .int .i64 o.2] := by simp [opRow, opCells]
theorem opRow_length (l : List (Bool × Int)) : (opRow l).length = l.length * 2 := by
  induction l with
  | nil => rfl
  | cons o l ih => simp only [opRow, List.flatMap_cons, List.length_append] at ih ⊢; simp [opCells, ih]; omega
theorem opRow_at (l : List (Bool × Int)) : ∀ i, i < l.length → (opRow l)[i * 2]? = some (.bool (l[i]?.getD (false, 0)).1) ∧ (opRow l)[i * 2 + 1]? = some (.int .i64 (l[i]?.getD (false, 0)).2) := by
  induction l with
  | nil => intro i h; simp at h
  | cons o l ih =>
    intro i h
    cases i with
    | zero => simp [opRow, opCells]
    | succ i =>
      have := ih i (by simpa using h)
      rw [show (i + 1) * 2 = i * 2 + 2 by omega, show i * 2 + 2 + 1 = (i * 2 + 1) + 2 by omega]
      simpa [opRow, opCells] using this

/-- The slice with this address, length and capacity reads as the list l of changes. -/
def Ops (w : World) (a : Option Addr) (n cap : Nat) (l : List (Bool × Int)) : Prop :=
  l.length = n ∧ n ≤ cap ∧ cap ≤ maxLen ∧
  (n = 0 ∨ ∃ b off, a = some ⟨b, off, none⟩ ∧ b < w.heap.size ∧ ∀ i, i < n → w.cell? ⟨b, off + i * 2, none⟩ = some (.bool (l[i]?.getD (false, 0)).1) ∧ w.cell? ⟨b, off + i * 2 + 1, none⟩ = some (.int .i64 (l[i]?.getD (false, 0)).2))
theorem Ops.below {w w' : World} {a : Option Addr} {n cap : Nat} {l : List (Bool × Int)} (h : Ops w a n cap l) (hb : Below w.heap.size w w') : Ops w' a n cap l := by
  obtain ⟨h1, h2, h3, h4⟩ := h
  refine ⟨h1, h2, h3, ?_⟩
  rcases h4 with h4 | ⟨b, off, ha, hlt, hc⟩
  · exact .inl h4
  · exact .inr ⟨b, off, ha, Nat.lt_of_lt_of_le hlt hb.size, fun i hi => ⟨(hb.cell (p := ⟨b, off + i * 2, none⟩) hlt).trans (hc i hi).1, (hb.cell (p := ⟨b, off + i * 2 + 1, none⟩) hlt).trans (hc i hi).2⟩⟩

theorem below_callD {w wr w2 : World} (h : Below w.heap.size w wr) (hb : Below wr.drew.heap.size wr.drew w2) : Below w.heap.size w w2 :=
  h.drew.trans (hb.mono h.size)
/-- A row of changes whose block, if it has one, is not below lo and below hi. -/
def OwnO (w : World) (lo hi : Nat) (v : Value) (n : Nat) (l : List (Bool × Int)) : Prop :=
  w.ownsRow lo 76 2 v n (opRow l) ∧ lo ≤ hi ∧ hi ≤ w.heap.size ∧ (∀ g, v.ownBlock = some g → g < hi)
theorem OwnO.kept {w w' : World} {lo hi n : Nat} {v : Value} {l : List (Bool × Int)} {row : Option Nat} (h : OwnO w lo hi v n l) (hg : w.grownBy w' row) (hr : ∀ j, row = some j → j < lo ∨ hi ≤ j) : OwnO w' lo hi v n l := by
  obtain ⟨h1, h2, h3, h4⟩ := h
  refine ⟨h1.kept hg ?_, h2, Nat.le_trans h3 hg.size, h4⟩
  cases hv : v.ownBlock with
  | none => exact .inl rfl
  | some g =>
    refine .inr (fun e => ?_)
    have := (h1.lt g hv).1
    have := h4 g hv
    have := hr g e.symm
    omega
theorem OwnO.below {w w' : World} {lo hi n : Nat} {v : Value} {l : List (Bool × Int)} (h : OwnO w lo hi v n l) (hb : Below w.heap.size w w') : OwnO w' lo hi v n l :=
  h.kept (row := none) (Below.grownNone hb _) (fun j e => by cases e)
theorem OwnO.len {w : World} {lo hi n : Nat} {v : Value} {l : List (Bool × Int)} (h : OwnO w lo hi v n l) : l.length = n := by
  have := h.1.1
  rw [opRow_length] at this
  omega
theorem OwnO.ops {w : World} {lo hi n : Nat} {v : Value} {l : List (Bool × Int)} (h : OwnO w lo hi v n l) : ∃ a cap, v = .slice a n cap ∧ Ops w a n cap l := by
  have hl := h.len
  rcases h.1.2 with ⟨rfl, rfl⟩ | ⟨g, cap, cur, rfl, -, hg, h1, h2, h3, h4⟩
  · exact ⟨none, 0, rfl, hl, Nat.le_refl _, by simp [maxLen], .inl rfl⟩
  · refine ⟨_, cap, rfl, hl, h1, h2, .inr ⟨g, 0, rfl, (Array.getElem?_eq_some_iff.1 hg).1, fun i hi => ?_⟩⟩
    have hcell : ∀ j, j < n * 2 → w.cell? ⟨g, j, none⟩ = (opRow l)[j]? := by
      intro j hj
      have : cur[j]? = (opRow l)[j]? := by
        rw [← h4, List.getElem?_take, if_pos hj, Array.getElem?_toList]
      simp [World.cell?, hg, this]
    have := opRow_at l i (by omega)
    rw [Nat.zero_add, hcell _ (by omega), hcell _ (by omega)]
    exact this
theorem OwnO.made {w w' : World} {n : Nat} {v : Value} {l : List (Bool × Int)} (h : w'.ownsRow w.heap.size 76 2 v n (opRow l)) (hs : w.heap.size ≤ w'.heap.size) : OwnO w' w.heap.size w'.heap.size v n l :=
  ⟨h, hs, Nat.le_refl _, fun g hg => (h.lt g hg).2⟩
theorem infoOp : (Tryz.prog.info? 76).map (fun i => (i.zero, i.size, i.bytes)) = some (some (.agg #[.bool false, .int .i64 0]), 2, 16) := by kernel_rfl
theorem cell_two_new (w : World) (p : Bool) (x : Int) (T : TypeId) : ∀ j u, [Value.bool p, Value.int .i64 x][j]? = some u → (w.alloc (.cells #[.bool p, .int .i64 x] T)).cell? ((⟨w.heap.size, 0, none⟩ : Addr).add j) = some u := by
  intro j u h
  match j, h with
  | 0, h => simp at h; subst h; simp [Addr.add, World.cell?_alloc_new]
  | 1, h => simp at h; subst h; simp [Addr.add, World.cell?_alloc_new]
  | j + 2, h => simp at h
theorem two_oneCell (p : Bool) (x : Int) : ∀ u ∈ [Value.bool p, Value.int .i64 x], u.oneCell' = true := by
  intro u h
  simp only [List.mem_cons, List.not_mem_nil, or_false] at h
  rcases h with rfl | rfl <;> rfl

end Go.Proofs.YtolgclajlklmaaaGreat

/-
  Rows of changes of the call's own: compared, marked, held, as the exact laws do.
-/
namespace Go.Proofs.YtolgclajlklmaaaGreat
set_option linter.unusedSimpArgs false
set_option linter.unusedVariables false
open Go.RowKit
/-- The marks of changes from k on. -/
def seqO (k : Int) : Nat → List (Bool × Int)
  | 0 => []
  | n + 1 => (k % 3 == 0, k + 1) :: seqO (k + 2) n
theorem seqO_length (k : Int) (n : Nat) : (seqO k n).length = n := by
  induction n generalizing k with
  | zero => rfl
  | succ n ih => simp [seqO, ih]
theorem seqO_at (k : Int) (n i : Nat) (h : i < n) : (seqO k n)[i]?.getD (false, 0) = ((k + 2 * i) % 3 == 0, k + 2 * i + 1) := by
  induction n generalizing k i with
  | zero => omega
  | succ n ih =>
    cases i with
    | zero => simp [seqO]
    | succ i =>
      simp only [seqO, List.getElem?_cons_succ]
      rw [ih (k + 2) i (by omega), show k + 2 + 2 * (i : Int) = k + 2 * ((i + 1 : Nat) : Int) by omega]
theorem seqO_snoc (k : Int) (n : Nat) : seqO k (n + 1) = seqO k n ++ [((k + 2 * n) % 3 == 0, k + 2 * n + 1)] := by
  induction n generalizing k with
  | zero => simp [seqO]
  | succ n ih =>
    rw [seqO, ih (k + 2), seqO, List.cons_append, show k + 2 + 2 * (n : Int) = k + 2 * ((n + 1 : Nat) : Int) by omega]
def markedO (k : Int) (l : List (Bool × Int)) (i : Nat) : List (Bool × Int) := seqO k i ++ l.drop i
theorem markedO_zero (k : Int) (l : List (Bool × Int)) : markedO k l 0 = l := by simp [markedO, seqO]
theorem markedO_all (k : Int) (l : List (Bool × Int)) : markedO k l l.length = seqO k l.length := by simp [markedO]
theorem opRow_append (a b : List (Bool × Int)) : opRow (a ++ b) = opRow a ++ opRow b := by simp [opRow]
theorem markedO_set (k : Int) (l : List (Bool × Int)) (i : Nat) (h : i < l.length) : ((opRow (markedO k l i)).set (i * 2) (.bool ((k + 2 * i) % 3 == 0))).set (i * 2 + 1) (.int .i64 (k + 2 * i + 1)) = opRow (markedO k l (i + 1)) := by
  obtain ⟨o, t, ht, hd⟩ : ∃ o t, l.drop i = o :: t ∧ l.drop (i + 1) = t := ⟨_, _, List.drop_eq_getElem_cons h, rfl⟩
  unfold markedO
  rw [ht, hd, seqO_snoc, List.append_assoc, opRow_append, opRow_append]
  rw [List.set_append_right _ _ (by rw [opRow_length, seqO_length]; omega), List.set_append_right _ _ (by rw [opRow_length, seqO_length]; omega)]
  rw [opRow_length, seqO_length, Nat.sub_self, show i * 2 + 1 - i * 2 = 1 by omega]
  simp [opRow, opCells]
theorem grownR {a b d : World} {c : Nat} (h : a.grownBy b (some c)) (k : b.grownBy d (some c)) : a.grownBy d (some c) :=
  ⟨k.os.trans h.os, k.tape.trans h.tape, k.output.trans h.output, Nat.le_trans h.size k.size, fun i hi hne => (k.block i (Nat.lt_of_lt_of_le hi h.size) hne).trans (h.block i hi hne)⟩

end Go.Proofs.YtolgclajlklmaaaGreat

/-
  append to a row of one's own: where the row lies afterwards; a variable of seven cells.
-/
namespace Go.Proofs.YtolgclajlklmaaaGreat
set_option linter.unusedSimpArgs false
set_option linter.unusedVariables false
open Go.RowKit

theorem append_where {P : Program} (w : World) (base : Nat) (t ty e : TypeId) (i : TypeInfo) (z : Value) (size bytes : Nat) (ht : P.underlying t = some (.slice e)) (hi : P.info? e = some i) (hz : i.zero = some z)
    (hsize : i.size = size) (hby : i.bytes = bytes) (hzs : z.cells.size = size) (hsz : 0 < size)
    (v : Value) (n : Nat) (xs : List Value) (hown : w.ownsRow base e size v n xs)
    (a : Addr) (m c : Nat) (news : List Value) (hl : news.length = m * size) (hnews : ∀ j u, news[j]? = some u → w.cell? (a.add j) = some u) (h1 : ∀ u ∈ news, u.oneCell' = true)
    (h63 : n + m ≤ maxLen) (hbytes : (n + m) * bytes ≤ 140737488355328) (hbase : base ≤ w.heap.size) :
    ∃ v' w', (Builtin.append_ #[t, t] ty #[v, .slice (some a) m c]).run P w = .ok v' w' ∧ w'.ownsRow base e size v' (n + m) (xs ++ news) ∧ w.grownBy w' v.ownBlock ∧ (v'.ownBlock = v.ownBlock ∨ ∃ g, v'.ownBlock = some g ∧ w.heap.size ≤ g) := by
  obtain ⟨v', w', hrun, hown', hgrow, hnil⟩ := run_append_own w base t ty e i z size bytes ht hi hz hsize hby hzs hsz v n xs hown a m c news hl hnews h1 h63 hbytes hbase
  refine ⟨v', w', hrun, hown', hgrow, ?_⟩
  have hm63 : n + m ≤ 9223372036854775807 := by unfold maxLen at h63; omega
  have hs : Src P i.size t (.slice (some a) m c) m news w := Src.ofSlice w ht a m c news (by rw [hsize]; exact hl) hnews h1
  rcases hown.2 with ⟨rfl, rfl⟩ | ⟨g, cap, cur, rfl, hb, hh, k1, k2, k3, k4⟩
  · by_cases hm : m = 0
    · rw [hnil.2 ⟨rfl, hm⟩]
      exact .inl rfl
    · have hr := run_append_grow_src (P := P) w t t ty e i z ht hi hz none 0 0 [] (by simpa using run_firstCells_none (P := P) w.drew i.size 0 0 0) (.slice (some a) m c) m news hs (by omega) (by omega) (growslice_fits (by omega) (by rw [hby]; exact hbytes))
      rw [hrun] at hr
      simp only [Result.ok.injEq] at hr
      rw [hr.1]
      exact .inr ⟨_, rfl, Nat.le_refl _⟩
  · by_cases hroom : n + m ≤ cap
    · have hr := run_append_room_src (P := P) w t t ty e i ht hi g 0 n cap (.slice (some a) m c) m news hs hroom
        (fun j hj => by
          have hlt : 0 + n * i.size + j < cur.size := by
            rw [k3, hsize]
            rw [hl] at hj
            have := Nat.mul_le_mul_right size hroom
            rw [Nat.add_mul] at this
            omega
          simp [World.cell?, hh]
          rw [hsize] at hlt ⊢
          omega)
        (fun j hj => by simp [World.frozen?, hh])
      rw [hrun] at hr
      simp only [Result.ok.injEq] at hr
      rw [hr.1]
      exact .inl rfl
    · have hxs : xs.length = n * size := hown.1
      have hr := run_append_grow_src (P := P) w t t ty e i z ht hi hz (some ⟨g, 0, none⟩) n cap xs
        (run_firstCells_some (P := P) w.drew i.size n ⟨g, 0, none⟩ n cap xs (by rw [hsize]; exact hxs) (fun j u hj => by
          have hjn : j < n * size := by rw [← hxs]; exact (List.getElem?_eq_some_iff.1 hj).1
          rw [Addr.add_lit, Nat.zero_add]
          show w.cell? ⟨g, j, none⟩ = some u
          have hcur : cur[j]? = some u := by
            rw [← hj, ← k4, List.getElem?_take, if_pos hjn, Array.getElem?_toList]
          simp [World.cell?, hh, hcur]))
        (.slice (some a) m c) m news hs (by omega) (by omega) (growslice_fits (by omega) (by rw [hby]; exact hbytes))
      rw [hrun] at hr
      simp only [Result.ok.injEq] at hr
      rw [hr.1]
      exact .inr ⟨_, rfl, Nat.le_refl _⟩

theorem wpList_append_where {P : Program} {w : World} {ops : Array Oper} {rest : List Oper} {o : Oper} {a : Act} {Q : Exit → Act → World → Prop} (hgd : o.guard = none) (s x : Operand) (t : TypeId)
    (ho : o.op = .call { callee := .builtin .append, args := #[s, x], argTypes := #[t, t] })
    (base : Nat) (e : TypeId) (i : TypeInfo) (z : Value) (size bytes : Nat) (ht : P.underlying t = some (.slice e)) (hi : P.info? e = some i) (hz : i.zero = some z)
    (hsize : i.size = size) (hby : i.bytes = bytes) (hzs : z.cells.size = size) (hsz : 0 < size)
    (v : Value) (n : Nat) (xs : List Value) (hs : a.eval s = v) (hown : w.ownsRow base e size v n xs)
    (ad : Addr) (m c : Nat) (news : List Value) (hx : a.eval x = .slice (some ad) m c) (hl : news.length = m * size) (hnews : ∀ j u, news[j]? = some u → w.cell? (ad.add j) = some u) (h1 : ∀ u ∈ news, u.oneCell' = true)
    (h63 : n + m ≤ maxLen) (hbytes : (n + m) * bytes ≤ 140737488355328) (hbase : base ≤ w.heap.size)
    (h : ∀ v' w', w'.ownsRow base e size v' (n + m) (xs ++ news) → w.grownBy w' v.ownBlock → (v'.ownBlock = v.ownBlock ∨ ∃ g, v'.ownBlock = some g ∧ w.heap.size ≤ g) → wpList P ops Q rest (a.put o.dst v') w') : wpList P ops Q (o :: rest) a w := by
  obtain ⟨v', w', hrun, h2, h3, h4⟩ := append_where w base t o.type e i z size bytes ht hi hz hsize hby hzs hsz v n xs hown ad m c news hl hnews h1 h63 hbytes hbase
  exact Lib.wpList_append_run w hgd s x t t ho v _ hs hx v' w' hrun (h v' w' h2 h3 h4)

/-- A variable of seven cells: its block. -/
def Box7 (w : World) (c : Nat) (T : TypeId) (v0 v1 v2 v3 v4 v5 v6 : Value) : Prop := w.heap[c]? = some (.cells #[v0, v1, v2, v3, v4, v5, v6] T (0, 0))
section
variable {w w' : World} {c d : Nat} {T : TypeId} {v0 v1 v2 v3 v4 v5 v6 : Value}
theorem Box7.new (w : World) (T : TypeId) (v0 v1 v2 v3 v4 v5 v6 : Value) : Box7 (w.alloc (.cells #[v0, v1, v2, v3, v4, v5, v6] T)) w.heap.size T v0 v1 v2 v3 v4 v5 v6 := heap_alloc_new w _
theorem Box7.lt (h : Box7 w c T v0 v1 v2 v3 v4 v5 v6) : c < w.heap.size := (Array.getElem?_eq_some_iff.1 h).1
theorem Box7.below {B : Nat} (h : Box7 w c T v0 v1 v2 v3 v4 v5 v6) (hb : Below B w w') (hc : c < B) : Box7 w' c T v0 v1 v2 v3 v4 v5 v6 := (hb.block c hc).trans h
theorem Box7.call (h : Box7 w c T v0 v1 v2 v3 v4 v5 v6) (hb : Below w.heap.size w w') : Box7 w' c T v0 v1 v2 v3 v4 v5 v6 := h.below hb h.lt
theorem Box7.callD (h : Box7 w c T v0 v1 v2 v3 v4 v5 v6) (hb : Below w.drew.heap.size w.drew w') : Box7 w' c T v0 v1 v2 v3 v4 v5 v6 := Box7.call (w := w.drew) h hb
theorem Box7.alloc (h : Box7 w c T v0 v1 v2 v3 v4 v5 v6) (o : Obj) : Box7 (w.alloc o) c T v0 v1 v2 v3 v4 v5 v6 := h.call ((Below.refl _ _).alloc (Nat.le_refl _) _)
theorem Box7.grown {row : Option Nat} (h : Box7 w c T v0 v1 v2 v3 v4 v5 v6) (hg : w.grownBy w' row) (hr : row ≠ some c) : Box7 w' c T v0 v1 v2 v3 v4 v5 v6 := (hg.block c h.lt (fun e => hr e.symm)).trans h
theorem Box7.cells (h : Box7 w c T v0 v1 v2 v3 v4 v5 v6) :
    w.cell? ⟨c, 0, none⟩ = some v0 ∧ w.cell? ⟨c, 1, none⟩ = some v1 ∧ w.cell? ⟨c, 2, none⟩ = some v2 ∧ w.cell? ⟨c, 3, none⟩ = some v3 ∧ w.cell? ⟨c, 4, none⟩ = some v4 ∧ w.cell? ⟨c, 5, none⟩ = some v5 ∧ w.cell? ⟨c, 6, none⟩ = some v6 := by
  unfold Box7 at h
  refine ⟨?_, ?_, ?_, ?_, ?_, ?_, ?_⟩ <;> simp [World.cell?, h]
theorem Box7.free (h : Box7 w c T v0 v1 v2 v3 v4 v5 v6) (o : Nat) : w.frozen? ⟨c, o, none⟩ = false := by
  unfold Box7 at h
  simp [World.frozen?, h]
theorem Box7.set0 (h : Box7 w c T v0 v1 v2 v3 v4 v5 v6) (u : Value) : Box7 (w.setCell ⟨c, 0, none⟩ u) c T u v1 v2 v3 v4 v5 v6 := by unfold Box7 at *; simp [World.setCell, Array.getElem?_modify, h]
theorem Box7.set1 (h : Box7 w c T v0 v1 v2 v3 v4 v5 v6) (u : Value) : Box7 (w.setCell ⟨c, 1, none⟩ u) c T v0 u v2 v3 v4 v5 v6 := by unfold Box7 at *; simp [World.setCell, Array.getElem?_modify, h]
theorem Box7.set2 (h : Box7 w c T v0 v1 v2 v3 v4 v5 v6) (u : Value) : Box7 (w.setCell ⟨c, 2, none⟩ u) c T v0 v1 u v3 v4 v5 v6 := by unfold Box7 at *; simp [World.setCell, Array.getElem?_modify, h]
theorem Box7.set3 (h : Box7 w c T v0 v1 v2 v3 v4 v5 v6) (u : Value) : Box7 (w.setCell ⟨c, 3, none⟩ u) c T v0 v1 v2 u v4 v5 v6 := by unfold Box7 at *; simp [World.setCell, Array.getElem?_modify, h]
theorem Box7.set4 (h : Box7 w c T v0 v1 v2 v3 v4 v5 v6) (u : Value) : Box7 (w.setCell ⟨c, 4, none⟩ u) c T v0 v1 v2 v3 u v5 v6 := by unfold Box7 at *; simp [World.setCell, Array.getElem?_modify, h]
theorem Box7.set5 (h : Box7 w c T v0 v1 v2 v3 v4 v5 v6) (u : Value) : Box7 (w.setCell ⟨c, 5, none⟩ u) c T v0 v1 v2 v3 v4 u v6 := by unfold Box7 at *; simp [World.setCell, Array.getElem?_modify, h]
theorem Box7.set6 (h : Box7 w c T v0 v1 v2 v3 v4 v5 v6) (u : Value) : Box7 (w.setCell ⟨c, 6, none⟩ u) c T v0 v1 v2 v3 v4 v5 u := by unfold Box7 at *; simp [World.setCell, Array.getElem?_modify, h]
theorem Box7.other (h : Box7 w c T v0 v1 v2 v3 v4 v5 v6) (hd : c ≠ d) (o : Nat) (u : Value) : Box7 (w.setCell ⟨d, o, none⟩ u) c T v0 v1 v2 v3 v4 v5 v6 := by
  unfold Box7 at *
  rw [Below.heap_setCell _ _ _ _ (by simpa using hd)]
  exact h
end
theorem Box.call {w w' : World} {c : Nat} {T : TypeId} {x y z : Int} (h : Box w c T x y z) (hb : Below w.heap.size w w') : Box w' c T x y z := h.below hb h.lt
theorem Box.callD {w w' : World} {c : Nat} {T : TypeId} {x y z : Int} (h : Box w c T x y z) (hb : Below w.drew.heap.size w.drew w') : Box w' c T x y z := Box.call (w := w.drew) h hb
theorem Box.alloc {w : World} {c : Nat} {T : TypeId} {x y z : Int} (h : Box w c T x y z) (o : Obj) : Box (w.alloc o) c T x y z := h.call ((Below.refl _ _).alloc (Nat.le_refl _) _)
theorem Box.grew {w w' : World} {c : Nat} {T : TypeId} {x y z : Int} {row : Option Nat} (h : Box w c T x y z) (hg : w.grownBy w' row) (hr : row ≠ some c) : Box w' c T x y z := (hg.block c h.lt (fun e => hr e.symm)).trans h
end Go.Proofs.YtolgclajlklmaaaGreat

/-
  Rows of aggregates: a slice of triples of numbers; rows of the call's own; comparison, marks, copies.
-/
namespace Go.Proofs.YtolgclajlklmaaaGreat
set_option linter.unusedSimpArgs false
set_option linter.unusedVariables false
open Go.RowKit

def valCells (v : Agg.V) : List Value := [.int .i64 v.x, .int .i64 v.y, .int .i64 v.z]
def valRow (l : List Agg.V) : List Value := l.flatMap valCells
theorem valRow_nil : valRow [] = [] := rfl
theorem valRow_append (a b : List Agg.V) : valRow (a ++ b) = valRow a ++ valRow b := by simp [valRow]
theorem valRow_snoc (l : List Agg.V) (v : Agg.V) : valRow (l ++ [v]) = valRow l ++ [.int .i64 v.x, .int .i64 v.y, .int .i64 v.z] := by simp [valRow, valCells]
theorem valRow_length (l : List Agg.V) : (valRow l).length = l.length * 3 := by
  induction l with
  | nil => rfl
  | cons o l ih => simp only [valRow, List.flatMap_cons, List.length_append] at ih ⊢; simp [valCells, ih]; omega
theorem valRow_at (l : List Agg.V) : ∀ i, i < l.length → (valRow l)[i * 3]? = some (.int .i64 (l[i]?.getD Agg.zero).x) ∧ (valRow l)[i * 3 + 1]? = some (.int .i64 (l[i]?.getD Agg.zero).y) ∧ (valRow l)[i * 3 + 2]? = some (.int .i64 (l[i]?.getD Agg.zero).z) := by
  induction l with
  | nil => intro i h; simp at h
  | cons o l ih =>
    intro i h
    cases i with
    | zero => simp [valRow, valCells]
    | succ i =>
      have := ih i (by simpa using h)
      rw [show (i + 1) * 3 = i * 3 + 3 by omega, show i * 3 + 3 + 1 = (i * 3 + 1) + 3 by omega, show i * 3 + 3 + 2 = (i * 3 + 2) + 3 by omega]
      simpa [valRow, valCells] using this

/-- The slice with this address, length and capacity reads as the list l of aggregates. -/
def Vals (w : World) (a : Option Addr) (n cap : Nat) (l : List Agg.V) : Prop :=
  l.length = n ∧ n ≤ cap ∧ cap ≤ maxLen ∧
  (n = 0 ∨ ∃ b off, a = some ⟨b, off, none⟩ ∧ b < w.heap.size ∧ ∀ i, i < n → w.cell? ⟨b, off + i * 3, none⟩ = some (.int .i64 (l[i]?.getD Agg.zero).x) ∧ w.cell? ⟨b, off + i * 3 + 1, none⟩ = some (.int .i64 (l[i]?.getD Agg.zero).y) ∧ w.cell? ⟨b, off + i * 3 + 2, none⟩ = some (.int .i64 (l[i]?.getD Agg.zero).z))
theorem Vals.below {w w' : World} {a : Option Addr} {n cap : Nat} {l : List Agg.V} (h : Vals w a n cap l) (hb : Below w.heap.size w w') : Vals w' a n cap l := by
  obtain ⟨h1, h2, h3, h4⟩ := h
  refine ⟨h1, h2, h3, ?_⟩
  rcases h4 with h4 | ⟨b, off, ha, hlt, hc⟩
  · exact .inl h4
  · exact .inr ⟨b, off, ha, Nat.lt_of_lt_of_le hlt hb.size, fun i hi => ⟨(hb.cell (p := ⟨b, off + i * 3, none⟩) hlt).trans (hc i hi).1, (hb.cell (p := ⟨b, off + i * 3 + 1, none⟩) hlt).trans (hc i hi).2.1, (hb.cell (p := ⟨b, off + i * 3 + 2, none⟩) hlt).trans (hc i hi).2.2⟩⟩

theorem v_below_callD {w wr w2 : World} (h : Below w.heap.size w wr) (hb : Below wr.drew.heap.size wr.drew w2) : Below w.heap.size w w2 :=
  h.drew.trans (hb.mono h.size)
/-- A row of aggregates whose block, if it has one, is not below lo and below hi. -/
def OwnV (w : World) (lo hi : Nat) (v : Value) (n : Nat) (l : List Agg.V) : Prop :=
  w.ownsRow lo 40 3 v n (valRow l) ∧ lo ≤ hi ∧ hi ≤ w.heap.size ∧ (∀ g, v.ownBlock = some g → g < hi)
theorem OwnV.kept {w w' : World} {lo hi n : Nat} {v : Value} {l : List Agg.V} {row : Option Nat} (h : OwnV w lo hi v n l) (hg : w.grownBy w' row) (hr : ∀ j, row = some j → j < lo ∨ hi ≤ j) : OwnV w' lo hi v n l := by
  obtain ⟨h1, h2, h3, h4⟩ := h
  refine ⟨h1.kept hg ?_, h2, Nat.le_trans h3 hg.size, h4⟩
  cases hv : v.ownBlock with
  | none => exact .inl rfl
  | some g =>
    refine .inr (fun e => ?_)
    have := (h1.lt g hv).1
    have := h4 g hv
    have := hr g e.symm
    omega
theorem OwnV.below {w w' : World} {lo hi n : Nat} {v : Value} {l : List Agg.V} (h : OwnV w lo hi v n l) (hb : Below w.heap.size w w') : OwnV w' lo hi v n l :=
  h.kept (row := none) (Below.grownNone hb _) (fun j e => by cases e)
theorem OwnV.len {w : World} {lo hi n : Nat} {v : Value} {l : List Agg.V} (h : OwnV w lo hi v n l) : l.length = n := by
  have := h.1.1
  rw [valRow_length] at this
  omega
theorem OwnV.vals {w : World} {lo hi n : Nat} {v : Value} {l : List Agg.V} (h : OwnV w lo hi v n l) : ∃ a cap, v = .slice a n cap ∧ Vals w a n cap l := by
  have hl := h.len
  rcases h.1.2 with ⟨rfl, rfl⟩ | ⟨g, cap, cur, rfl, -, hg, h1, h2, h3, h4⟩
  · exact ⟨none, 0, rfl, hl, Nat.le_refl _, by simp [maxLen], .inl rfl⟩
  · refine ⟨_, cap, rfl, hl, h1, h2, .inr ⟨g, 0, rfl, (Array.getElem?_eq_some_iff.1 hg).1, fun i hi => ?_⟩⟩
    have hcell : ∀ j, j < n * 3 → w.cell? ⟨g, j, none⟩ = (valRow l)[j]? := by
      intro j hj
      have : cur[j]? = (valRow l)[j]? := by
        rw [← h4, List.getElem?_take, if_pos hj, Array.getElem?_toList]
      simp [World.cell?, hg, this]
    have := valRow_at l i (by omega)
    rw [Nat.zero_add, hcell _ (by omega), hcell _ (by omega), hcell _ (by omega)]
    exact this
theorem OwnV.made {w w' : World} {n : Nat} {v : Value} {l : List Agg.V} (h : w'.ownsRow w.heap.size 40 3 v n (valRow l)) (hs : w.heap.size ≤ w'.heap.size) : OwnV w' w.heap.size w'.heap.size v n l :=
  ⟨h, hs, Nat.le_refl _, fun g hg => (h.lt g hg).2⟩
theorem infoVal : (Tryz.prog.info? 40).map (fun i => (i.zero, i.size, i.bytes)) = some (some (.agg #[.int .i64 0, .int .i64 0, .int .i64 0]), 3, 24) := by kernel_rfl
theorem cell_three_new (w : World) (x y z : Int) (T : TypeId) : ∀ j u, [Value.int .i64 x, Value.int .i64 y, Value.int .i64 z][j]? = some u → (w.alloc (.cells #[.int .i64 x, .int .i64 y, .int .i64 z] T)).cell? ((⟨w.heap.size, 0, none⟩ : Addr).add j) = some u := by
  intro j u h
  match j, h with
  | 0, h => simp at h; subst h; simp [Addr.add, World.cell?_alloc_new]
  | 1, h => simp at h; subst h; simp [Addr.add, World.cell?_alloc_new]
  | 2, h => simp at h; subst h; simp [Addr.add, World.cell?_alloc_new]
  | j + 3, h => simp at h
theorem three_oneCell (x y z : Int) : ∀ u ∈ [Value.int .i64 x, Value.int .i64 y, Value.int .i64 z], u.oneCell' = true := by
  intro u h
  simp only [List.mem_cons, List.not_mem_nil, or_false] at h
  rcases h with rfl | rfl | rfl <;> rfl

theorem eqValue_same (x y z : Int) (w : World) :
    Calls Tryz.prog 64 #[.agg #[.int .i64 x, .int .i64 y, .int .i64 z], .agg #[.int .i64 x, .int .i64 y, .int .i64 z]] w fun e w' => e = .returned (.bool true) ∧ Below w.heap.size w w' := by
  go_enter Tryz.func64, Tryz.ntmps64
  go_wp2
  go_returns
  exact ⟨rfl, (by first | (go_grown; done) | (refine below_drewN ?_ _; go_grown; done) | (refine (below_drewN _ ?_); go_grown; done))⟩
set_option maxHeartbeats 1000000 in
theorem eqValueS_same (a1 : Option Addr) (n1 cap1 : Nat) (a2 : Option Addr) (n2 cap2 : Nat) (l : List Agg.V) (w : World) (h1 : Vals w a1 n1 cap1 l) (h2 : Vals w a2 n2 cap2 l) :
    Calls Tryz.prog 20 #[.slice a1 n1 cap1, .slice a2 n2 cap2] w fun e w' => e = .returned (.bool true) ∧ Below w.heap.size w w' := by
  obtain ⟨hl1, hcap1, hm1, h41⟩ := h1
  obtain ⟨hl2, hcap2, hm2, h42⟩ := h2
  obtain rfl : n1 = n2 := by omega
  unfold maxLen at hm1
  have HL := Lib.hid hl1; clear hl1 hl2 hm2 hcap2
  have H1 := Lib.hid h41; clear h41
  have H2 := Lib.hid h42; clear h42
  go_enter Tryz.func20, Tryz.ntmps20
  go_wp2
  go_loopw [5] (fun i wr => ∃ k : Nat, k ≤ n1 ∧ i = .int .i64 k ∧ Hid (Below w.heap.size w wr)) (fun i _ => n1 - (intOf i).toNat)
  case atStart => exact ⟨0, Nat.zero_le _, rfl, Below.refl _ _⟩
  case round =>
    obtain ⟨k, hk, rfl, HW⟩ := hrel
    by_cases hlt : k < n1
    · rcases H1.out with h4 | ⟨b, off, rfl, hb, hcs⟩
      · omega
      · rcases H2.out with h4 | ⟨b', off', rfl, hb', hcs'⟩
        · omega
        · have hck := (HW.out.cell (p := ⟨b, off + k * 3, none⟩) hb).trans (hcs k hlt).1
          have hcl := (HW.out.cell (p := ⟨b, off + k * 3 + 1, none⟩) hb).trans (hcs k hlt).2.1
          have hcm := (HW.out.cell (p := ⟨b, off + k * 3 + 2, none⟩) hb).trans (hcs k hlt).2.2
          have hck' := (HW.out.cell (p := ⟨b', off' + k * 3, none⟩) hb').trans (hcs' k hlt).1
          have hcl' := (HW.out.cell (p := ⟨b', off' + k * 3 + 1, none⟩) hb').trans (hcs' k hlt).2.1
          have hcm' := (HW.out.cell (p := ⟨b', off' + k * 3 + 2, none⟩) hb').trans (hcs' k hlt).2.2
          clear hcs hcs'
          obtain ⟨⟨x, y, z⟩, hx⟩ : ∃ x, x = l[k]?.getD Agg.zero := ⟨_, rfl⟩
          rw [← hx] at hck hck' hcl hcl' hcm hcm'
          clear hx
          have hk0 : (0 : Int) ≤ (k : Int) := Int.natCast_nonneg _
          have hkn : (k : Int) < (n1 : Int) := by omega
          go_wp2
          go_region_with (go_at_call 64; refine (eqValue_same _ _ _ _).mono ?_; rintro e w2 ⟨rfl, hb2⟩; have HW2 := Lib.hid (v_below_callD HW.out hb2); clear hb2)
          all_goals
            go_wp2
            go_roundw
            case rel => exact ⟨k + 1, by omega, by go_num, HW2.out⟩
            case measure => simp [intOf]; omega
    · have hlt' : n1 ≤ k := by omega
      clear hlt
      go_wp2
      go_returns
      exact ⟨rfl, HW.out⟩
theorem eqValueS_own {lo hi n lo' hi' n' : Nat} {v v' : Value} {l : List Agg.V} (w : World) (h : OwnV w lo hi v n l) (h' : OwnV w lo' hi' v' n' l) :
    Calls Tryz.prog 20 #[v, v'] w fun e w' => e = .returned (.bool true) ∧ Below w.heap.size w w' := by
  obtain ⟨a, cap, rfl, hN⟩ := h.vals
  obtain ⟨a', cap', rfl, hN'⟩ := h'.vals
  exact eqValueS_same _ _ _ _ _ _ l _ hN hN'
end Go.Proofs.YtolgclajlklmaaaGreat

/-
  Variables just made; stacks whose rows are the call's own; a row copied behind an empty one.
-/
namespace Go.Proofs.YtolgclajlklmaaaGreat
set_option linter.unusedSimpArgs false
set_option linter.unusedVariables false
open Go.RowKit
theorem Box.new1 {Y : World} {g : Nat} (T : TypeId) (x y z : Int) (hg : g = Y.heap.size) : Box (Y.alloc (.cells #[.int .i64 x, .int .i64 y, .int .i64 z] T)) g T x y z := by
  subst hg; exact Box.new Y T x y z
theorem Box7.new1 {Y : World} {g : Nat} (T : TypeId) (v0 v1 v2 v3 v4 v5 v6 : Value) (hg : g = Y.heap.size) : Box7 (Y.alloc (.cells #[v0, v1, v2, v3, v4, v5, v6] T)) g T v0 v1 v2 v3 v4 v5 v6 := by
  subst hg; exact Box7.new Y T v0 v1 v2 v3 v4 v5 v6
/-- Stacks whose two rows are the call's own. -/
def StkOwn (w : World) (lo hi : Nat) (v : Value) (s : Agg.S) : Prop :=
  ∃ fv iv, v = .agg #[fv, iv, .int .i64 s.back.x, .int .i64 s.back.y, .int .i64 s.back.z, .int .i64 s.flips, .int .i64 s.cost] ∧ OwnV w lo hi fv s.front.length s.front ∧ OwnR w lo hi iv s.items.length s.items
theorem StkOwn.kept {w w' : World} {lo hi : Nat} {v : Value} {s : Agg.S} {row : Option Nat} (h : StkOwn w lo hi v s) (hg : w.grownBy w' row) (hr : ∀ j, row = some j → j < lo ∨ hi ≤ j) : StkOwn w' lo hi v s := by
  obtain ⟨fv, iv, hv, h1, h2⟩ := h
  exact ⟨fv, iv, hv, h1.kept hg hr, h2.kept hg hr⟩
theorem StkOwn.below {w w' : World} {lo hi : Nat} {v : Value} {s : Agg.S} (h : StkOwn w lo hi v s) (hb : Below w.heap.size w w') : StkOwn w' lo hi v s :=
  h.kept (row := none) (Below.grownNone hb _) (fun j e => by cases e)
/-- As an argument: its slices written out, and what they read as. -/
theorem StkOwn.read {w : World} {lo hi : Nat} {v : Value} {s : Agg.S} (h : StkOwn w lo hi v s) : ∃ fa fc ia ic, v = .agg #[.slice fa s.front.length fc, .slice ia s.items.length ic, .int .i64 s.back.x, .int .i64 s.back.y, .int .i64 s.back.z, .int .i64 s.flips, .int .i64 s.cost] ∧ Vals w fa s.front.length fc s.front ∧ Nums .i64 w ia s.items.length ic s.items := by
  obtain ⟨fv, iv, rfl, h1, h2⟩ := h
  obtain ⟨fa, fc, rfl, hF⟩ := h1.vals
  obtain ⟨ia, ic, rfl, hI, -⟩ := h2.nums
  exact ⟨fa, fc, ia, ic, rfl, hF, hI⟩
theorem vals_news {w : World} {b off n cap : Nat} {l : List Agg.V} (h : Vals w (some ⟨b, off, none⟩) n cap l) : ∀ j u, (valRow l)[j]? = some u → w.cell? ((⟨b, off, none⟩ : Addr).add j) = some u := by
  intro j u hj
  obtain ⟨h1, h2, h3, h4⟩ := h
  have hjl : j < l.length * 3 := by rw [← valRow_length]; exact (List.getElem?_eq_some_iff.1 hj).1
  rcases h4 with h4 | ⟨b', off', ha, hb, hc⟩
  · omega
  · simp only [Option.some.injEq, Addr.mk.injEq, and_true] at ha
    obtain ⟨rfl, rfl⟩ := ha
    rw [Addr.add_lit]
    obtain ⟨q, hq⟩ : ∃ q, j = q * 3 ∨ j = q * 3 + 1 ∨ j = q * 3 + 2 := ⟨j / 3, by omega⟩
    have hqn : q < l.length := by omega
    have hv := valRow_at l q hqn
    have hw := hc q (by omega)
    rcases hq with rfl | rfl | rfl
    · rw [hv.1] at hj; rw [← hj]; exact hw.1
    · rw [hv.2.1] at hj; rw [← hj, ← Nat.add_assoc]; exact hw.2.1
    · rw [hv.2.2] at hj; rw [← hj, ← Nat.add_assoc]; exact hw.2.2
theorem valRow_oneCell (l : List Agg.V) : ∀ u ∈ valRow l, u.oneCell' = true := by
  intro u hu
  simp only [valRow, List.mem_flatMap] at hu
  obtain ⟨v, -, hv⟩ := hu
  exact three_oneCell _ _ _ u hv
/-- What a slice that is read holds, as the source of an append. -/
def SrcOk (w : World) (ax : Option Addr) (m size : Nat) (news : List Value) : Prop :=
  (ax = none → m = 0 ∧ news = []) ∧ (∀ ad, ax = some ad → ∀ j u, news[j]? = some u → w.cell? (ad.add j) = some u) ∧ news.length = m * size ∧ ∀ u ∈ news, u.oneCell' = true
theorem Vals.src {w : World} {a : Option Addr} {n cap : Nat} {l : List Agg.V} (h : Vals w a n cap l) : SrcOk w a n 3 (valRow l) := by
  refine ⟨?_, ?_, by rw [valRow_length, h.1], valRow_oneCell l⟩
  · intro ha
    subst ha
    rcases h.2.2.2 with h0 | ⟨b, off, ha, -⟩
    · have : l = [] := List.eq_nil_of_length_eq_zero (by rw [h.1]; exact h0)
      subst this
      exact ⟨h0, rfl⟩
    · cases ha
  · intro ad ha j u hj
    subst ha
    rcases h.2.2.2 with h0 | ⟨b, off, ha, hrest⟩
    · have : l = [] := List.eq_nil_of_length_eq_zero (by rw [h.1]; exact h0)
      subst this
      simp [valRow] at hj
    · obtain rfl := Option.some.inj ha
      exact vals_news h j u hj
theorem Nums.src {w : World} {a : Option Addr} {n cap : Nat} {l : List Int} (h : Nums .i64 w a n cap l) : SrcOk w a n 1 (l.map (Value.int .i64)) := by
  refine ⟨?_, ?_, by simp [h.1], fun u hu => by obtain ⟨x, -, rfl⟩ := List.mem_map.1 hu; rfl⟩
  · intro ha
    subst ha
    rcases h.2.2.2 with h0 | ⟨b, off, ha, -⟩
    · have : l = [] := List.eq_nil_of_length_eq_zero (by rw [h.1]; exact h0)
      subst this
      exact ⟨h0, rfl⟩
    · cases ha
  · intro ad ha j u hj
    subst ha
    have hl := h.1
    rcases h.2.2.2 with h0 | ⟨b, off, ha, hb, hc⟩
    · have : l = [] := List.eq_nil_of_length_eq_zero (by rw [h.1]; exact h0)
      subst this
      simp at hj
    · obtain rfl := Option.some.inj ha
      have hjl : j < l.length := by have := (List.getElem?_eq_some_iff.1 hj).1; simpa using this
      rw [Addr.add_lit, hc j (by omega), List.getElem?_eq_getElem hjl]
      simp [List.getElem?_map, List.getElem?_eq_getElem hjl] at hj ⊢
      exact hj
/-- append of a slice to an empty row that was just made. -/
theorem wpList_append_copy {P : Program} {w : World} {ops : Array Oper} {rest : List Oper} {o : Oper} {a : Act} {Q : Exit → Act → World → Prop} (hgd : o.guard = none) (s x : Operand) (t : TypeId)
    (ho : o.op = .call { callee := .builtin .append, args := #[s, x], argTypes := #[t, t] })
    (e : TypeId) (i : TypeInfo) (z : Value) (size bytes : Nat) (ht : P.underlying t = some (.slice e)) (hi : P.info? e = some i) (hz : i.zero = some z)
    (hsize : i.size = size) (hby : i.bytes = bytes) (hzs : z.cells.size = size) (hsz : 0 < size)
    (g : Nat) (hs : a.eval s = .slice (some ⟨g, 0, none⟩) 0 0) (hg : w.heap[g]? = some (.cells #[] e (0, 0)))
    (ax : Option Addr) (m c : Nat) (news : List Value) (hx : a.eval x = .slice ax m c) (hsrc : SrcOk w ax m size news)
    (h63 : m ≤ maxLen) (hbytes : m * bytes ≤ 140737488355328)
    (h : ∀ v' w', w'.ownsRow g e size v' m news → w.grownBy w' (some g) → wpList P ops Q rest (a.put o.dst v') w') : wpList P ops Q (o :: rest) a w := by
  have hgl : g < w.heap.size := (Array.getElem?_eq_some_iff.1 hg).1
  have hown : w.ownsRow g e size (.slice (some ⟨g, 0, none⟩) 0 0) 0 [] := ⟨by simp, .inr ⟨g, 0, _, rfl, Nat.le_refl _, hg, Nat.le_refl _, by simp, by simp, by simp⟩⟩
  obtain ⟨s1, s2, s3, s4⟩ := hsrc
  cases ax with
  | none =>
    obtain ⟨rfl, rfl⟩ := s1 rfl
    have hs0 : Src P i.size t (.slice none 0 c) 0 [] w := Src.ofNil w ht c
    have hr := run_append_room_src (P := P) w t t o.type e i ht hi g 0 0 0 (.slice none 0 c) 0 [] hs0 (by omega) (fun j hj => by simp at hj) (fun j hj => by simp at hj)
    refine Lib.wpList_append_run w hgd s x t t ho _ _ hs hx _ _ hr (h _ _ ?_ ?_)
    · exact ⟨by simp, .inr ⟨g, 0, _, rfl, Nat.le_refl _, hg, Nat.le_refl _, by simp, by simp, by simp⟩⟩
    · exact ⟨rfl, rfl, rfl, Nat.le_refl _, fun _ _ _ => rfl⟩
  | some ad =>
    obtain ⟨v', w', hrun, h2, h3, -⟩ := append_where w g t o.type e i z size bytes ht hi hz hsize hby hzs hsz _ 0 [] hown ad m c news s3 (s2 ad rfl) s4 (by omega) (by simpa using hbytes) (Nat.le_of_lt hgl)
    exact Lib.wpList_append_run w hgd s x t t ho _ _ hs hx v' w' hrun (h v' w' (by simpa using h2) h3)
end Go.Proofs.YtolgclajlklmaaaGreat

/-
  Rows of aggregates: marked, held, copied, as the exact laws do.
-/
namespace Go.Proofs.YtolgclajlklmaaaGreat
set_option linter.unusedSimpArgs false
set_option linter.unusedVariables false
open Go.RowKit
/-- The marks of aggregates from k on. -/
def seqV (k : Int) : Nat → List Agg.V
  | 0 => []
  | n + 1 => ⟨k, k + 1, k + 2⟩ :: seqV (k + 3) n
theorem seqV_length (k : Int) (n : Nat) : (seqV k n).length = n := by
  induction n generalizing k with
  | zero => rfl
  | succ n ih => simp [seqV, ih]
theorem seqV_at (k : Int) (n i : Nat) (h : i < n) : (seqV k n)[i]?.getD Agg.zero = ⟨k + 3 * i, k + 3 * i + 1, k + 3 * i + 2⟩ := by
  induction n generalizing k i with
  | zero => omega
  | succ n ih =>
    cases i with
    | zero => simp [seqV]
    | succ i =>
      simp only [seqV, List.getElem?_cons_succ]
      rw [ih (k + 3) i (by omega), show k + 3 + 3 * (i : Int) = k + 3 * ((i + 1 : Nat) : Int) by omega]
theorem seqV_snoc (k : Int) (n : Nat) : seqV k (n + 1) = seqV k n ++ [⟨k + 3 * n, k + 3 * n + 1, k + 3 * n + 2⟩] := by
  induction n generalizing k with
  | zero => simp [seqV]
  | succ n ih =>
    rw [seqV, ih (k + 3), seqV, List.cons_append, show k + 3 + 3 * (n : Int) = k + 3 * ((n + 1 : Nat) : Int) by omega]
def markedV (k : Int) (l : List Agg.V) (i : Nat) : List Agg.V := seqV k i ++ l.drop i
theorem markedV_zero (k : Int) (l : List Agg.V) : markedV k l 0 = l := by simp [markedV, seqV]
theorem markedV_all (k : Int) (l : List Agg.V) : markedV k l l.length = seqV k l.length := by simp [markedV]
theorem markedV_set (k : Int) (l : List Agg.V) (i : Nat) (h : i < l.length) : (((valRow (markedV k l i)).set (i * 3) (.int .i64 (k + 3 * i))).set (i * 3 + 1) (.int .i64 (k + 3 * i + 1))).set (i * 3 + 2) (.int .i64 (k + 3 * i + 1 + 1)) = valRow (markedV k l (i + 1)) := by
  rw [show k + 3 * (i : Int) + 1 + 1 = k + 3 * i + 2 by omega]
  obtain ⟨o, t, ht, hd⟩ : ∃ o t, l.drop i = o :: t ∧ l.drop (i + 1) = t := ⟨_, _, List.drop_eq_getElem_cons h, rfl⟩
  unfold markedV
  rw [ht, hd, seqV_snoc, List.append_assoc, valRow_append, valRow_append]
  rw [List.set_append_right _ _ (by rw [valRow_length, seqV_length]; omega), List.set_append_right _ _ (by rw [valRow_length, seqV_length]; omega), List.set_append_right _ _ (by rw [valRow_length, seqV_length]; omega)]
  rw [valRow_length, seqV_length, Nat.sub_self, show i * 3 + 1 - i * 3 = 1 by omega, show i * 3 + 2 - i * 3 = 2 by omega]
  simp [valRow, valCells]
theorem v_grownR {a b d : World} {c : Nat} (h : a.grownBy b (some c)) (k : b.grownBy d (some c)) : a.grownBy d (some c) :=
  ⟨k.os.trans h.os, k.tape.trans h.tape, k.output.trans h.output, Nat.le_trans h.size k.size, fun i hi hne => (k.block i (Nat.lt_of_lt_of_le hi h.size) hne).trans (h.block i hi hne)⟩

set_option maxHeartbeats 2000000 in
theorem markValueS_own {lo hi n : Nat} {v : Value} {l : List Agg.V} (w : World) (k : Int) (h : OwnV w lo hi v n l) (hk0 : 0 ≤ k) (hk1 : k ≤ 1000000) (hn : n ≤ 1048576) :
    Calls Tryz.prog 25 #[v, .int .i64 k] w fun e w' => e = .returned (.int .i64 (k + 3 * n)) ∧ OwnV w' lo hi v n (seqV k n) ∧ w.grownBy w' v.ownBlock := by
  have hl : l.length = n := h.len
  obtain ⟨h1, h2, h3, h4⟩ := h
  rcases h1.2 with ⟨rfl, rfl⟩ | ⟨g, cap, cur, rfl, hlo, hg, hnc, hcm, -, -⟩
  · go_enter Tryz.func25, Tryz.ntmps25
    go_wp2
    go_loopw [1, 5] (fun kv i wr => kv = .int .i64 k ∧ i = .int .i64 0 ∧ wr = w) (fun _ i _ => 0)
    case atStart => exact ⟨rfl, rfl, rfl⟩
    case round =>
      obtain ⟨rfl, rfl, rfl⟩ := hrel
      go_wp2
      go_returns
      exact ⟨by simp, ⟨⟨by simp [valRow, seqV], .inl ⟨rfl, rfl⟩⟩, h2, h3, h4⟩, ⟨rfl, rfl, rfl, Nat.le_refl _, fun _ _ _ => rfl⟩⟩
  · unfold maxLen at hcm
    have H1 := Lib.hid h1; clear h1 hg
    have HL := Lib.hid hl; clear hl
    have hgw : g < w.heap.size := by have := h4 g rfl; omega
    have HB := Lib.hid (show w.grownBy w (some g) from ⟨rfl, rfl, rfl, Nat.le_refl _, fun _ _ _ => rfl⟩)
    have H1' := Lib.hid (show w.ownsRow lo 40 3 (.slice (some ⟨g, 0, none⟩) n cap) n (valRow (markedV k l 0)) by rw [markedV_zero]; exact H1.out)
    have H4 := Lib.hid h4; clear h4
    clear H1
    go_enter Tryz.func25, Tryz.ntmps25
    go_wp2
    go_loopw [1, 5] (fun kv i wr => ∃ j : Nat, j ≤ n ∧ i = .int .i64 j ∧ kv = .int .i64 (k + 3 * j) ∧ Hid (wr.ownsRow lo 40 3 (.slice (some ⟨g, 0, none⟩) n cap) n (valRow (markedV k l j))) ∧ Hid (w.grownBy wr (some g))) (fun _ i _ => n - (intOf i).toNat)
    case atStart => exact ⟨0, Nat.zero_le _, rfl, by simp, H1', HB⟩
    case round =>
      obtain ⟨j, hj, rfl, rfl, HR, HG⟩ := hrel
      clear H1' HB
      by_cases hlt : j < n
      · have hst := markedV_set k l j (by have := HL.out; omega)
        have HST := Lib.hid hst; clear hst
        have hlen : (valRow (markedV k l j)).length = n * 3 := HR.out.1
        have hfr := HR.out.frozenAt (j * 3)
        have hfr1 := HR.out.frozenAt (j * 3 + 1)
        have hfr2 := HR.out.frozenAt (j * 3 + 2)
        have hcd : ∃ y, wr.cell? ⟨g, j * 3, none⟩ = some y := ⟨_, (HR.out.cellAt (j * 3) (by omega)).trans (List.getElem?_eq_getElem (by omega))⟩
        have hcd1 : ∃ y, wr.cell? ⟨g, j * 3 + 1, none⟩ = some y := ⟨_, (HR.out.cellAt (j * 3 + 1) (by omega)).trans (List.getElem?_eq_getElem (by omega))⟩
        have hcd2 : ∃ y, wr.cell? ⟨g, j * 3 + 2, none⟩ = some y := ⟨_, (HR.out.cellAt (j * 3 + 2) (by omega)).trans (List.getElem?_eq_getElem (by omega))⟩
        obtain ⟨y, hcd⟩ := hcd
        obtain ⟨y1, hcd1⟩ := hcd1
        obtain ⟨y2, hcd2⟩ := hcd2
        clear hlen
        have hk0' : (0 : Int) ≤ (j : Int) := Int.natCast_nonneg _
        have hkn : (j : Int) < (n : Int) := by omega
        go_wp2
        go_roundw
        case rel =>
          have hs := HR.out.stored (j * 3) (Value.int .i64 (k + 3 * (j : Int)))
          have hs2 := hs.1.stored (j * 3 + 1) (Value.int .i64 (k + 3 * (j : Int) + 1))
          have hs3 := hs2.1.stored (j * 3 + 2) (Value.int .i64 (k + 3 * (j : Int) + 1 + 1))
          rw [HST.out] at hs3
          exact ⟨j + 1, by omega, by go_num, by go_num, hs3.1, v_grownR (v_grownR (v_grownR HG.out hs.2) hs2.2) hs3.2⟩
        case measure => simp [intOf]; omega
      · obtain rfl : j = n := by omega
        go_wp2
        go_returns
        refine ⟨rfl, ⟨?_, h2, Nat.le_trans h3 HG.out.size, H4.out⟩, HG.out⟩
        have := HR.out
        rw [← HL.out, markedV_all, HL.out] at this
        exact this
set_option maxHeartbeats 2000000 in
theorem heldValueS_own {lo hi n : Nat} {v : Value} (w : World) (k : Int) (h : OwnV w lo hi v n (seqV k n)) (hk0 : 0 ≤ k) (hk1 : k ≤ 1000000) (hn : n ≤ 1048576) :
    Calls Tryz.prog 26 #[v, .int .i64 k] w fun e w' => e = .returned (.int .i64 (k + 3 * n)) ∧ Below w.heap.size w w' := by
  obtain ⟨a, cap, rfl, hN⟩ := h.vals
  have hcm : cap ≤ 9223372036854775807 := by have := hN.2.2.1; unfold maxLen at this; omega
  have hnc := hN.2.1
  have H4 := Lib.hid hN.2.2.2
  clear hN h
  go_enter Tryz.func26, Tryz.ntmps26
  go_wp2
  go_loopw [1, 5] (fun kv i wr => ∃ j : Nat, j ≤ n ∧ i = .int .i64 j ∧ kv = .int .i64 (k + 3 * j) ∧ Hid (Below w.heap.size w wr)) (fun _ i _ => n - (intOf i).toNat)
  case atStart => exact ⟨0, Nat.zero_le _, rfl, by simp, Below.refl _ _⟩
  case round =>
    obtain ⟨j, hj, rfl, rfl, HW⟩ := hrel
    by_cases hlt : j < n
    · rcases H4.out with h4 | ⟨b, off, rfl, hb, hcs⟩
      · omega
      · have hck := (HW.out.cell (p := ⟨b, off + j * 3, none⟩) hb).trans (hcs j hlt).1
        have hcl := (HW.out.cell (p := ⟨b, off + j * 3 + 1, none⟩) hb).trans (hcs j hlt).2.1
        have hcn := (HW.out.cell (p := ⟨b, off + j * 3 + 2, none⟩) hb).trans (hcs j hlt).2.2
        rw [seqV_at k n j hlt] at hck hcl hcn
        clear hcs
        have hk0' : (0 : Int) ≤ (j : Int) := Int.natCast_nonneg _
        have hkn : (j : Int) < (n : Int) := by omega
        go_wp2
        go_roundw
        case rel => exact ⟨j + 1, by omega, by go_num, by go_num, HW.out⟩
        case measure => simp [intOf]; omega
    · obtain rfl : j = n := by omega
      go_wp2
      go_returns
      exact ⟨rfl, HW.out⟩
def partlyV (l : List Agg.V) (k : Nat) : List Agg.V := l.take k ++ List.replicate (l.length - k) Agg.zero
theorem partlyV_all (l : List Agg.V) : partlyV l l.length = l := by simp [partlyV]
theorem partlyV_set (l : List Agg.V) (k : Nat) (h : k < l.length) : (((valRow (partlyV l k)).set (k * 3) (.int .i64 (l[k]?.getD Agg.zero).x)).set (k * 3 + 1) (.int .i64 (l[k]?.getD Agg.zero).y)).set (k * 3 + 2) (.int .i64 (l[k]?.getD Agg.zero).z) = valRow (partlyV l (k + 1)) := by
  obtain ⟨m, hm⟩ : ∃ m, l.length - k = m + 1 := ⟨l.length - k - 1, by omega⟩
  have e : l.take (k + 1) = l.take k ++ [l[k]?.getD Agg.zero] := by
    rw [List.take_succ_eq_append_getElem h]; simp [h]
  have e2 : l.length - (k + 1) = m := by omega
  have hk : (valRow (l.take k)).length = k * 3 := by rw [valRow_length]; simp; omega
  unfold partlyV
  rw [hm, e, e2, List.append_assoc, valRow_append, valRow_append, List.replicate_succ]
  rw [List.set_append_right _ _ (by rw [hk]; omega), List.set_append_right _ _ (by rw [hk]; omega), List.set_append_right _ _ (by rw [hk]; omega), hk, Nat.sub_self, show k * 3 + 1 - k * 3 = 1 by omega, show k * 3 + 2 - k * 3 = 2 by omega]
  simp [valRow, valCells]
theorem made_vals (n : Nat) : (madeCells #[Value.int .i64 0, Value.int .i64 0, Value.int .i64 0] (n * 3)).toList = valRow (List.replicate n Agg.zero) := by
  apply List.ext_getElem
  · rw [valRow_length]; simp [madeCells]
  · intro i h1 h2
    have hi : i < n * 3 := by simpa [madeCells] using h1
    obtain ⟨q, hq⟩ : ∃ q, i = q * 3 ∨ i = q * 3 + 1 ∨ i = q * 3 + 2 := ⟨i / 3, by omega⟩
    have hqn : q < n := by omega
    have := valRow_at (List.replicate n Agg.zero) q (by simpa using hqn)
    simp only [List.getElem?_replicate, hqn, if_true, Option.getD_some] at this
    rcases hq with rfl | rfl | rfl
    · rw [List.getElem?_eq_getElem h2] at this
      rw [Option.some.inj this.1]
      simp [madeCells, Nat.mul_mod_left, Agg.zero]
    · rw [List.getElem?_eq_getElem h2] at this
      rw [Option.some.inj this.2.1]
      have e : (q * 3 + 1) % 3 = 1 := by omega
      simp [madeCells, e, Agg.zero]
    · rw [List.getElem?_eq_getElem h2] at this
      rw [Option.some.inj this.2.2]
      have e : (q * 3 + 2) % 3 = 2 := by omega
      simp [madeCells, e, Agg.zero]
/-- A row of aggregates is made. -/
def MadeVals (l : List Agg.V) (n : Nat) (w : World) (e : Ending) (w' : World) : Prop :=
  ∃ v, e = .returned v ∧ OwnV w' w.heap.size w'.heap.size v n l ∧ Below w.heap.size w w'
end Go.Proofs.YtolgclajlklmaaaGreat
