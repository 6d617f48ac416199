import Derived.Test.YtofpnmjadflebaaA
import Derived.OpenShut
import Derived.Deep.OwnRows
import Derived.Maps.AppendAt
import Derived.Deep.RegionHeld3
import Derived.Deep.AppendSrc
import Derived.Lib.AppendZeros
import Derived.OwnWalk
import Derived.Test.YtofpnmjadflebaaMa
/-
  Slices of numbers: a slice value that reads as a list; it stays so where memory only grows; what was handed in is such a slice.
-/
namespace Go.Proofs.Ytofpnmjadflebaa
open Go.RowKit
set_option linter.unusedSimpArgs false

/-- A slice of integers of a kind as it came in: nil, or a row of cells. -/
def IsRow (k : IntKind) (w : World) (a : Option Addr) (len cap : Nat) (zs : List Int) : Prop :=
  (a = none ∧ len = 0 ∧ cap = 0 ∧ zs = []) ∨
  ∃ x, a = some x ∧ len ≤ cap ∧ cap ≤ maxLen ∧ zs.length = cap ∧ (∀ i, i < zs.length → w.cell? (x.add i) = some (.int k (zs.getD i 0))) ∧ ∀ n ∈ zs, (Lit.int k n).wf = true

/-- The slice with this address, length and capacity reads as the list l. -/
def Nums (k : IntKind) (w : World) (a : Option Addr) (n cap : Nat) (l : List Int) : Prop :=
  l.length = n ∧ n ≤ cap ∧ cap ≤ maxLen ∧
  (n = 0 ∨ ∃ b off, a = some ⟨b, off, none⟩ ∧ b < w.heap.size ∧ ∀ i, i < n → w.cell? ⟨b, off + i, none⟩ = some (.int k (l[i]?.getD 0)))

theorem Nums.below {k : IntKind} {w w' : World} {a : Option Addr} {n cap : Nat} {l : List Int} (h : Nums k w a n cap l) (hb : Below w.heap.size w w') : Nums k w' a n cap l := by
  obtain ⟨h1, h2, h3, h4⟩ := h
  refine ⟨h1, h2, h3, ?_⟩
  rcases h4 with h4 | ⟨b, off, ha, hlt, hc⟩
  · exact .inl h4
  · exact .inr ⟨b, off, ha, Nat.lt_of_lt_of_le hlt hb.size, fun i hi => (hb.cell (p := ⟨b, off + i, none⟩) hlt).trans (hc i hi)⟩

theorem Nums.of_row {k : IntKind} {w : World} {a : Option Addr} {len cap : Nat} {zs : List Int} (h : IsRow k w a len cap zs) : Nums k w a len cap (zs.take len) := by
  rcases h with ⟨rfl, rfl, rfl, rfl⟩ | ⟨x, rfl, hl, hm, hz, hcell, _⟩
  · exact ⟨rfl, Nat.le_refl _, by simp [maxLen], .inl rfl⟩
  · refine ⟨by simp; omega, hl, hm, ?_⟩
    by_cases h0 : len = 0
    · exact .inl h0
    · have hc := hcell 0 (by omega)
      obtain ⟨b, off, spot⟩ := x
      have hspot : spot = none := by simpa [Addr.add] using World.cell?_spot hc
      subst hspot
      refine .inr ⟨b, off, rfl, World.block_lt_of_cell? w _ hc, fun i hi => ?_⟩
      have hi2 := hcell i (by omega)
      have ea : (⟨b, off, none⟩ : Addr).add i = ⟨b, off + i, none⟩ := by
        by_cases hi0 : i = 0
        · subst hi0; simp [Addr.add]
        · simp [Addr.add, hi0]
      rw [ea] at hi2
      rw [hi2, List.getD_eq_getElem?_getD]
      simp [List.getElem?_take, hi]

theorem Nums.row_wf {k : IntKind} {w : World} {a : Option Addr} {len cap : Nat} {zs : List Int} (h : IsRow k w a len cap zs) : ∀ n ∈ zs.take len, (Lit.int k n).wf = true := by
  rcases h with ⟨rfl, rfl, rfl, rfl⟩ | ⟨x, rfl, _, _, _, _, hw⟩
  · simp
  · exact fun n hn => hw n (List.mem_of_mem_take hn)

/-- A variable of three numbers: its block. -/
def Box (w : World) (c : Nat) (T : TypeId) (x y z : Int) : Prop := w.heap[c]? = some (.cells #[.int .i64 x, .int .i64 y, .int .i64 z] T (0, 0))

theorem Box.new (w : World) (T : TypeId) (x y z : Int) : Box (w.alloc (.cells #[.int .i64 x, .int .i64 y, .int .i64 z] T)) w.heap.size T x y z := heap_alloc_new w _
theorem Box.lt {w : World} {c : Nat} {T : TypeId} {x y z : Int} (h : Box w c T x y z) : c < w.heap.size := (Array.getElem?_eq_some_iff.1 h).1
theorem Box.below {w w' : World} {B c : Nat} {T : TypeId} {x y z : Int} (h : Box w c T x y z) (hb : Below B w w') (hc : c < B) : Box w' c T x y z := (hb.block c hc).trans h
theorem Box.cells {w : World} {c : Nat} {T : TypeId} {x y z : Int} (h : Box w c T x y z) :
    w.cell? ⟨c, 0, none⟩ = some (.int .i64 x) ∧ w.cell? ⟨c, 1, none⟩ = some (.int .i64 y) ∧ w.cell? ⟨c, 2, none⟩ = some (.int .i64 z) := by
  unfold Box at h
  refine ⟨?_, ?_, ?_⟩ <;> simp [World.cell?, h]
theorem Box.free {w : World} {c : Nat} {T : TypeId} {x y z : Int} (h : Box w c T x y z) (o : Nat) : w.frozen? ⟨c, o, none⟩ = false := by
  unfold Box at h
  simp [World.frozen?, h]
theorem Box.set {w : World} {c : Nat} {T : TypeId} {x y z : Int} (h : Box w c T x y z) (x' y' z' : Int) :
    Box (((w.setCell ⟨c, 0, none⟩ (.int .i64 x')).setCell ⟨c, 1, none⟩ (.int .i64 y')).setCell ⟨c, 2, none⟩ (.int .i64 z')) c T x' y' z' := by
  unfold Box at *
  simp [World.setCell, Array.getElem?_modify, h]
theorem Box.set_other {w : World} {c d : Nat} {T : TypeId} {x y z : Int} (h : Box w d T x y z) (hd : d ≠ c) (o : Nat) (v : Value) :
    Box (w.setCell ⟨c, o, none⟩ v) d T x y z := by
  unfold Box at *
  rw [Below.heap_setCell _ _ _ _ (by simpa using hd)]
  exact h

/-- Two variables, and what was there before the call, over a call that makes memory alone. -/
theorem carry {w wr w2 : World} {c : Nat} {T S : TypeId} {x y z x' y' z' : Int} (HB : Box wr c T x y z) (HR : Box wr w.heap.size S x' y' z') (HW : Below w.heap.size w wr) (_hwc : w.heap.size < c) (hb : Below wr.heap.size wr w2) :
    Box w2 c T x y z ∧ Box w2 w.heap.size S x' y' z' ∧ Below w.heap.size w w2 :=
  ⟨HB.below hb HB.lt, HR.below hb HR.lt, HW.trans (hb.mono (Nat.le_of_lt HR.lt))⟩
theorem carryD {w wr w2 : World} {c : Nat} {T S : TypeId} {x y z x' y' z' : Int} (HB : Box wr c T x y z) (HR : Box wr w.heap.size S x' y' z') (HW : Below w.heap.size w wr) (hwc : w.heap.size < c) (hb : Below wr.drew.heap.size wr.drew w2) :
    Box w2 c T x y z ∧ Box w2 w.heap.size S x' y' z' ∧ Below w.heap.size w w2 :=
  carry (wr := wr.drew) HB HR HW.drew hwc hb

end Go.Proofs.Ytofpnmjadflebaa

/-
  Copies of slices of numbers, and their comparison, as the exact laws make them.
-/
namespace Go.Proofs.Ytofpnmjadflebaa
set_option linter.unusedSimpArgs false
set_option linter.unusedVariables false
open Go.RowKit

/-- A slice of new memory that reads as l. -/
def MadeNums (l : List Int) (n : Nat) (w : World) (e : Ending) (w' : World) : Prop :=
  ∃ b, e = .returned (.slice (some ⟨b, 0, none⟩) n n) ∧ Nums .i64 w' (some ⟨b, 0, none⟩) n n l ∧ Below w.heap.size w w' ∧ w.heap.size ≤ b

theorem Nums.of_owns {w : World} {base e g n cap : Nat} {l : List Int} (h : w.ownsRow base e 1 (.slice (some ⟨g, 0, none⟩) n cap) n (l.map (Value.int .i64))) : Nums .i64 w (some ⟨g, 0, none⟩) n cap l := by
  have hl : l.length = n := by have := h.1; simpa using this
  have hcells : ∀ j, j < n → w.cell? ⟨g, j, none⟩ = some (.int .i64 (l[j]?.getD 0)) := by
    intro j hj
    rw [World.ownsRow.cellAt h j (by omega)]
    simp [List.getElem?_map, List.getElem?_eq_getElem (show j < l.length by omega)]
  rcases h.2 with ⟨hv, _⟩ | ⟨g', cap', cur, hv, hb, hg, h1, h2, h3, h4⟩
  · simp at hv
  · simp only [Value.slice.injEq, Option.some.injEq, Addr.mk.injEq] at hv
    obtain ⟨⟨rfl, -, -⟩, -, rfl⟩ := hv
    exact ⟨hl, h1, h2, .inr ⟨g, 0, rfl, (Array.getElem?_eq_some_iff.1 hg).1, fun i hi => by rw [Nat.zero_add]; exact hcells i hi⟩⟩

/-- The first k numbers of l, and zeros behind them. -/
def partly (l : List Int) (k : Nat) : List Int := l.take k ++ List.replicate (l.length - k) 0
theorem partly_zero (l : List Int) : partly l 0 = List.replicate l.length 0 := by simp [partly]
theorem partly_all (l : List Int) : partly l l.length = l := by simp [partly]
theorem partly_set (l : List Int) (k : Nat) (h : k < l.length) : (partly l k).set k (l[k]?.getD 0) = partly l (k + 1) := by
  apply List.ext_getElem?
  intro i
  simp only [partly, List.getElem?_set, List.getElem?_append, List.length_append, List.length_take, List.length_replicate, List.getElem?_take, List.getElem?_replicate]
  by_cases hik : k = i
  · subst hik
    simp [h, Nat.min_eq_left (Nat.le_of_lt h), Nat.min_eq_left (show k + 1 ≤ l.length by omega)] <;> omega
  · rw [if_neg hik]
    rw [Nat.min_eq_left (Nat.le_of_lt h), Nat.min_eq_left (show k + 1 ≤ l.length by omega)]
    by_cases h1 : i < k
    · rw [if_pos h1, if_pos (show i < k + 1 by omega)]; simp [h1, show i < k + 1 by omega]
    · rw [if_neg h1, if_neg (show ¬ i < k + 1 by omega)]
      by_cases h2 : i < l.length
      · rw [if_pos (by omega), if_pos (by omega)]
      · rw [if_neg (by omega), if_neg (by omega)]

theorem infoInt : (Try.prog.info? 3).map (fun i => (i.zero, i.size, i.bytes)) = some (some (.int .i64 0), 1, 8) := by kernel_rfl


end Go.Proofs.Ytofpnmjadflebaa

/-
  Rows of numbers in memory of the call's own, as the exact laws make, mark, compare and hold them.
-/
namespace Go.Proofs.Ytofpnmjadflebaa
set_option linter.unusedSimpArgs false
set_option linter.unusedVariables false
open Go.RowKit

theorem Below.grownNone {w w' : World} (hb : Below w.heap.size w w') (row : Option Nat) : w.grownBy w' row :=
  ⟨hb.os, hb.tape, hb.output, hb.size, fun k hk _ => hb.block k hk⟩

/-- A row of numbers whose block, if it has one, is not below lo and below hi. -/
def OwnR (w : World) (lo hi : Nat) (v : Value) (n : Nat) (l : List Int) : Prop :=
  w.ownsRow lo 3 1 v n (l.map (Value.int .i64)) ∧ lo ≤ hi ∧ hi ≤ w.heap.size ∧ (∀ g, v.ownBlock = some g → g < hi)

theorem OwnR.kept {w w' : World} {lo hi n : Nat} {v : Value} {l : List Int} {row : Option Nat} (h : OwnR w lo hi v n l) (hg : w.grownBy w' row) (hr : ∀ j, row = some j → j < lo ∨ hi ≤ j) : OwnR w' lo hi v n l := by
  obtain ⟨h1, h2, h3, h4⟩ := h
  refine ⟨h1.kept hg ?_, h2, Nat.le_trans h3 hg.size, h4⟩
  cases hv : v.ownBlock with
  | none => exact .inl rfl
  | some g =>
    refine .inr (fun e => ?_)
    have := (h1.lt g hv).1
    have := h4 g hv
    have := hr g e.symm
    omega
theorem OwnR.below {w w' : World} {lo hi n : Nat} {v : Value} {l : List Int} (h : OwnR w lo hi v n l) (hb : Below w.heap.size w w') : OwnR w' lo hi v n l :=
  h.kept (row := none) (Below.grownNone hb _) (fun j e => by cases e)
theorem OwnR.nums {w : World} {lo hi n : Nat} {v : Value} {l : List Int} (h : OwnR w lo hi v n l) : ∃ a cap, v = .slice a n cap ∧ Nums .i64 w a n cap l ∧ l.length = n := by
  have hl : l.length = n := by have := h.1.1; simpa using this
  rcases h.1.2 with ⟨rfl, rfl⟩ | ⟨g, cap, cur, rfl, -, hg, h1, h2, -⟩
  · exact ⟨none, 0, rfl, ⟨hl, Nat.le_refl _, by simp [maxLen], .inl rfl⟩, hl⟩
  · exact ⟨_, cap, rfl, Nums.of_owns (g := g) h.1, hl⟩
theorem owns_lower {w : World} {base base' e size n : Nat} {v : Value} {xs : List Value} (h : w.ownsRow base e size v n xs) (hb : base' ≤ base) : w.ownsRow base' e size v n xs := by
  obtain ⟨h1, h2⟩ := h
  refine ⟨h1, ?_⟩
  rcases h2 with h2 | ⟨g, cap, cur, hv, hg, rest⟩
  · exact .inl h2
  · exact .inr ⟨g, cap, cur, hv, Nat.le_trans hb hg, rest⟩
/-- A row that a call has made. -/
theorem OwnR.made {w w' : World} {n : Nat} {v : Value} {l : List Int} (h : w'.ownsRow w.heap.size 3 1 v n (l.map (Value.int .i64))) (hs : w.heap.size ≤ w'.heap.size) : OwnR w' w.heap.size w'.heap.size v n l :=
  ⟨h, hs, Nat.le_refl _, fun g hg => (h.lt g hg).2⟩

/-- A row is made, with these numbers. -/
def MadeRow (l : List Int) (n : Nat) (w : World) (e : Ending) (w' : World) : Prop :=
  ∃ v, e = .returned v ∧ OwnR w' w.heap.size w'.heap.size v n l ∧ Below w.heap.size w w'



/-- k, k + 1 and so on: n numbers. -/
def seq (k : Int) : Nat → List Int
  | 0 => []
  | n + 1 => k :: seq (k + 1) n
theorem seq_length (k : Int) (n : Nat) : (seq k n).length = n := by
  induction n generalizing k with
  | zero => rfl
  | succ n ih => simp [seq, ih]
theorem seq_at (k : Int) (n i : Nat) (h : i < n) : (seq k n)[i]?.getD 0 = k + i := by
  induction n generalizing k i with
  | zero => omega
  | succ n ih =>
    cases i with
    | zero => simp [seq]
    | succ i => simp [seq, ih (k + 1) i (by omega)]; omega

/-- The first i numbers of l replaced by those from k on. -/
def marked (k : Int) (l : List Int) (i : Nat) : List Int := (seq k i) ++ l.drop i
theorem marked_zero (k : Int) (l : List Int) : marked k l 0 = l := by simp [marked, seq]
theorem marked_all (k : Int) (l : List Int) : marked k l l.length = seq k l.length := by simp [marked]
theorem seq_snoc (k : Int) (n : Nat) : seq k (n + 1) = seq k n ++ [k + n] := by
  induction n generalizing k with
  | zero => simp [seq]
  | succ n ih =>
    rw [seq, ih (k + 1), seq, List.cons_append]
    congr 2
    simp
    omega
theorem marked_set (k : Int) (l : List Int) (i : Nat) (h : i < l.length) : (marked k l i).set i (k + i) = marked k l (i + 1) := by
  unfold marked
  rw [List.set_append_right _ _ (by rw [seq_length]; omega), seq_length, Nat.sub_self, List.drop_eq_getElem_cons h, List.set_cons_zero, seq_snoc, List.append_assoc, List.singleton_append]


end Go.Proofs.Ytofpnmjadflebaa

/-
  Rows of changes: a slice of pairs of a bool and a number; rows of the call's own; comparison, marks.
-/
namespace Go.Proofs.Ytofpnmjadflebaa
set_option linter.unusedSimpArgs false
set_option linter.unusedVariables false
open Go.RowKit
theorem below_callD {w wr w2 : World} (h : Below w.heap.size w wr) (hb : Below wr.drew.heap.size wr.drew w2) : Below w.heap.size w w2 :=
  h.drew.trans (hb.mono h.size)
end Go.Proofs.Ytofpnmjadflebaa

/-
  Rows of changes of the call's own: compared, marked, held, as the exact laws do.
-/
namespace Go.Proofs.Ytofpnmjadflebaa
end Go.Proofs.Ytofpnmjadflebaa

/-
  append to a row of one's own: where the row lies afterwards; a variable of seven cells.
-/
namespace Go.Proofs.Ytofpnmjadflebaa
set_option linter.unusedSimpArgs false
set_option linter.unusedVariables false
open Go.RowKit

theorem append_where {P : Program} (w : World) (base : Nat) (t ty e : TypeId) (i : TypeInfo) (z : Value) (size bytes : Nat) (ht : P.underlying t = some (.slice e)) (hi : P.info? e = some i) (hz : i.zero = some z)
    (hsize : i.size = size) (hby : i.bytes = bytes) (hzs : z.cells.size = size) (hsz : 0 < size)
    (v : Value) (n : Nat) (xs : List Value) (hown : w.ownsRow base e size v n xs)
    (a : Addr) (m c : Nat) (news : List Value) (hl : news.length = m * size) (hnews : ∀ j u, news[j]? = some u → w.cell? (a.add j) = some u) (h1 : ∀ u ∈ news, u.oneCell' = true)
    (h63 : n + m ≤ maxLen) (hbytes : (n + m) * bytes ≤ 140737488355328) (hbase : base ≤ w.heap.size) :
    ∃ v' w', (Builtin.append_ #[t, t] ty #[v, .slice (some a) m c]).run P w = .ok v' w' ∧ w'.ownsRow base e size v' (n + m) (xs ++ news) ∧ w.grownBy w' v.ownBlock ∧ (v'.ownBlock = v.ownBlock ∨ ∃ g, v'.ownBlock = some g ∧ w.heap.size ≤ g) := by
  obtain ⟨v', w', hrun, hown', hgrow, hnil⟩ := run_append_own w base t ty e i z size bytes ht hi hz hsize hby hzs hsz v n xs hown a m c news hl hnews h1 h63 hbytes hbase
  refine ⟨v', w', hrun, hown', hgrow, ?_⟩
  have hm63 : n + m ≤ 9223372036854775807 := by unfold maxLen at h63; omega
  have hs : Src P i.size t (.slice (some a) m c) m news w := Src.ofSlice w ht a m c news (by rw [hsize]; exact hl) hnews h1
  rcases hown.2 with ⟨rfl, rfl⟩ | ⟨g, cap, cur, rfl, hb, hh, k1, k2, k3, k4⟩
  · by_cases hm : m = 0
    · rw [hnil.2 ⟨rfl, hm⟩]
      exact .inl rfl
    · have hr := run_append_grow_src (P := P) w t t ty e i z ht hi hz none 0 0 [] (by simpa using run_firstCells_none (P := P) w.drew i.size 0 0 0) (.slice (some a) m c) m news hs (by omega) (by omega) (growslice_fits (by omega) (by rw [hby]; exact hbytes))
      rw [hrun] at hr
      simp only [Result.ok.injEq] at hr
      rw [hr.1]
      exact .inr ⟨_, rfl, Nat.le_refl _⟩
  · by_cases hroom : n + m ≤ cap
    · have hr := run_append_room_src (P := P) w t t ty e i ht hi g 0 n cap (.slice (some a) m c) m news hs hroom
        (fun j hj => by
          have hlt : 0 + n * i.size + j < cur.size := by
            rw [k3, hsize]
            rw [hl] at hj
            have := Nat.mul_le_mul_right size hroom
            rw [Nat.add_mul] at this
            omega
          simp [World.cell?, hh]
          rw [hsize] at hlt ⊢
          omega)
        (fun j hj => by simp [World.frozen?, hh])
      rw [hrun] at hr
      simp only [Result.ok.injEq] at hr
      rw [hr.1]
      exact .inl rfl
    · have hxs : xs.length = n * size := hown.1
      have hr := run_append_grow_src (P := P) w t t ty e i z ht hi hz (some ⟨g, 0, none⟩) n cap xs
        (run_firstCells_some (P := P) w.drew i.size n ⟨g, 0, none⟩ n cap xs (by rw [hsize]; exact hxs) (fun j u hj => by
          have hjn : j < n * size := by rw [← hxs]; exact (List.getElem?_eq_some_iff.1 hj).1
          rw [Addr.add_lit, Nat.zero_add]
          show w.cell? ⟨g, j, none⟩ = some u
          have hcur : cur[j]? = some u := by
            rw [← hj, ← k4, List.getElem?_take, if_pos hjn, Array.getElem?_toList]
          simp [World.cell?, hh, hcur]))
        (.slice (some a) m c) m news hs (by omega) (by omega) (growslice_fits (by omega) (by rw [hby]; exact hbytes))
      rw [hrun] at hr
      simp only [Result.ok.injEq] at hr
      rw [hr.1]
      exact .inr ⟨_, rfl, Nat.le_refl _⟩

theorem wpList_append_where {P : Program} {w : World} {ops : Array Oper} {rest : List Oper} {o : Oper} {a : Act} {Q : Exit → Act → World → Prop} (hgd : o.guard = none) (s x : Operand) (t : TypeId)
    (ho : o.op = .call { callee := .builtin .append, args := #[s, x], argTypes := #[t, t] })
    (base : Nat) (e : TypeId) (i : TypeInfo) (z : Value) (size bytes : Nat) (ht : P.underlying t = some (.slice e)) (hi : P.info? e = some i) (hz : i.zero = some z)
    (hsize : i.size = size) (hby : i.bytes = bytes) (hzs : z.cells.size = size) (hsz : 0 < size)
    (v : Value) (n : Nat) (xs : List Value) (hs : a.eval s = v) (hown : w.ownsRow base e size v n xs)
    (ad : Addr) (m c : Nat) (news : List Value) (hx : a.eval x = .slice (some ad) m c) (hl : news.length = m * size) (hnews : ∀ j u, news[j]? = some u → w.cell? (ad.add j) = some u) (h1 : ∀ u ∈ news, u.oneCell' = true)
    (h63 : n + m ≤ maxLen) (hbytes : (n + m) * bytes ≤ 140737488355328) (hbase : base ≤ w.heap.size)
    (h : ∀ v' w', w'.ownsRow base e size v' (n + m) (xs ++ news) → w.grownBy w' v.ownBlock → (v'.ownBlock = v.ownBlock ∨ ∃ g, v'.ownBlock = some g ∧ w.heap.size ≤ g) → wpList P ops Q rest (a.put o.dst v') w') : wpList P ops Q (o :: rest) a w := by
  obtain ⟨v', w', hrun, h2, h3, h4⟩ := append_where w base t o.type e i z size bytes ht hi hz hsize hby hzs hsz v n xs hown ad m c news hl hnews h1 h63 hbytes hbase
  exact Lib.wpList_append_run w hgd s x t t ho v _ hs hx v' w' hrun (h v' w' h2 h3 h4)

/-- A variable of seven cells: its block. -/
def Box7 (w : World) (c : Nat) (T : TypeId) (v0 v1 v2 v3 v4 v5 v6 : Value) : Prop := w.heap[c]? = some (.cells #[v0, v1, v2, v3, v4, v5, v6] T (0, 0))
section
variable {w w' : World} {c d : Nat} {T : TypeId} {v0 v1 v2 v3 v4 v5 v6 : Value}
theorem Box7.new (w : World) (T : TypeId) (v0 v1 v2 v3 v4 v5 v6 : Value) : Box7 (w.alloc (.cells #[v0, v1, v2, v3, v4, v5, v6] T)) w.heap.size T v0 v1 v2 v3 v4 v5 v6 := heap_alloc_new w _
theorem Box7.lt (h : Box7 w c T v0 v1 v2 v3 v4 v5 v6) : c < w.heap.size := (Array.getElem?_eq_some_iff.1 h).1
theorem Box7.below {B : Nat} (h : Box7 w c T v0 v1 v2 v3 v4 v5 v6) (hb : Below B w w') (hc : c < B) : Box7 w' c T v0 v1 v2 v3 v4 v5 v6 := (hb.block c hc).trans h
theorem Box7.call (h : Box7 w c T v0 v1 v2 v3 v4 v5 v6) (hb : Below w.heap.size w w') : Box7 w' c T v0 v1 v2 v3 v4 v5 v6 := h.below hb h.lt
theorem Box7.callD (h : Box7 w c T v0 v1 v2 v3 v4 v5 v6) (hb : Below w.drew.heap.size w.drew w') : Box7 w' c T v0 v1 v2 v3 v4 v5 v6 := Box7.call (w := w.drew) h hb
theorem Box7.alloc (h : Box7 w c T v0 v1 v2 v3 v4 v5 v6) (o : Obj) : Box7 (w.alloc o) c T v0 v1 v2 v3 v4 v5 v6 := h.call ((Below.refl _ _).alloc (Nat.le_refl _) _)
theorem Box7.grown {row : Option Nat} (h : Box7 w c T v0 v1 v2 v3 v4 v5 v6) (hg : w.grownBy w' row) (hr : row ≠ some c) : Box7 w' c T v0 v1 v2 v3 v4 v5 v6 := (hg.block c h.lt (fun e => hr e.symm)).trans h
theorem Box7.cells (h : Box7 w c T v0 v1 v2 v3 v4 v5 v6) :
    w.cell? ⟨c, 0, none⟩ = some v0 ∧ w.cell? ⟨c, 1, none⟩ = some v1 ∧ w.cell? ⟨c, 2, none⟩ = some v2 ∧ w.cell? ⟨c, 3, none⟩ = some v3 ∧ w.cell? ⟨c, 4, none⟩ = some v4 ∧ w.cell? ⟨c, 5, none⟩ = some v5 ∧ w.cell? ⟨c, 6, none⟩ = some v6 := by
  unfold Box7 at h
  refine ⟨?_, ?_, ?_, ?_, ?_, ?_, ?_⟩ <;> simp [World.cell?, h]
theorem Box7.free (h : Box7 w c T v0 v1 v2 v3 v4 v5 v6) (o : Nat) : w.frozen? ⟨c, o, none⟩ = false := by
  unfold Box7 at h
  simp [World.frozen?, h]
theorem Box7.set0 (h : Box7 w c T v0 v1 v2 v3 v4 v5 v6) (u : Value) : Box7 (w.setCell ⟨c, 0, none⟩ u) c T u v1 v2 v3 v4 v5 v6 := by unfold Box7 at *; simp [World.setCell, Array.getElem?_modify, h]
theorem Box7.set1 (h : Box7 w c T v0 v1 v2 v3 v4 v5 v6) (u : Value) : Box7 (w.setCell ⟨c, 1, none⟩ u) c T v0 u v2 v3 v4 v5 v6 := by unfold Box7 at *; simp [World.setCell, Array.getElem?_modify, h]
theorem Box7.set2 (h : Box7 w c T v0 v1 v2 v3 v4 v5 v6) (u : Value) : Box7 (w.setCell ⟨c, 2, none⟩ u) c T v0 v1 u v3 v4 v5 v6 := by unfold Box7 at *; simp [World.setCell, Array.getElem?_modify, h]
theorem Box7.set3 (h : Box7 w c T v0 v1 v2 v3 v4 v5 v6) (u : Value) : Box7 (w.setCell ⟨c, 3, none⟩ u) c T v0 v1 v2 u v4 v5 v6 := by unfold Box7 at *; simp [World.setCell, Array.getElem?_modify, h]
theorem Box7.set4 (h : Box7 w c T v0 v1 v2 v3 v4 v5 v6) (u : Value) : Box7 (w.setCell ⟨c, 4, none⟩ u) c T v0 v1 v2 v3 u v5 v6 := by unfold Box7 at *; simp [World.setCell, Array.getElem?_modify, h]
theorem Box7.set5 (h : Box7 w c T v0 v1 v2 v3 v4 v5 v6) (u : Value) : Box7 (w.setCell ⟨c, 5, none⟩ u) c T v0 v1 v2 v3 v4 u v6 := by unfold Box7 at *; simp [World.setCell, Array.getElem?_modify, h]
theorem Box7.set6 (h : Box7 w c T v0 v1 v2 v3 v4 v5 v6) (u : Value) : Box7 (w.setCell ⟨c, 6, none⟩ u) c T v0 v1 v2 v3 v4 v5 u := by unfold Box7 at *; simp [World.setCell, Array.getElem?_modify, h]
theorem Box7.other (h : Box7 w c T v0 v1 v2 v3 v4 v5 v6) (hd : c ≠ d) (o : Nat) (u : Value) : Box7 (w.setCell ⟨d, o, none⟩ u) c T v0 v1 v2 v3 v4 v5 v6 := by
  unfold Box7 at *
  rw [Below.heap_setCell _ _ _ _ (by simpa using hd)]
  exact h
end
theorem Box.call {w w' : World} {c : Nat} {T : TypeId} {x y z : Int} (h : Box w c T x y z) (hb : Below w.heap.size w w') : Box w' c T x y z := h.below hb h.lt
theorem Box.callD {w w' : World} {c : Nat} {T : TypeId} {x y z : Int} (h : Box w c T x y z) (hb : Below w.drew.heap.size w.drew w') : Box w' c T x y z := Box.call (w := w.drew) h hb
theorem Box.alloc {w : World} {c : Nat} {T : TypeId} {x y z : Int} (h : Box w c T x y z) (o : Obj) : Box (w.alloc o) c T x y z := h.call ((Below.refl _ _).alloc (Nat.le_refl _) _)
theorem Box.grew {w w' : World} {c : Nat} {T : TypeId} {x y z : Int} {row : Option Nat} (h : Box w c T x y z) (hg : w.grownBy w' row) (hr : row ≠ some c) : Box w' c T x y z := (hg.block c h.lt (fun e => hr e.symm)).trans h
end Go.Proofs.Ytofpnmjadflebaa

/-
  Rows of aggregates: a slice of triples of numbers; rows of the call's own; comparison, marks, copies.
-/
namespace Go.Proofs.Ytofpnmjadflebaa
set_option linter.unusedSimpArgs false
set_option linter.unusedVariables false
open Go.RowKit

end Go.Proofs.Ytofpnmjadflebaa

/-
  Variables just made; stacks whose rows are the call's own; a row copied behind an empty one.
-/
namespace Go.Proofs.Ytofpnmjadflebaa
set_option linter.unusedSimpArgs false
set_option linter.unusedVariables false
open Go.RowKit
theorem Box.new1 {Y : World} {g : Nat} (T : TypeId) (x y z : Int) (hg : g = Y.heap.size) : Box (Y.alloc (.cells #[.int .i64 x, .int .i64 y, .int .i64 z] T)) g T x y z := by
  subst hg; exact Box.new Y T x y z
theorem Box7.new1 {Y : World} {g : Nat} (T : TypeId) (v0 v1 v2 v3 v4 v5 v6 : Value) (hg : g = Y.heap.size) : Box7 (Y.alloc (.cells #[v0, v1, v2, v3, v4, v5, v6] T)) g T v0 v1 v2 v3 v4 v5 v6 := by
  subst hg; exact Box7.new Y T v0 v1 v2 v3 v4 v5 v6
/-- What a slice that is read holds, as the source of an append. -/
def SrcOk (w : World) (ax : Option Addr) (m size : Nat) (news : List Value) : Prop :=
  (ax = none → m = 0 ∧ news = []) ∧ (∀ ad, ax = some ad → ∀ j u, news[j]? = some u → w.cell? (ad.add j) = some u) ∧ news.length = m * size ∧ ∀ u ∈ news, u.oneCell' = true
theorem Nums.src {w : World} {a : Option Addr} {n cap : Nat} {l : List Int} (h : Nums .i64 w a n cap l) : SrcOk w a n 1 (l.map (Value.int .i64)) := by
  refine ⟨?_, ?_, by simp [h.1], fun u hu => by obtain ⟨x, -, rfl⟩ := List.mem_map.1 hu; rfl⟩
  · intro ha
    subst ha
    rcases h.2.2.2 with h0 | ⟨b, off, ha, -⟩
    · have : l = [] := List.eq_nil_of_length_eq_zero (by rw [h.1]; exact h0)
      subst this
      exact ⟨h0, rfl⟩
    · cases ha
  · intro ad ha j u hj
    subst ha
    have hl := h.1
    rcases h.2.2.2 with h0 | ⟨b, off, ha, hb, hc⟩
    · have : l = [] := List.eq_nil_of_length_eq_zero (by rw [h.1]; exact h0)
      subst this
      simp at hj
    · obtain rfl := Option.some.inj ha
      have hjl : j < l.length := by have := (List.getElem?_eq_some_iff.1 hj).1; simpa using this
      rw [Addr.add_lit, hc j (by omega), List.getElem?_eq_getElem hjl]
      simp [List.getElem?_map, List.getElem?_eq_getElem hjl] at hj ⊢
      exact hj
/-- append of a slice to an empty row that was just made. -/
theorem wpList_append_copy {P : Program} {w : World} {ops : Array Oper} {rest : List Oper} {o : Oper} {a : Act} {Q : Exit → Act → World → Prop} (hgd : o.guard = none) (s x : Operand) (t : TypeId)
    (ho : o.op = .call { callee := .builtin .append, args := #[s, x], argTypes := #[t, t] })
    (e : TypeId) (i : TypeInfo) (z : Value) (size bytes : Nat) (ht : P.underlying t = some (.slice e)) (hi : P.info? e = some i) (hz : i.zero = some z)
    (hsize : i.size = size) (hby : i.bytes = bytes) (hzs : z.cells.size = size) (hsz : 0 < size)
    (g : Nat) (hs : a.eval s = .slice (some ⟨g, 0, none⟩) 0 0) (hg : w.heap[g]? = some (.cells #[] e (0, 0)))
    (ax : Option Addr) (m c : Nat) (news : List Value) (hx : a.eval x = .slice ax m c) (hsrc : SrcOk w ax m size news)
    (h63 : m ≤ maxLen) (hbytes : m * bytes ≤ 140737488355328)
    (h : ∀ v' w', w'.ownsRow g e size v' m news → w.grownBy w' (some g) → wpList P ops Q rest (a.put o.dst v') w') : wpList P ops Q (o :: rest) a w := by
  have hgl : g < w.heap.size := (Array.getElem?_eq_some_iff.1 hg).1
  have hown : w.ownsRow g e size (.slice (some ⟨g, 0, none⟩) 0 0) 0 [] := ⟨by simp, .inr ⟨g, 0, _, rfl, Nat.le_refl _, hg, Nat.le_refl _, by simp, by simp, by simp⟩⟩
  obtain ⟨s1, s2, s3, s4⟩ := hsrc
  cases ax with
  | none =>
    obtain ⟨rfl, rfl⟩ := s1 rfl
    have hs0 : Src P i.size t (.slice none 0 c) 0 [] w := Src.ofNil w ht c
    have hr := run_append_room_src (P := P) w t t o.type e i ht hi g 0 0 0 (.slice none 0 c) 0 [] hs0 (by omega) (fun j hj => by simp at hj) (fun j hj => by simp at hj)
    refine Lib.wpList_append_run w hgd s x t t ho _ _ hs hx _ _ hr (h _ _ ?_ ?_)
    · exact ⟨by simp, .inr ⟨g, 0, _, rfl, Nat.le_refl _, hg, Nat.le_refl _, by simp, by simp, by simp⟩⟩
    · exact ⟨rfl, rfl, rfl, Nat.le_refl _, fun _ _ _ => rfl⟩
  | some ad =>
    obtain ⟨v', w', hrun, h2, h3, -⟩ := append_where w g t o.type e i z size bytes ht hi hz hsize hby hzs hsz _ 0 [] hown ad m c news s3 (s2 ad rfl) s4 (by omega) (by simpa using hbytes) (Nat.le_of_lt hgl)
    exact Lib.wpList_append_run w hgd s x t t ho _ _ hs hx v' w' hrun (h v' w' (by simpa using h2) h3)
end Go.Proofs.Ytofpnmjadflebaa
