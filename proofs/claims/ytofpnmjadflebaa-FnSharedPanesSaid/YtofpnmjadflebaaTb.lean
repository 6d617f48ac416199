import Derived.Test.YtofpnmjadflebaaTa
import Derived.Deep.RegionLaw
import Derived.Test.YtofpnmjadflebaaM
import Derived.Test.YtofpnmjadflebaaN
import Derived.Test.YtofpnmjadflebaaRw
import Derived.Test.YtofpnmjadflebaaMa
import Derived.Deep.RegionHeld3
import Derived.Lib.SliceRun
import Derived.Deep.DeepMust
import Derived.Test.YtofpnmjadflebaaA1
import Derived.Test.YtofpnmjadflebaaA2
import Derived.Test.YtofpnmjadflebaaA3
/-
  The model's windows: a change applied to a copy.
-/
namespace Go.Proofs.Ytofpnmjadflebaa
set_option linter.unusedSimpArgs false
set_option linter.unusedVariables false
open Go.RowKit
/-- append to a row of the call's own, as one step of a region that draws. -/
theorem step_append_own {P : Program} {ops : Array Oper} {o : Oper} {a : Act} {w : World} {K : Act → World → Prop} {Q : Exit → Act → World → Prop} {E : Prop}
    (hg : o.guard = none) (s x : Operand) (t : TypeId) (hop : o.op = Op.call { callee := Callee.builtin Builtin.append, args := #[s, x], argTypes := #[t, t] })
    (base : Nat) (e : TypeId) (i : TypeInfo) (z : Value) (size bytes : Nat) (h1 : P.underlying t = some (.slice e)) (h2 : P.info? e = some i) (h3 : i.zero = some z) (h4 : i.size = size) (h5 : i.bytes = bytes) (h6 : z.cells.size = size) (h7 : 0 < size)
    (v : Value) (n : Nat) (xs : List Value) (hs : a.eval s = v) (hown : w.ownsRow base e size v n xs)
    (ad : Addr) (m c : Nat) (news : List Value) (hx : a.eval x = .slice (some ad) m c) (hn : news.length = m * size) (hc : ∀ j u, news[j]? = some u → w.cell? (ad.add j) = some u) (h1c : ∀ u ∈ news, u.oneCell' = true)
    (b1 : n + m ≤ maxLen) (b2 : (n + m) * bytes ≤ 140737488355328) (hbase : base ≤ w.heap.size)
    (hK : ∀ v' w', w'.ownsRow base e size v' (n + m) (xs ++ news) → w.grownBy w' v.ownBlock → (v' = .slice none 0 0 ↔ v = .slice none 0 0 ∧ m = 0) → K (a.put o.dst v') w') :
    if Region.wanted o (yielded ops a.tmps) = true then Oper.wp P o a w K Q else E := by
  have hw : Region.wanted o (yielded ops a.tmps) = true := by simp [Region.wanted, hg]
  rw [if_pos hw]
  exact wp_append_own w s x t hop base e i z size bytes h1 h2 h3 h4 h5 h6 h7 v n xs hs hown ad m c news hx hn hc h1c b1 b2 hbase hK
theorem own_empty {w : World} {base e g : Nat} (hb : base ≤ g) (h : w.heap[g]? = some (.cells #[] e (0, 0))) : w.ownsRow base e 1 (.slice (some ⟨g, 0, none⟩) 0 0) 0 [] :=
  ⟨rfl, .inr ⟨g, 0, _, rfl, hb, h, Nat.le_refl _, by simp, rfl, rfl⟩⟩
theorem cell_old {Y : World} {a : Addr} {v : Value} {o : Obj} (hb : a.block < Y.heap.size) (h : Y.cell? a = some v) : (Y.alloc o).cell? a = some v := (World.cell?_of_block (heap_alloc_old Y o hb)).trans h
theorem cell_new' {Y : World} {v : Value} {T : TypeId} {g : Nat} (hg : g = Y.heap.size) : (Y.alloc (.cells #[v] T)).cell? ⟨g, 0, none⟩ = some v := by
  subst hg; simp
theorem cell_drew {Y : World} {a : Addr} {v : Value} (h : Y.cell? a = some v) : Y.drew.cell? a = some v := h
theorem own_drew {w : World} {base e size n : Nat} {v : Value} {xs : List Value} (h : w.ownsRow base e size v n xs) : w.drew.ownsRow base e size v n xs := h
theorem own_empty_new {Y : World} {base e g : Nat} (hb : base ≤ Y.heap.size) (hg : g = Y.heap.size) : (Y.alloc (.cells #[] e)).ownsRow base e 1 (.slice (some ⟨g, 0, none⟩) 0 0) 0 [] := by
  subst hg
  exact own_empty hb (heap_alloc_new Y _)
theorem nums_news {w : World} {b off n cap : Nat} {l : List Int} (h : Nums .i64 w (some ⟨b, off, none⟩) n cap l) : ∀ j u, (l.map (Value.int .i64))[j]? = some u → w.cell? ((⟨b, off, none⟩ : Addr).add j) = some u := by
  intro j u hj
  obtain ⟨h1, h2, h3, h4⟩ := h
  have hjl : j < l.length := by have := (List.getElem?_eq_some_iff.1 hj).1; simpa using this
  rcases h4 with h4 | ⟨b', off', ha, hb, hc⟩
  · omega
  · simp only [Option.some.injEq, Addr.mk.injEq, and_true] at ha
    obtain ⟨rfl, rfl⟩ := ha
    rw [Addr.add_lit, hc j (by omega), List.getElem?_eq_getElem hjl]
    simp [List.getElem?_map, List.getElem?_eq_getElem hjl] at hj ⊢
    exact hj
theorem Nums.drop1 {k : IntKind} {w : World} {b n cap : Nat} {l : List Int} (h : Nums k w (some ⟨b, 0, none⟩) n cap l) (hi : 1 ≤ n) : Nums k w (some ⟨b, 1, none⟩) (n - 1) (cap - 1) (l.drop 1) := by
  obtain ⟨h1, h2, h3, h4⟩ := h
  refine ⟨by simp; omega, by omega, by omega, ?_⟩
  rcases h4 with h4 | ⟨b', off', ha, hb, hc⟩
  · exact .inl (by omega)
  · simp only [Option.some.injEq, Addr.mk.injEq, and_true] at ha
    obtain ⟨rfl, rfl⟩ := ha
    refine .inr ⟨b, 1, rfl, hb, fun j hj => ?_⟩
    have := hc (1 + j) (by omega)
    rw [Nat.zero_add] at this
    rw [this, List.getElem?_drop]
theorem one_news {w : World} {g : Nat} {x : Int} (h : w.cell? ⟨g, 0, none⟩ = some (.int .i64 x)) : ∀ j u, [Value.int .i64 x][j]? = some u → w.cell? ((⟨g, 0, none⟩ : Addr).add j) = some u := by
  intro j u hj
  match j, hj with
  | 0, hj => simp at hj; subst hj; simpa [Addr.add] using h
  | j + 1, hj => simp at hj
/-- A row that is not nil. -/
def RowNew (l : List Int) (w : World) (e : Ending) (w' : World) : Prop :=
  ∃ g c, e = .returned (.slice (some ⟨g, 0, none⟩) l.length c) ∧ OwnR w' w.heap.size w'.heap.size (.slice (some ⟨g, 0, none⟩) l.length c) l.length l ∧ Below w.heap.size w w'
theorem RowNew.mk' {w w' : World} {v : Value} {n : Nat} {l : List Int} (h : w'.ownsRow w.heap.size 3 1 v n (l.map (Value.int .i64))) (hv : v ≠ .slice none 0 0) (hb : Below w.heap.size w w') : RowNew l w (.returned v) w' := by
  have hl : l.length = n := by have := h.1; simpa using this
  subst hl
  obtain ⟨b, cap, rfl, -⟩ : ∃ b cap, v = .slice (some ⟨b, 0, none⟩) l.length cap ∧ True := by
    rcases h.2 with ⟨rfl, _⟩ | ⟨g, cap, cur, rfl, -⟩
    · exact absurd rfl hv
    · exact ⟨g, cap, rfl, trivial⟩
  exact ⟨b, cap, rfl, OwnR.made h hb.size, hb⟩
end Go.Proofs.Ytofpnmjadflebaa

/-
  Numbers of aggregates and of folds, in the program and in the model; numbers of all rows of a size.
-/
namespace Go.Proofs.Ytofpnmjadflebaa
set_option linter.unusedSimpArgs false
set_option linter.unusedVariables false
open Go.RowKit
/-- The number of an aggregate, or -1. -/
def Agg.num (k : Int) (v : Agg.V) : Int := if (Agg.aLow k v).2 then (Agg.aLow k v).1 else -1
/-- The number of a list's fold, or -1. -/
def Agg.number (k : Int) (l : List Int) : Int := Agg.num k (Agg.fold k l)
/-- The numbers of all rows of s items. -/
def Agg.slides (k : Int) (l : List Int) (s : Nat) : List Int := (List.range (l.length + 1 - s)).map fun i => Agg.number k ((l.drop i).take s)
theorem Agg.slides_len (k : Int) (l : List Int) (s : Nat) : (Agg.slides k l s).length = l.length + 1 - s := by simp [Agg.slides]
theorem Agg.slides_step (k : Int) (l : List Int) (s j : Nat) (h : j < l.length + 1 - s) : (Agg.slides k l s).take (j + 1) = (Agg.slides k l s).take j ++ [Agg.number k ((l.drop j).take s)] := by
  rw [List.take_succ_eq_append_getElem (by rw [Agg.slides_len]; exact h)]
  simp [Agg.slides]
end Go.Proofs.Ytofpnmjadflebaa

/-
  Rows of a list, one some elements behind the other: collected, and their numbers.
-/
namespace Go.Proofs.Ytofpnmjadflebaa
set_option linter.unusedSimpArgs false
set_option linter.unusedVariables false
open Go.RowKit
theorem Nums.part {k : IntKind} {w : World} {b off n cap : Nat} {l : List Int} (h : Nums k w (some ⟨b, off, none⟩) n cap l) {i s : Nat} (hi : i + s ≤ n) : Nums k w (some ⟨b, off + i, none⟩) s (cap - i) ((l.drop i).take s) := by
  obtain ⟨h1, h2, h3, h4⟩ := h
  refine ⟨by simp; omega, by omega, by omega, ?_⟩
  rcases h4 with h4 | ⟨b', off', ha, hb, hc⟩
  · exact .inl (by omega)
  · simp only [Option.some.injEq, Addr.mk.injEq, and_true] at ha
    obtain ⟨rfl, rfl⟩ := ha
    refine .inr ⟨b, off + i, rfl, hb, fun j hj => ?_⟩
    rw [Nat.add_assoc, hc (i + j) (by omega), List.getElem?_take, if_pos hj, List.getElem?_drop]
theorem part_ok {l : List Int} (h : Agg.itemsOk l = true) (i s : Nat) : Agg.itemsOk ((l.drop i).take s) = true := Agg.items_take (Agg.items_drop h i) s
/-- A row of numbers of the call's own, and whether there is one. -/
def RowOut (l : List Int) (b : Bool) (w : World) (e : Ending) (w' : World) : Prop :=
  ∃ (v : Value) (n : Nat), e = .returned (.tuple #[v, .bool b]) ∧ OwnR w' w.heap.size w'.heap.size v n l ∧ Below w.heap.size w w'
theorem RowOut.none_ {w w' : World} (h : Below w.heap.size w w') : RowOut [] false w (.returned (.tuple #[.slice none 0 0, .bool false])) w' :=
  ⟨_, 0, rfl, OwnR.made (World.ownsRow_nil _ _ _ _) h.size, h⟩
/-- How many rows of s elements of n there are that begin h elements apart. -/
def Agg.rowsN (n s h : Nat) : Nat := if n < s then 0 else (n - s) / h + 1
theorem Agg.rowsN_lt {n s h j : Nat} (hh : 1 ≤ h) : j < Agg.rowsN n s h ↔ s + j * h ≤ n := by
  unfold Agg.rowsN
  split
  · constructor
    · intro h2; omega
    · intro h2; have := Nat.zero_le (j * h); omega
  · have := Nat.le_div_iff_mul_le (x := j) (y := n - s) (k := h) (by omega)
    constructor
    · intro h2; have := this.1 (by omega); omega
    · intro h2; have := this.2 (by omega); omega
theorem Agg.rowsN_le {n s h : Nat} (hs : 1 ≤ s) : Agg.rowsN n s h ≤ n := by
  unfold Agg.rowsN
  split
  · omega
  · have := Nat.div_le_self (n - s) h; omega
theorem Agg.rowsN_one {n s : Nat} (hs : 1 ≤ s) : Agg.rowsN n s 1 = n + 1 - s := by
  unfold Agg.rowsN
  split <;> (try rw [Nat.div_one]) <;> omega
/-- The numbers of n rows. -/
def Agg.nums (k : Int) (f : Nat → List Int) (n : Nat) : List Int := (List.range n).map fun i => Agg.number k (f i)
theorem Agg.nums_len (k : Int) (f : Nat → List Int) (n : Nat) : (Agg.nums k f n).length = n := by simp [Agg.nums]
theorem Agg.nums_step (k : Int) (f : Nat → List Int) (n j : Nat) (h : j < n) : (Agg.nums k f n).take (j + 1) = (Agg.nums k f n).take j ++ [Agg.number k (f j)] := by
  rw [List.take_succ_eq_append_getElem (by rw [Agg.nums_len]; exact h)]
  simp [Agg.nums]
/-- The numbers of the rows of s items that begin h items apart. -/
def Agg.hops (k : Int) (l : List Int) (s h : Nat) : List Int := Agg.nums k (fun j => (l.drop (j * h)).take s) (Agg.rowsN l.length s h)
theorem Agg.slides_hops (k : Int) (l : List Int) {s : Nat} (hs : 1 ≤ s) : Agg.slides k l s = Agg.hops k l s 1 := by
  simp [Agg.slides, Agg.hops, Agg.nums, Agg.rowsN_one hs]
/-- A slice of slices of numbers. -/
def Rows2 (w : World) (a : Option Addr) (n cap : Nat) (f : Nat → List Int) : Prop :=
  n ≤ cap ∧ cap ≤ 9223372036854775807 ∧ (n = 0 ∨ ∃ b off, a = some ⟨b, off, none⟩ ∧ b < w.heap.size ∧ ∀ i, i < n → ∃ a' m c, w.cell? ⟨b, off + i, none⟩ = some (.slice a' m c) ∧ Nums .i64 w a' m c (f i))
theorem Rows2.below {w w' : World} {a : Option Addr} {n cap : Nat} {f : Nat → List Int} (h : Rows2 w a n cap f) (hb : Below w.heap.size w w') : Rows2 w' a n cap f := by
  obtain ⟨h1, h2, h3⟩ := h
  refine ⟨h1, h2, ?_⟩
  rcases h3 with h3 | ⟨b, off, ha, hlt, hc⟩
  · exact .inl h3
  · refine .inr ⟨b, off, ha, Nat.lt_of_lt_of_le hlt hb.size, fun i hi => ?_⟩
    obtain ⟨a', m, c, e, hN⟩ := hc i hi
    exact ⟨a', m, c, (hb.cell (p := ⟨b, off + i, none⟩) hlt).trans e, hN.below hb⟩
theorem Rows2.zero (w : World) (a : Option Addr) (cap : Nat) (f : Nat → List Int) (h : cap ≤ 9223372036854775807) : Rows2 w a 0 cap f := ⟨Nat.zero_le _, h, .inl rfl⟩
end Go.Proofs.Ytofpnmjadflebaa

/-
  SlideNumbers, in the program and in the model: a row of its own with the numbers of all rows of a size.
-/
namespace Go.Proofs.Ytofpnmjadflebaa
set_option linter.unusedSimpArgs false
set_option linter.unusedVariables false
open Go.RowKit
/-- Whether SlideNumbers has numbers. -/
def Agg.slideOk (k : Int) (l : List Int) (s : Int) : Bool := Agg.isKind k && Agg.itemsOk l && decide (1 ≤ s ∧ s ≤ 60)
def Agg.slideOut (k : Int) (l : List Int) (s : Int) : List Int := if Agg.slideOk k l s then Agg.slides k l s.toNat else []
end Go.Proofs.Ytofpnmjadflebaa

/-
  WindowAfter, in the program and in the model.
-/
namespace Go.Proofs.Ytofpnmjadflebaa
set_option linter.unusedSimpArgs false
set_option linter.unusedVariables false
open Go.RowKit
def Agg.winOut (l : List (Bool × Int)) : List Int := if Agg.opsOk l then Agg.winAt l l.length else []
theorem Agg.opsOk_parts {l : List (Bool × Int)} (h : Agg.opsOk l = true) : l.length ≤ 200 ∧ Agg.allOk l l.length = true ∧ Agg.fitTo l l.length = true := by
  simp only [Agg.opsOk, Bool.and_eq_true, decide_eq_true_eq] at h
  exact ⟨h.1.1, h.1.2, h.2⟩
theorem Agg.winOut_len (l : List (Bool × Int)) : (Agg.winOut l).length ≤ 60 := by
  unfold Agg.winOut
  split
  · rename_i h
    exact Agg.win_len _ (Agg.opsOk_parts h).2.2
  · simp
end Go.Proofs.Ytofpnmjadflebaa

/-
  QueriesOf, in the program and in the model.
-/
namespace Go.Proofs.Ytofpnmjadflebaa
set_option linter.unusedSimpArgs false
set_option linter.unusedVariables false
open Go.RowKit
/-- The numbers of the windows after each change. -/
def Agg.qs (k : Int) (l : List (Bool × Int)) : List Int := (List.range l.length).map fun i => Agg.number k (Agg.winAt l (i + 1))
def Agg.qOk (k : Int) (l : List (Bool × Int)) : Bool := Agg.isKind k && Agg.opsOk l
def Agg.qOut (k : Int) (l : List (Bool × Int)) : List Int := if Agg.qOk k l then Agg.qs k l else []
theorem Agg.qs_len (k : Int) (l : List (Bool × Int)) : (Agg.qs k l).length = l.length := by simp [Agg.qs]
theorem Agg.qs_step (k : Int) (l : List (Bool × Int)) (j : Nat) (h : j < l.length) : (Agg.qs k l).take (j + 1) = (Agg.qs k l).take j ++ [Agg.number k (Agg.winAt l (j + 1))] := by
  rw [List.take_succ_eq_append_getElem (by rw [Agg.qs_len]; exact h)]
  simp [Agg.qs]
theorem Agg.qOut_len (k : Int) (l : List (Bool × Int)) : (Agg.qOut k l).length ≤ 200 := by
  unfold Agg.qOut
  split
  · rename_i h
    simp only [Agg.qOk, Bool.and_eq_true] at h
    rw [Agg.qs_len]
    exact (Agg.opsOk_parts h.2).1
  · simp
theorem Agg.win_ok {l : List (Bool × Int)} (h : Agg.opsOk l = true) (i : Nat) (hi : i ≤ l.length) : Agg.itemsOk (Agg.winAt l i) = true := by
  obtain ⟨-, h1, h2⟩ := Agg.opsOk_parts h
  exact Agg.items_of (Agg.win_len i (Agg.fitTo_down hi h2)) (Agg.win_items i (Agg.allOk_down hi h1))
end Go.Proofs.Ytofpnmjadflebaa

/-
  A kind of aggregates as the program's interface value: which functions its methods are, and what they answer, for all kinds at once.
-/
namespace Go.Proofs.Ytofpnmjadflebaa
set_option linter.unusedSimpArgs false
set_option linter.unusedVariables false
open Go.RowKit
end Go.Proofs.Ytofpnmjadflebaa
