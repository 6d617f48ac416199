import Derived.Test.YtolgclajlklmaaaQx
import Derived.Test.Ytolgclajlklmaaa3ra
import Derived.Test.YtolgclajlklmaaaTa
import Derived.Deep.RegionHeld3
import Derived.Deep.Cut
import Derived.Deep.DeepMust
/-
  What rows of deques need: the second of two rows of one's own, which lies apart from the first.
-/
namespace Go.Proofs.Ytolgclajlklmaaa
set_option linter.unusedSimpArgs false
set_option linter.unusedVariables false
open Go.RowKit
theorem OwnS.put {w : World} {lo hi n c o : Nat} {v u : Value} {l : List Int} (h : OwnS w lo hi v n l) (hc : c < lo) : OwnS (w.setCell ⟨c, o, none⟩ u) lo hi v n l :=
  h.kept (row := some c) ⟨rfl, rfl, rfl, by simp [World.setCell], fun k hk hne => Below.heap_setCell _ _ _ _ (fun e => hne (by rw [e]))⟩ (fun j e => .inl (.inl (by have := Option.some.inj e; omega)))
theorem own_hiS {w : World} {lo hi n : Nat} {v : Value} {l : List Int} (h : OwnS w lo hi v n l) : hi ≤ w.heap.size := h.2.2.1
/-- A row of numbers of one's own that does not lie in the block of another one. -/
def OwnD (w : World) (lo hi : Nat) (u v : Value) (n : Nat) (l : List Int) : Prop := OwnS w lo hi v n l ∧ (u.ownBlock = none ∨ u.ownBlock ≠ v.ownBlock)
section
variable {w w' : World} {lo hi lo' hi' n : Nat} {u v : Value} {l : List Int}
theorem OwnD.kept {row : Option Nat} (h : OwnD w lo hi u v n l) (hg : w.grownBy w' row) (hr : ∀ j, row = some j → (j < lo ∨ hi ≤ j) ∨ v.ownBlock ≠ some j) : OwnD w' lo hi u v n l := ⟨h.1.kept hg hr, h.2⟩
theorem OwnD.below (h : OwnD w lo hi u v n l) (hb : Below w.heap.size w w') : OwnD w' lo hi u v n l := ⟨h.1.below hb, h.2⟩
theorem OwnD.wide (h : OwnD w lo hi u v n l) (h1 : lo' ≤ lo) (h2 : hi ≤ hi') (h3 : hi' ≤ w.heap.size) : OwnD w lo' hi' u v n l := ⟨h.1.wide h1 h2 h3, h.2⟩
theorem OwnD.nums (h : OwnD w lo hi u v n l) : ∃ a cap, v = .slice a n cap ∧ Nums .i64 w a n cap l := h.1.nums
theorem OwnD.put {c o : Nat} {x : Value} (h : OwnD w lo hi u v n l) (hc : c < lo) : OwnD (w.setCell ⟨c, o, none⟩ x) lo hi u v n l := ⟨h.1.put hc, h.2⟩
theorem own_hiD (h : OwnD w lo hi u v n l) : hi ≤ w.heap.size := h.1.2.2.1
end
end Go.Proofs.Ytolgclajlklmaaa

/-
  Rows of deques, one behind each change.
-/
namespace Go.Proofs.Ytolgclajlklmaaa
set_option linter.unusedSimpArgs false
set_option linter.unusedVariables false
open Go.RowKit
def dqCells (v0 v1 : Value) (s : Agg.Dq) : List Value := [v0, v1, .int .i64 s.first, .int .i64 s.next, .int .i64 s.drops]
/-- A row of deques of the call's own, each with its rows in memory of its own that the row itself does not lie in. -/
def DqRow (w : World) (base lo0 c : Nat) (v : Value) (n : Nat) (S : Nat → Agg.Dq) : Prop :=
  ∃ C : Nat → List Value, w.ownsRow base 26 5 v n (flat C n) ∧ ∀ i, i < n → ∃ v0 v1 lo hi, C i = dqCells v0 v1 (S i) ∧ OwnS w lo hi v0 (S i).items.length (S i).items ∧ OwnD w lo hi v0 v1 (S i).places.length (S i).places ∧ lo0 ≤ lo ∧ (∀ g, v.ownBlock = some g → g < lo ∨ hi ≤ g) ∧ (c < lo ∨ hi ≤ c)
theorem DqRow.below {w w' : World} {base lo0 c n : Nat} {v : Value} {S : Nat → Agg.Dq} (h : DqRow w base lo0 c v n S) (hb : Below w.heap.size w w') : DqRow w' base lo0 c v n S := by
  obtain ⟨C, h1, h2⟩ := h
  refine ⟨C, h1.kept (Below.grownNone hb none) (by cases hv : v.ownBlock <;> simp), fun i hi => ?_⟩
  obtain ⟨v0, v1, lo, hi', e, h10, h11, d⟩ := h2 i hi
  exact ⟨v0, v1, lo, hi', e, h10.below hb, h11.below hb, d⟩
theorem DqRow.lower {w : World} {base base' lo0 lo0' c n : Nat} {v : Value} {S : Nat → Agg.Dq} (h : DqRow w base lo0 c v n S) (h1 : base' ≤ base) (h2 : lo0' ≤ lo0) : DqRow w base' lo0' c v n S := by
  obtain ⟨C, g1, g2⟩ := h
  refine ⟨C, owns_lower g1 h1, fun i hi => ?_⟩
  obtain ⟨v0, v1, lo, hi', e, h10, h11, d1, d2⟩ := g2 i hi
  exact ⟨v0, v1, lo, hi', e, h10, h11, by omega, d2⟩
theorem DqRow.set {w : World} {base lo0 c o n : Nat} {u v : Value} {S : Nat → Agg.Dq} (h : DqRow w base lo0 c v n S) (hc : c < base) : DqRow (w.setCell ⟨c, o, none⟩ u) base lo0 c v n S := by
  obtain ⟨C, g1, g2⟩ := h
  have hset : w.grownBy (w.setCell ⟨c, o, none⟩ u) (some c) := ⟨rfl, rfl, rfl, by simp [World.setCell], fun k hk hne => Below.heap_setCell _ _ _ _ (fun e => hne (by rw [e]))⟩
  refine ⟨C, g1.kept hset ?_, fun i hi => ?_⟩
  · cases hv : v.ownBlock with
    | none => exact .inl rfl
    | some g => exact .inr (fun e => by have := (g1.lt g hv).1; have := Option.some.inj e; omega)
  · obtain ⟨v0, v1, lo, hi', e, h10, h11, d1, d2, d3⟩ := g2 i hi
    exact ⟨v0, v1, lo, hi', e, h10.kept hset (fun j e => .inl (by have := Option.some.inj e; omega)), h11.kept hset (fun j e => .inl (by have := Option.some.inj e; omega)), d1, d2, d3⟩
/-- A slice of deques that is read. -/
def DqsAt (w : World) (a : Option Addr) (n cap : Nat) (S : Nat → Agg.Dq) : Prop :=
  n ≤ cap ∧ cap ≤ 9223372036854775807 ∧ (n = 0 ∨ ∃ b off, a = some ⟨b, off, none⟩ ∧ b < w.heap.size ∧ ∀ i, i < n → ∃ ia ic pa pc, (w.cell? ⟨b, off + i * 5, none⟩ = some (.slice ia (S i).items.length ic) ∧ w.cell? ⟨b, off + i * 5 + 1, none⟩ = some (.slice pa (S i).places.length pc) ∧ w.cell? ⟨b, off + i * 5 + 2, none⟩ = some (.int .i64 (S i).first) ∧ w.cell? ⟨b, off + i * 5 + 3, none⟩ = some (.int .i64 (S i).next) ∧ w.cell? ⟨b, off + i * 5 + 4, none⟩ = some (.int .i64 (S i).drops)) ∧ Nums .i64 w ia (S i).items.length ic (S i).items ∧ Nums .i64 w pa (S i).places.length pc (S i).places)
theorem DqsAt.below {w w' : World} {a : Option Addr} {n cap : Nat} {S : Nat → Agg.Dq} (h : DqsAt w a n cap S) (hb : Below w.heap.size w w') : DqsAt w' a n cap S := by
  obtain ⟨h1, h2, h3⟩ := h
  refine ⟨h1, h2, ?_⟩
  rcases h3 with h3 | ⟨b, off, ha, hlt, hc⟩
  · exact .inl h3
  · refine .inr ⟨b, off, ha, Nat.lt_of_lt_of_le hlt hb.size, fun i hi => ?_⟩
    obtain ⟨ia, ic, pa, pc, ⟨q0, q1, q2, q3, q4⟩, h10, h11⟩ := hc i hi
    have k := fun o => hb.cell (p := ⟨b, o, none⟩) hlt
    exact ⟨ia, ic, pa, pc, ⟨(k _).trans q0, (k _).trans q1, (k _).trans q2, (k _).trans q3, (k _).trans q4⟩, h10.below hb, h11.below hb⟩
/-- The row as a slice that is read, from its state i on. -/
theorem DqRow.read {w : World} {base lo0 c n : Nat} {v : Value} {S : Nat → Agg.Dq} (h : DqRow w base lo0 c v n S) (hn : 0 < n) :
    ∃ g cap, v = .slice (some ⟨g, 0, none⟩) n cap ∧ base ≤ g ∧ g < w.heap.size ∧ n ≤ cap ∧ cap ≤ 9223372036854775807 ∧ ∀ i, i ≤ n → DqsAt w (some ⟨g, i * 5, none⟩) (n - i) (cap - i) (fun j => S (i + j)) := by
  obtain ⟨C, h1, h2⟩ := h
  obtain ⟨g, cap, rfl, hb, hg, hnc, hcm, hcell⟩ := own_cells h1 hn
  refine ⟨g, cap, rfl, hb, hg, hnc, hcm, fun i hi => ⟨by omega, by omega, .inr ⟨g, i * 5, rfl, hg, fun j hj => ?_⟩⟩⟩
  have hlen : ∀ q, q < n → (C q).length = 5 := fun q hq => by
    obtain ⟨v0, v1, lo, hi', e, -⟩ := h2 q hq
    rw [e]; rfl
  obtain ⟨v0, v1, lo, hi', e, h10, h11, -⟩ := h2 (i + j) (by omega)
  obtain ⟨ia, ic, rfl, h20⟩ := h10.nums
  obtain ⟨pa, pc, rfl, h21⟩ := h11.nums
  have hc : ∀ c, c < 5 → w.cell? ⟨g, i * 5 + j * 5 + c, none⟩ = (C (i + j))[c]? := fun c hc => by
    rw [hcell _ (by omega), show i * 5 + j * 5 + c = (i + j) * 5 + c by omega]
    exact flat_at hlen _ _ (by omega) hc
  refine ⟨ia, ic, pa, pc, ⟨?_, ?_, ?_, ?_, ?_⟩, h20, h21⟩
  · have := hc 0 (by omega); rw [e] at this; exact this
  · have := hc 1 (by omega); rw [e] at this; exact this
  · have := hc 2 (by omega); rw [e] at this; exact this
  · have := hc 3 (by omega); rw [e] at this; exact this
  · have := hc 4 (by omega); rw [e] at this; exact this
/-- A state of the row as the value of a variable, in memory of its own. -/
theorem DqRow.own {w : World} {base lo0 c n : Nat} {v : Value} {S : Nat → Agg.Dq} (h : DqRow w base lo0 c v n S) {i : Nat} (hi : i < n) :
    ∃ g cap v0 v1 lo, v = .slice (some ⟨g, 0, none⟩) n cap ∧ (w.cell? ⟨g, i * 5, none⟩ = some v0 ∧ w.cell? ⟨g, i * 5 + 1, none⟩ = some v1 ∧ w.cell? ⟨g, i * 5 + 2, none⟩ = some (.int .i64 (S i).first) ∧ w.cell? ⟨g, i * 5 + 3, none⟩ = some (.int .i64 (S i).next) ∧ w.cell? ⟨g, i * 5 + 4, none⟩ = some (.int .i64 (S i).drops)) ∧ lo0 ≤ lo ∧ OwnS w lo w.heap.size v0 (S i).items.length (S i).items ∧ OwnD w lo w.heap.size v0 v1 (S i).places.length (S i).places := by
  obtain ⟨C, h1, h2⟩ := h
  obtain ⟨g, cap, rfl, hb, hg, hnc, hcm, hcell⟩ := own_cells h1 (by omega)
  have hlen : ∀ q, q < n → (C q).length = 5 := fun q hq => by
    obtain ⟨v0, v1, lo, hi', e, -⟩ := h2 q hq
    rw [e]; rfl
  obtain ⟨v0, v1, lo, hi', e, h10, h11, hlo, -⟩ := h2 i hi
  have hc : ∀ c, c < 5 → w.cell? ⟨g, i * 5 + c, none⟩ = (C i)[c]? := fun c hc => by
    rw [hcell _ (by omega)]
    exact flat_at hlen _ _ (by omega) hc
  refine ⟨g, cap, v0, v1, lo, rfl, ⟨?_, ?_, ?_, ?_, ?_⟩, hlo, h10.wide (Nat.le_refl _) (own_hiS h10) (Nat.le_refl _), h11.wide (Nat.le_refl _) (own_hiD h11) (Nat.le_refl _)⟩
  · have := hc 0 (by omega); rw [e] at this; exact this
  · have := hc 1 (by omega); rw [e] at this; exact this
  · have := hc 2 (by omega); rw [e] at this; exact this
  · have := hc 3 (by omega); rw [e] at this; exact this
  · have := hc 4 (by omega); rw [e] at this; exact this
/-- A state more behind the row. -/
theorem DqRow.more {w w1 w2 : World} {base lo0 c n lo hi : Nat} {v v' v0 v1 : Value} {S : Nat → Agg.Dq} {C : Nat → List Value}
    (h2 : ∀ i, i < n → ∃ v0 v1 lo hi, C i = dqCells v0 v1 (S i) ∧ OwnS w lo hi v0 (S i).items.length (S i).items ∧ OwnD w lo hi v0 v1 (S i).places.length (S i).places ∧ lo0 ≤ lo ∧ (∀ g, v.ownBlock = some g → g < lo ∨ hi ≤ g) ∧ (c < lo ∨ hi ≤ c))
    (hb : Below w.heap.size w w1) (hV : OwnS w1 lo hi v0 (S n).items.length (S n).items ∧ OwnD w1 lo hi v0 v1 (S n).places.length (S n).places) (hlo : lo0 ≤ lo) (hnew : ∀ g, v.ownBlock = some g → g < lo ∨ hi ≤ g) (hcc : c < lo ∨ hi ≤ c)
    (hg : w1.grownBy w2 v.ownBlock) (hown : w2.ownsRow base 26 5 v' (n + 1) (flat C n ++ dqCells v0 v1 (S n))) (hwh : v'.ownBlock = v.ownBlock ∨ ∃ g, v'.ownBlock = some g ∧ w1.heap.size ≤ g) : DqRow w2 base lo0 c v' (n + 1) S := by
  refine ⟨fun i => if i = n then dqCells v0 v1 (S n) else C i, by rw [flat_put]; exact hown, fun i hi => ?_⟩
  have hout : ∀ {lo hi : Nat}, hi ≤ w1.heap.size → (∀ g, v.ownBlock = some g → g < lo ∨ hi ≤ g) → ∀ g, v'.ownBlock = some g → g < lo ∨ hi ≤ g := fun hle hh g hgv => by
    rcases hwh with e | ⟨g', e, hge⟩
    · exact hh g (e ▸ hgv)
    · rw [e] at hgv
      obtain rfl := Option.some.inj hgv
      exact .inr (by omega)
  by_cases hin : i = n
  · subst hin
    obtain ⟨h10, h11⟩ := hV
    exact ⟨v0, v1, lo, _, by simp, h10.kept hg (fun g e => .inl (hnew g e)), h11.kept hg (fun g e => .inl (hnew g e)), hlo, hout (own_hiS h10) hnew, hcc⟩
  · obtain ⟨v0', v1', lo', hi', e, h10, h11, d0, d, d3⟩ := h2 i (by omega)
    have h20 := h10.below hb
    have h21 := h11.below hb
    exact ⟨v0', v1', lo', hi', by simp [hin, e], h20.kept hg (fun g e => .inl (d g e)), h21.kept hg (fun g e => .inl (d g e)), d0, hout (own_hiS h20) d, d3⟩
end Go.Proofs.Ytolgclajlklmaaa

/-
  The program's list of the states of deques, from the one before all changes on.
-/
namespace Go.Proofs.Ytolgclajlklmaaa
set_option linter.unusedSimpArgs false
set_option linter.unusedVariables false
open Go.RowKit
theorem Box5.news {w : World} {c : Nat} {T : TypeId} {v0 v1 v2 v3 v4 : Value} (h : Box5 w c T v0 v1 v2 v3 v4) : ∀ j u, [v0, v1, v2, v3, v4][j]? = some u → w.cell? ((⟨c, 0, none⟩ : Addr).add j) = some u := by
  obtain ⟨h0, h1, h2, h3, h4⟩ := h.cells
  intro j u hj
  rw [Addr.add_lit, Nat.zero_add]
  match j, hj with
  | 0, hj => simp at hj; subst hj; exact h0
  | 1, hj => simp at hj; subst hj; exact h1
  | 2, hj => simp at hj; subst hj; exact h2
  | 3, hj => simp at hj; subst hj; exact h3
  | 4, hj => simp at hj; subst hj; exact h4
  | j + 5, hj => simp at hj
/-- What a step, or the start, answers. -/
def DqMade (b : Bool) (s : Agg.Dq) (w : World) (e : Ending) (w' : World) : Prop :=
  ∃ v0 v1, e = .returned (.tuple #[.agg #[v0, v1, .int .i64 s.first, .int .i64 s.next, .int .i64 s.drops], .bool b]) ∧ (OwnS w' w.heap.size w'.heap.size v0 s.items.length s.items ∧ OwnD w' w.heap.size w'.heap.size v0 v1 s.places.length s.places) ∧ Below w.heap.size w w'
/-- The states, in a row of the call's own. -/
def DqStates (b : Bool) (n : Nat) (S : Nat → Agg.Dq) (w : World) (e : Ending) (w' : World) : Prop :=
  ∃ v, e = .returned (.tuple #[v, .bool b]) ∧ (b = true → ∃ c, DqRow w' w.heap.size w.heap.size c v n S) ∧ Below w.heap.size w w'
theorem infoDq : (Try.prog.info? 26).map (fun i => (i.zero, i.size, i.bytes)) = some (some (.agg #[.slice none 0 0, .slice none 0 0, .int .i64 0, .int .i64 0, .int .i64 0]), 5, 72) := by kernel_rfl
set_option maxRecDepth 8000 in
set_option maxHeartbeats 4000000 in
theorem statesOf_dq (k : Int) (f0 f1 : Nat) (c0 : ∀ args w, Sem.run Try.prog (Go.callFunc f0 args) w = .ok (.enter f0 args) w) (c1 : ∀ args w, Sem.run Try.prog (Go.callFunc f1 args) w = .ok (.enter f1 args) w)
    (kb : Bool) (S : Nat → Agg.Dq) (a : Option Addr) (n cap : Nat) (l : List (Bool × Int)) (w : World) (h : Ops w a n cap l)
    (hstart : ∀ w', Calls Try.prog f0 #[.int .i64 k] w' (DqMade kb (S 0) w'))
    (hstep : kb = true → Agg.opsOk l = true → ∀ j, j < n → ∀ w' ia ic pa pc, Nums .i64 w' ia (S j).items.length ic (S j).items → Nums .i64 w' pa (S j).places.length pc (S j).places →
      Calls Try.prog f1 #[.int .i64 k, .agg #[.slice ia (S j).items.length ic, .slice pa (S j).places.length pc, .int .i64 (S j).first, .int .i64 (S j).next, .int .i64 (S j).drops], .agg #[.bool (Agg.opAt l j).1, .int .i64 (Agg.opAt l j).2]] w' (DqMade true (S (j + 1)) w')) :
    Calls Try.prog 55 #[.int .i64 k, .slice a n cap, .func (.func f0) #[] #[], .func (.func f1) #[] #[]] w (DqStates (kb && Agg.opsOk l) (n + 1) S w) := by
  obtain ⟨i0, hi0, hz0, hz1, hz2⟩ := info_parts infoDq
  have hll : l.length = n := h.1
  have hnc : n ≤ cap := h.2.1
  have hcm : cap ≤ 9223372036854775807 := by have := h.2.2.1; unfold maxLen at this; omega
  have H0 := Lib.hid h
  have HLL := Lib.hid hll
  have HC0 := Lib.hid (hstart w)
  have HSTP := Lib.hid hstep
  clear h hll hstart hstep
  obtain ⟨lb, hlb⟩ : ∃ lb, lb = Agg.opsOk l := ⟨_, rfl⟩
  rw [← hlb]
  have HLB := Lib.hid hlb
  clear hlb
  go_enter Try.func55, Try.ntmps55
  go_wp2_with fail
  refine HC0.out.mono ?_
  rintro e w1 ⟨v0, v1, rfl, ⟨h10, h11⟩, hb1⟩
  obtain ⟨ia, ic, rfl, -⟩ := id h10.nums
  obtain ⟨pa, pc, rfl, -⟩ := id h11.nums
  obtain ⟨W2, hW2⟩ : ∃ W2, W2 = w1.alloc (.cells #[.slice ia (S 0).items.length ic, .slice pa (S 0).places.length pc, .int .i64 (S 0).first, .int .i64 (S 0).next, .int .i64 (S 0).drops] 26) := ⟨_, rfl⟩
  have hbn : Below w1.heap.size w1 W2 := by rw [hW2]; exact (Below.refl _ _).alloc (Nat.le_refl _) _
  have HX2 := Lib.hid (show Box5 W2 w1.heap.size 26 (.slice ia (S 0).items.length ic) (.slice pa (S 0).places.length pc) (.int .i64 (S 0).first) (.int .i64 (S 0).next) (.int .i64 (S 0).drops) from by rw [hW2]; exact Box5.new w1 _ _ _ _ _ _)
  have HB2 := Lib.hid (hb1.trans (hbn.mono hb1.size))
  have HV2 := Lib.hid (show OwnS W2 w.heap.size w1.heap.size (.slice ia (S 0).items.length ic) (S 0).items.length (S 0).items ∧ OwnD W2 w.heap.size w1.heap.size (.slice ia (S 0).items.length ic) (.slice pa (S 0).places.length pc) (S 0).places.length (S 0).places from ⟨h10.below hbn, h11.below hbn⟩)
  have hsv1 : w.heap.size ≤ w1.heap.size := hb1.size
  clear hb1 hbn h10 h11
  go_upto_region 2 with (fail)
  rw [← hW2]
  clear hW2
  obtain ⟨sv, hsv⟩ : ∃ sv, sv = w1.heap.size := ⟨_, rfl⟩
  rw [← hsv] at HX2 HV2 hsv1 ⊢
  clear hsv
  cases kb
  · go_wp2
    go_returns
    exact ⟨_, rfl, (fun h => by simp at h), HB2.out⟩
  · go_wp2_with fail
    refine (opsValid_any a n cap l _ (H0.out.below HB2.out)).mono ?_
    rintro e w3 ⟨rfl, hb3⟩
    rw [← HLB.out]
    have HX3 := Lib.hid (HX2.out.call hb3)
    have HB3 := Lib.hid (HB2.out.trans (hb3.mono HB2.out.size))
    have HV3 := Lib.hid (show OwnS w3 w.heap.size sv (.slice ia (S 0).items.length ic) (S 0).items.length (S 0).items ∧ OwnD w3 w.heap.size sv (.slice ia (S 0).items.length ic) (.slice pa (S 0).places.length pc) (S 0).places.length (S 0).places from by obtain ⟨h10, h11⟩ := HV2.out; exact ⟨h10.below hb3, h11.below hb3⟩)
    clear hb3 HX2 HB2 HV2 HC0
    cases lb
    · go_wp2
      go_returns
      exact ⟨_, rfl, (fun h => by simp at h), HB3.out⟩
    · have hops := HLB.out.symm
      have HSTJ := Lib.hid (HSTP.out (by first | rfl | trivial) hops)
      clear HSTP
      have hn2 : n ≤ 200 := by
        simp only [Agg.opsOk, Bool.and_eq_true, decide_eq_true_eq] at hops
        have := hops.1.1
        have := HLL.out
        omega
      have hlx := HX3.out.lt
      obtain ⟨q0, q1, q2, q3, q4⟩ := HX3.out.cells
      obtain ⟨W4, hW4⟩ : ∃ W4, W4 = w3.alloc (.cells #[.slice ia (S 0).items.length ic, .slice pa (S 0).places.length pc, .int .i64 (S 0).first, .int .i64 (S 0).next, .int .i64 (S 0).drops] 26) := ⟨_, rfl⟩
      have hbn : Below w3.heap.size w3 W4 := by rw [hW4]; exact (Below.refl _ _).alloc (Nat.le_refl _) _
      have HX4 := Lib.hid (HX3.out.call hbn)
      have HB4 := Lib.hid (HB3.out.trans (hbn.mono HB3.out.size))
      have HS4 := Lib.hid (show DqRow W4 (sv + 1) w.heap.size sv (.slice (some ⟨w3.heap.size, 0, none⟩) 1 1) 1 S ∧ (∃ lo hi, OwnS W4 lo hi (.slice ia (S 0).items.length ic) (S 0).items.length (S 0).items ∧ OwnD W4 lo hi (.slice ia (S 0).items.length ic) (.slice pa (S 0).places.length pc) (S 0).places.length (S 0).places) from by
        have hVV : OwnS W4 w.heap.size sv (.slice ia (S 0).items.length ic) (S 0).items.length (S 0).items ∧ OwnD W4 w.heap.size sv (.slice ia (S 0).items.length ic) (.slice pa (S 0).places.length pc) (S 0).places.length (S 0).places := by obtain ⟨h10, h11⟩ := HV3.out; exact ⟨h10.below hbn, h11.below hbn⟩
        have hgg : ∀ g, (Value.slice (some ⟨w3.heap.size, 0, none⟩) 1 1).ownBlock = some g → g < w.heap.size ∨ sv ≤ g := fun g hg => by
          simp only [Value.ownBlock, Option.some.injEq] at hg
          exact .inr (by omega)
        refine ⟨⟨fun _ => dqCells (.slice ia (S 0).items.length ic) (.slice pa (S 0).places.length pc) (S 0), ?_, fun i hi => ?_⟩, w.heap.size, sv, hVV⟩
        · rw [hW4]
          have := own_lit (w := w3) (base := sv + 1) (n := 1) (size := 5) (e := 26) #[.slice ia (S 0).items.length ic, .slice pa (S 0).places.length pc, .int .i64 (S 0).first, .int .i64 (S 0).next, .int .i64 (S 0).drops] (by omega) (by simp [maxLen]) (by simp)
          simpa [flat, dqCells] using this
        · obtain rfl : i = 0 := by omega
          obtain ⟨h10, h11⟩ := hVV
          exact ⟨_, _, w.heap.size, sv, rfl, h10, h11, Nat.le_refl _, hgg, .inr (Nat.le_refl _)⟩)
      clear hbn HX3 HB3 HV3 hops
      go_upto_region 5 with (fail)
      rw [← hW4]
      obtain ⟨rv, hrv⟩ : ∃ rv, rv = Value.slice (some ⟨w3.heap.size, 0, none⟩) 1 1 := ⟨_, rfl⟩
      rw [← hrv] at HS4 ⊢
      clear hW4 hrv q0 q1 q2 q3 q4
      go_wp2_with fail
      go_loopw [12, 32] (fun ov i wr => ∃ (j lo hi : Nat) (ia : Option Addr) (ic : Nat) (pa : Option Addr) (pc : Nat), j ≤ n ∧ i = .int .i64 j ∧ Hid (DqRow wr (sv + 1) w.heap.size sv ov (j + 1) S) ∧ Hid (Box5 wr sv 26 (.slice ia (S j).items.length ic) (.slice pa (S j).places.length pc) (.int .i64 (S j).first) (.int .i64 (S j).next) (.int .i64 (S j).drops)) ∧ Hid (OwnS wr lo hi (.slice ia (S j).items.length ic) (S j).items.length (S j).items ∧ OwnD wr lo hi (.slice ia (S j).items.length ic) (.slice pa (S j).places.length pc) (S j).places.length (S j).places) ∧ Hid (Below w.heap.size w wr)) (fun _ i _ => n - (intOf i).toNat)
      case atStart =>
        obtain ⟨hs4, lo4, hi4, hV4⟩ := HS4.out
        exact ⟨0, lo4, hi4, ia, ic, pa, pc, Nat.zero_le _, rfl, Lib.hid hs4, HX4, Lib.hid hV4, HB4⟩
      case round =>
        clear HX4 HB4 HS4
        obtain ⟨j, lo, hi, gia, gic, gpa, gpc, hj, rfl, ho, hx, hrows, hw⟩ := hrel
        have hwr := hw.out.size
        have hxl := hx.out.lt
        by_cases hlt : j < n
        · rcases H0.out.2.2.2 with h4 | ⟨b, off, rfl, hbl, hcs⟩
          · omega
          · have hc0 := (hcs j hlt).1
            have hd0 := (hcs j hlt).2
            clear hcs
            obtain ⟨h10, h11⟩ := hrows.out
            have r0 : Nums .i64 wr gia (S j).items.length gic (S j).items := by
              obtain ⟨a1, b1, e1, hX⟩ := h10.nums
              simp only [Value.slice.injEq, true_and] at e1
              obtain ⟨rfl, rfl⟩ := e1
              exact hX
            have r1 : Nums .i64 wr gpa (S j).places.length gpc (S j).places := by
              obtain ⟨a1, b1, e1, hX⟩ := h11.nums
              simp only [Value.slice.injEq, true_and] at e1
              obtain ⟨rfl, rfl⟩ := e1
              exact hX
            have hst := HSTJ.out j hlt
            have hopat : Agg.opAt l j = l[j]?.getD (false, 0) := rfl
            obtain ⟨⟨p, x⟩, hpx⟩ : ∃ o, o = Agg.opAt l j := ⟨_, rfl⟩
            rw [← hopat, ← hpx] at hc0 hd0
            rw [← hpx] at hst
            obtain ⟨S1, hS1⟩ : ∃ S1, S1 = S (j + 1) := ⟨_, rfl⟩
            rw [← hS1] at hst
            obtain ⟨S0, hS0⟩ : ∃ S0, S0 = S j := ⟨_, rfl⟩
            rw [← hS0] at hst r0 r1 hx hrows
            have HST := Lib.hid hst
            have HS1 := Lib.hid hS1
            have hk0 : (0 : Int) ≤ (j : Int) := Int.natCast_nonneg _
            have hkn : (j : Int) < (n : Int) := by omega
            have hck := (hw.out.cell (p := ⟨b, off + j * 2, none⟩) hbl).trans hc0
            have hcl := (hw.out.cell (p := ⟨b, off + j * 2 + 1, none⟩) hbl).trans hd0
            obtain ⟨W5, hW5⟩ : ∃ W5, W5 = wr.alloc (.cells #[.bool p, .int .i64 x] 40) := ⟨_, rfl⟩
            have hbn : Below wr.heap.size wr W5 := by rw [hW5]; exact (Below.refl _ _).alloc (Nat.le_refl _) _
            have hnew : W5.heap[wr.heap.size]? = some (.cells #[.bool p, .int .i64 x] 40 (0, 0)) := by rw [hW5]; exact heap_alloc_new wr _
            have p0 : W5.cell? ⟨wr.heap.size, 0, none⟩ = some (.bool p) := by simp [World.cell?, hnew]
            have p1 : W5.cell? ⟨wr.heap.size, 1, none⟩ = some (.int .i64 x) := by simp [World.cell?, hnew]
            have HX5 := Lib.hid (hx.out.call hbn)
            have HO5 := Lib.hid (ho.out.below hbn)
            have HF5 := Lib.hid (show Nums .i64 W5 gia S0.items.length gic S0.items ∧ Nums .i64 W5 gpa S0.places.length gpc S0.places from ⟨r0.below hbn, r1.below hbn⟩)
            have HB5 := Lib.hid (hw.out.trans (hbn.mono hwr))
            have hs5 : wr.heap.size ≤ W5.heap.size := hbn.size
            have HLT := Lib.hid (show ∀ g, u12.ownBlock = some g → sv < g ∧ g < W5.heap.size from fun g hg => by
              obtain ⟨C, g1, -⟩ := ho.out
              have := g1.lt g hg
              omega)
            clear hbn hnew hst hopat hpx hc0 hd0 hS0 hS1 r0 r1 h10 h11 hrows
            go_upto_region 8 with (fail)
            rw [← hW5]
            clear hW5
            obtain ⟨q0, q1, q2, q3, q4⟩ := HX5.out.cells
            go_wp2_with fail
            refine (HST.out _ _ _ _ _ HF5.out.1 HF5.out.2).mono ?_
            rintro e w6 ⟨v0, v1, rfl, ⟨h10, h11⟩, hb6⟩
            obtain ⟨nia, nic, rfl, -⟩ := id h10.nums
            obtain ⟨npa, npc, rfl, -⟩ := id h11.nums
            have HX6 := Lib.hid (HX5.out.call hb6)
            have HO6 := Lib.hid (HO5.out.below hb6)
            have HB6 := Lib.hid (HB5.out.trans (hb6.mono HB5.out.size))
            have hs6 : W5.heap.size ≤ w6.heap.size := hb6.size
            clear hb6 q0 q1 q2 q3 q4 p0 p1 HX5 HO5 HB5 HF5
            obtain ⟨X6, hX6⟩ : ∃ X6, X6 = (((((w6.setCell ⟨sv, 0, none⟩ (.slice nia S1.items.length nic)).setCell ⟨sv, 1, none⟩ (.slice npa S1.places.length npc)).setCell ⟨sv, 2, none⟩ (.int .i64 S1.first)).setCell ⟨sv, 3, none⟩ (.int .i64 S1.next)).setCell ⟨sv, 4, none⟩ (.int .i64 S1.drops)) := ⟨_, rfl⟩
            have hsz : w6.heap.size ≤ X6.heap.size := by rw [hX6]; simp [World.setCell]
            have hwr5 : sv < W5.heap.size := by omega
            have HX7 := Lib.hid (show Box5 X6 sv 26 (.slice nia S1.items.length nic) (.slice npa S1.places.length npc) (.int .i64 S1.first) (.int .i64 S1.next) (.int .i64 S1.drops) from by rw [hX6]; exact (((((HX6.out.set0 _).set1 _).set2 _).set3 _).set4 _))
            have HO7 := Lib.hid (show DqRow X6 (sv + 1) w.heap.size sv u12 (j + 1) S from by
              have hc : sv < sv + 1 := Nat.lt_succ_self _
              rw [hX6]
              exact (((((HO6.out.set hc).set hc).set hc).set hc).set hc))
            have HB7 := Lib.hid (show Below w.heap.size w X6 from by
              rw [hX6]
              exact (((((HB6.out.setCell hsv1 _).setCell hsv1 _).setCell hsv1 _).setCell hsv1 _).setCell hsv1 _))
            have HV7 := Lib.hid (show OwnS X6 W5.heap.size w6.heap.size (.slice nia S1.items.length nic) S1.items.length S1.items ∧ OwnD X6 W5.heap.size w6.heap.size (.slice nia S1.items.length nic) (.slice npa S1.places.length npc) S1.places.length S1.places from by
              have hc : sv < W5.heap.size := hwr5
              rw [hX6]
              exact ⟨(((((h10.put hc).put hc).put hc).put hc).put hc), (((((h11.put hc).put hc).put hc).put hc).put hc)⟩)
            clear h10 h11 HO6 HB6
            obtain ⟨q0, q1, q2, q3, q4⟩ := HX6.out.cells
            have q9 := HX6.out.free
            go_upto_region 9 with (fail)
            rw [← hX6]
            clear hX6 q0 q1 q2 q3 q4 q9 HX6
            obtain ⟨C, hown7, hst7⟩ := HO7.out
            have HOWN7 := Lib.hid hown7
            have HST7 := Lib.hid hst7
            clear hown7 hst7 HO7
            have hsz7 : sv < X6.heap.size := by omega
            obtain ⟨q0, q1, q2, q3, q4⟩ := HX7.out.cells
            go_wp2_with (
              at_builtin
              go_must (refine wpList_append_where rfl (.tmp 44) (.tmp 46) 80 rfl (sv + 1) 26 i0 (.agg #[.slice none 0 0, .slice none 0 0, .int .i64 0, .int .i64 0, .int .i64 0]) 5 72 Try.underlying80 hi0 hz0 hz1 hz2 rfl (by decide) _ _ _ rfl (HOWN7.out.alloc _) ⟨X6.heap.size, 0, none⟩ 1 1 [.slice nia S1.items.length nic, .slice npa S1.places.length npc, .int .i64 S1.first, .int .i64 S1.next, .int .i64 S1.drops] rfl rfl (Box5.news (Box5.new X6 _ _ _ _ _ _)) (fun u hu => by simp only [List.mem_cons, List.not_mem_nil, or_false] at hu; rcases hu with rfl | rfl | rfl | rfl | rfl <;> rfl) (by unfold maxLen; omega) (by omega) (by simp; omega) ?_)
              intro v9 w9 hown9 hgrow9 hwh9
              have hba : Below X6.heap.size X6 (X6.alloc (.cells #[.slice nia S1.items.length nic, .slice npa S1.places.length npc, .int .i64 S1.first, .int .i64 S1.next, .int .i64 S1.drops] 26)) := (Below.refl _ _).alloc (Nat.le_refl _) _
              have HR9 := Lib.hid (show DqRow w9 (sv + 1) w.heap.size sv v9 (j + 1 + 1) S from by
                have hh := HS1.out
                refine DqRow.more (lo := W5.heap.size) (hi := w6.heap.size) (v0 := .slice nia S1.items.length nic) (v1 := .slice npa S1.places.length npc) HST7.out hba ?_ ?_ ?_ (.inl hwr5) hgrow9 ?_ ?_
                · rw [← hh]
                  obtain ⟨h10, h11⟩ := HV7.out
                  exact ⟨h10.below hba, h11.below hba⟩
                · omega
                · exact fun g hg => .inl (HLT.out g hg).2
                · rw [← hh]; exact hown9
                · exact hwh9)
              have HX9 := Lib.hid ((HX7.out.call hba).grown hgrow9 (fun e => by have := (HLT.out _ e).1; omega))
              have HV9 := Lib.hid (show OwnS w9 W5.heap.size w6.heap.size (.slice nia S1.items.length nic) S1.items.length S1.items ∧ OwnD w9 W5.heap.size w6.heap.size (.slice nia S1.items.length nic) (.slice npa S1.places.length npc) S1.places.length S1.places from by
                obtain ⟨h10, h11⟩ := HV7.out
                exact ⟨(h10.below hba).kept hgrow9 (fun g hg => .inl (.inl (HLT.out g hg).2)), (h11.below hba).kept hgrow9 (fun g hg => .inl (.inl (HLT.out g hg).2))⟩)
              have HB9 := Lib.hid ((HB7.out.trans (hba.mono HB7.out.size)).grown hgrow9 (by have := hba.size; omega) (fun g hg => by have := (HLT.out g hg).1; omega))
              clear hown9 hgrow9 hwh9 hba)
            go_roundw
            case rel =>
              have hh := HS1.out
              refine ⟨j + 1, W5.heap.size, w6.heap.size, nia, nic, npa, npc, by omega, by go_num, HR9, ?_, ?_, HB9⟩
              · rw [← hh]; exact HX9
              · rw [← hh]; exact HV9
            case measure => simp [intOf]; omega
        · obtain rfl : j = n := by omega
          have hlt' : ¬ (j : Int) < (j : Int) := by omega
          go_wp2
          go_returns
          exact ⟨_, rfl, fun _ => ⟨sv, ho.out.lower (by omega) (Nat.le_refl _)⟩, hw.out⟩
end Go.Proofs.Ytolgclajlklmaaa
