/-
  Rows of deques, one behind each change.
-/
import Derived.Test.Ytolgclajlklmaaa3ra
import Derived.Test.Ytolgclajlklmaaa6ty
namespace Go.Proofs.Ytolgclajlklmaaa
set_option linter.unusedSimpArgs false
set_option linter.unusedVariables false
open Go.RowKit
def dqCells (v0 v1 : Value) (s : Agg.Dq) : List Value := [v0, v1, .int .i64 s.first, .int .i64 s.next, .int .i64 s.drops]
/-- A row of deques of the call's own, each with its rows in memory of its own that the row itself does not lie in. -/
def DqRow (w : World) (base lo0 c : Nat) (v : Value) (n : Nat) (S : Nat → Agg.Dq) : Prop :=
  ∃ C : Nat → List Value, w.ownsRow base 26 5 v n (flat C n) ∧ ∀ i, i < n → ∃ v0 v1 lo hi, C i = dqCells v0 v1 (S i) ∧ OwnS w lo hi v0 (S i).items.length (S i).items ∧ OwnD w lo hi v0 v1 (S i).places.length (S i).places ∧ lo0 ≤ lo ∧ (∀ g, v.ownBlock = some g → g < lo ∨ hi ≤ g) ∧ (c < lo ∨ hi ≤ c)
theorem DqRow.below {w w' : World} {base lo0 c n : Nat} {v : Value} {S : Nat → Agg.Dq} (h : DqRow w base lo0 c v n S) (hb : Below w.heap.size w w') : DqRow w' base lo0 c v n S := by
  obtain ⟨C, h1, h2⟩ := h
  refine ⟨C, h1.kept (Below.grownNone hb none) (by cases hv : v.ownBlock <;> simp), fun i hi => ?_⟩
  obtain ⟨v0, v1, lo, hi', e, h10, h11, d⟩ := h2 i hi
  exact ⟨v0, v1, lo, hi', e, h10.below hb, h11.below hb, d⟩
theorem DqRow.lower {w : World} {base base' lo0 lo0' c n : Nat} {v : Value} {S : Nat → Agg.Dq} (h : DqRow w base lo0 c v n S) (h1 : base' ≤ base) (h2 : lo0' ≤ lo0) : DqRow w base' lo0' c v n S := by
  obtain ⟨C, g1, g2⟩ := h
  refine ⟨C, owns_lower g1 h1, fun i hi => ?_⟩
  obtain ⟨v0, v1, lo, hi', e, h10, h11, d1, d2⟩ := g2 i hi
  exact ⟨v0, v1, lo, hi', e, h10, h11, by omega, d2⟩
theorem DqRow.set {w : World} {base lo0 c o n : Nat} {u v : Value} {S : Nat → Agg.Dq} (h : DqRow w base lo0 c v n S) (hc : c < base) : DqRow (w.setCell ⟨c, o, none⟩ u) base lo0 c v n S := by
  obtain ⟨C, g1, g2⟩ := h
  have hset : w.grownBy (w.setCell ⟨c, o, none⟩ u) (some c) := ⟨rfl, rfl, rfl, by simp [World.setCell], fun k hk hne => Below.heap_setCell _ _ _ _ (fun e => hne (by rw [e]))⟩
  refine ⟨C, g1.kept hset ?_, fun i hi => ?_⟩
  · cases hv : v.ownBlock with
    | none => exact .inl rfl
    | some g => exact .inr (fun e => by have := (g1.lt g hv).1; have := Option.some.inj e; omega)
  · obtain ⟨v0, v1, lo, hi', e, h10, h11, d1, d2, d3⟩ := g2 i hi
    exact ⟨v0, v1, lo, hi', e, h10.kept hset (fun j e => .inl (by have := Option.some.inj e; omega)), h11.kept hset (fun j e => .inl (by have := Option.some.inj e; omega)), d1, d2, d3⟩
/-- A slice of deques that is read. -/
def DqsAt (w : World) (a : Option Addr) (n cap : Nat) (S : Nat → Agg.Dq) : Prop :=
  n ≤ cap ∧ cap ≤ 9223372036854775807 ∧ (n = 0 ∨ ∃ b off, a = some ⟨b, off, none⟩ ∧ b < w.heap.size ∧ ∀ i, i < n → ∃ ia ic pa pc, (w.cell? ⟨b, off + i * 5, none⟩ = some (.slice ia (S i).items.length ic) ∧ w.cell? ⟨b, off + i * 5 + 1, none⟩ = some (.slice pa (S i).places.length pc) ∧ w.cell? ⟨b, off + i * 5 + 2, none⟩ = some (.int .i64 (S i).first) ∧ w.cell? ⟨b, off + i * 5 + 3, none⟩ = some (.int .i64 (S i).next) ∧ w.cell? ⟨b, off + i * 5 + 4, none⟩ = some (.int .i64 (S i).drops)) ∧ Nums .i64 w ia (S i).items.length ic (S i).items ∧ Nums .i64 w pa (S i).places.length pc (S i).places)
theorem DqsAt.below {w w' : World} {a : Option Addr} {n cap : Nat} {S : Nat → Agg.Dq} (h : DqsAt w a n cap S) (hb : Below w.heap.size w w') : DqsAt w' a n cap S := by
  obtain ⟨h1, h2, h3⟩ := h
  refine ⟨h1, h2, ?_⟩
  rcases h3 with h3 | ⟨b, off, ha, hlt, hc⟩
  · exact .inl h3
  · refine .inr ⟨b, off, ha, Nat.lt_of_lt_of_le hlt hb.size, fun i hi => ?_⟩
    obtain ⟨ia, ic, pa, pc, ⟨q0, q1, q2, q3, q4⟩, h10, h11⟩ := hc i hi
    have k := fun o => hb.cell (p := ⟨b, o, none⟩) hlt
    exact ⟨ia, ic, pa, pc, ⟨(k _).trans q0, (k _).trans q1, (k _).trans q2, (k _).trans q3, (k _).trans q4⟩, h10.below hb, h11.below hb⟩
/-- The row as a slice that is read, from its state i on. -/
theorem DqRow.read {w : World} {base lo0 c n : Nat} {v : Value} {S : Nat → Agg.Dq} (h : DqRow w base lo0 c v n S) (hn : 0 < n) :
    ∃ g cap, v = .slice (some ⟨g, 0, none⟩) n cap ∧ base ≤ g ∧ g < w.heap.size ∧ n ≤ cap ∧ cap ≤ 9223372036854775807 ∧ ∀ i, i ≤ n → DqsAt w (some ⟨g, i * 5, none⟩) (n - i) (cap - i) (fun j => S (i + j)) := by
  obtain ⟨C, h1, h2⟩ := h
  obtain ⟨g, cap, rfl, hb, hg, hnc, hcm, hcell⟩ := own_cells h1 hn
  refine ⟨g, cap, rfl, hb, hg, hnc, hcm, fun i hi => ⟨by omega, by omega, .inr ⟨g, i * 5, rfl, hg, fun j hj => ?_⟩⟩⟩
  have hlen : ∀ q, q < n → (C q).length = 5 := fun q hq => by
    obtain ⟨v0, v1, lo, hi', e, -⟩ := h2 q hq
    rw [e]; rfl
  obtain ⟨v0, v1, lo, hi', e, h10, h11, -⟩ := h2 (i + j) (by omega)
  obtain ⟨ia, ic, rfl, h20⟩ := h10.nums
  obtain ⟨pa, pc, rfl, h21⟩ := h11.nums
  have hc : ∀ c, c < 5 → w.cell? ⟨g, i * 5 + j * 5 + c, none⟩ = (C (i + j))[c]? := fun c hc => by
    rw [hcell _ (by omega), show i * 5 + j * 5 + c = (i + j) * 5 + c by omega]
    exact flat_at hlen _ _ (by omega) hc
  refine ⟨ia, ic, pa, pc, ⟨?_, ?_, ?_, ?_, ?_⟩, h20, h21⟩
  · have := hc 0 (by omega); rw [e] at this; exact this
  · have := hc 1 (by omega); rw [e] at this; exact this
  · have := hc 2 (by omega); rw [e] at this; exact this
  · have := hc 3 (by omega); rw [e] at this; exact this
  · have := hc 4 (by omega); rw [e] at this; exact this
/-- A state of the row as the value of a variable, in memory of its own. -/
theorem DqRow.own {w : World} {base lo0 c n : Nat} {v : Value} {S : Nat → Agg.Dq} (h : DqRow w base lo0 c v n S) {i : Nat} (hi : i < n) :
    ∃ g cap v0 v1 lo, v = .slice (some ⟨g, 0, none⟩) n cap ∧ (w.cell? ⟨g, i * 5, none⟩ = some v0 ∧ w.cell? ⟨g, i * 5 + 1, none⟩ = some v1 ∧ w.cell? ⟨g, i * 5 + 2, none⟩ = some (.int .i64 (S i).first) ∧ w.cell? ⟨g, i * 5 + 3, none⟩ = some (.int .i64 (S i).next) ∧ w.cell? ⟨g, i * 5 + 4, none⟩ = some (.int .i64 (S i).drops)) ∧ lo0 ≤ lo ∧ OwnS w lo w.heap.size v0 (S i).items.length (S i).items ∧ OwnD w lo w.heap.size v0 v1 (S i).places.length (S i).places := by
  obtain ⟨C, h1, h2⟩ := h
  obtain ⟨g, cap, rfl, hb, hg, hnc, hcm, hcell⟩ := own_cells h1 (by omega)
  have hlen : ∀ q, q < n → (C q).length = 5 := fun q hq => by
    obtain ⟨v0, v1, lo, hi', e, -⟩ := h2 q hq
    rw [e]; rfl
  obtain ⟨v0, v1, lo, hi', e, h10, h11, hlo, -⟩ := h2 i hi
  have hc : ∀ c, c < 5 → w.cell? ⟨g, i * 5 + c, none⟩ = (C i)[c]? := fun c hc => by
    rw [hcell _ (by omega)]
    exact flat_at hlen _ _ (by omega) hc
  refine ⟨g, cap, v0, v1, lo, rfl, ⟨?_, ?_, ?_, ?_, ?_⟩, hlo, h10.wide (Nat.le_refl _) (own_hiS h10) (Nat.le_refl _), h11.wide (Nat.le_refl _) (own_hiD h11) (Nat.le_refl _)⟩
  · have := hc 0 (by omega); rw [e] at this; exact this
  · have := hc 1 (by omega); rw [e] at this; exact this
  · have := hc 2 (by omega); rw [e] at this; exact this
  · have := hc 3 (by omega); rw [e] at this; exact this
  · have := hc 4 (by omega); rw [e] at this; exact this
/-- A state more behind the row. -/
theorem DqRow.more {w w1 w2 : World} {base lo0 c n lo hi : Nat} {v v' v0 v1 : Value} {S : Nat → Agg.Dq} {C : Nat → List Value}
    (h2 : ∀ i, i < n → ∃ v0 v1 lo hi, C i = dqCells v0 v1 (S i) ∧ OwnS w lo hi v0 (S i).items.length (S i).items ∧ OwnD w lo hi v0 v1 (S i).places.length (S i).places ∧ lo0 ≤ lo ∧ (∀ g, v.ownBlock = some g → g < lo ∨ hi ≤ g) ∧ (c < lo ∨ hi ≤ c))
    (hb : Below w.heap.size w w1) (hV : OwnS w1 lo hi v0 (S n).items.length (S n).items ∧ OwnD w1 lo hi v0 v1 (S n).places.length (S n).places) (hlo : lo0 ≤ lo) (hnew : ∀ g, v.ownBlock = some g → g < lo ∨ hi ≤ g) (hcc : c < lo ∨ hi ≤ c)
    (hg : w1.grownBy w2 v.ownBlock) (hown : w2.ownsRow base 26 5 v' (n + 1) (flat C n ++ dqCells v0 v1 (S n))) (hwh : v'.ownBlock = v.ownBlock ∨ ∃ g, v'.ownBlock = some g ∧ w1.heap.size ≤ g) : DqRow w2 base lo0 c v' (n + 1) S := by
  refine ⟨fun i => if i = n then dqCells v0 v1 (S n) else C i, by rw [flat_put]; exact hown, fun i hi => ?_⟩
  have hout : ∀ {lo hi : Nat}, hi ≤ w1.heap.size → (∀ g, v.ownBlock = some g → g < lo ∨ hi ≤ g) → ∀ g, v'.ownBlock = some g → g < lo ∨ hi ≤ g := fun hle hh g hgv => by
    rcases hwh with e | ⟨g', e, hge⟩
    · exact hh g (e ▸ hgv)
    · rw [e] at hgv
      obtain rfl := Option.some.inj hgv
      exact .inr (by omega)
  by_cases hin : i = n
  · subst hin
    obtain ⟨h10, h11⟩ := hV
    exact ⟨v0, v1, lo, _, by simp, h10.kept hg (fun g e => .inl (hnew g e)), h11.kept hg (fun g e => .inl (hnew g e)), hlo, hout (own_hiS h10) hnew, hcc⟩
  · obtain ⟨v0', v1', lo', hi', e, h10, h11, d0, d, d3⟩ := h2 i (by omega)
    have h20 := h10.below hb
    have h21 := h11.below hb
    exact ⟨v0', v1', lo', hi', by simp [hin, e], h20.kept hg (fun g e => .inl (d g e)), h21.kept hg (fun g e => .inl (d g e)), d0, hout (own_hiS h20) d, d3⟩
end Go.Proofs.Ytolgclajlklmaaa
