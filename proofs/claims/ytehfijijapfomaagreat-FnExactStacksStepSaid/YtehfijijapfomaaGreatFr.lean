/-
  Arguments that are stacks or changes, opened as the rows read them.
-/
import Derived.Test.YtehfijijapfomaaGreatRw
import Derived.Deep.SlicePairs
import Derived.Lib.SmallJoins
import Derived.WalkKit
import Derived.ProofKit
import Derived.OpenShut
namespace Go.Proofs.YtehfijijapfomaaGreat
open Go.RowKit Go.ChangeShapes Go.WideShapes Go.Joins Go.Deep
set_option linter.unusedVariables false
set_option linter.unusedSimpArgs false
section
variable {H : Type} {enc : TypeId × Value → H} {w : World} {base : Nat} {spare : Nat → Bool} {held : Bool}
theorem fr_cellsV : Tryz.prog.cellsOf 24 = 3 := by kernel_rfl
theorem fr_cellsI : Tryz.prog.cellsOf 3 = 1 := by kernel_rfl
set_option maxRecDepth 100000 in
/-- A slice of aggregates that is read. -/
theorem open_vals {fuel : Nat} {cs : List Value} {x : DataW H × List MemPlace} (h : DataW.trod enc Tryz.prog w base spare held fuel 52 cs = some x) :
    ∃ a n cap l, cs = [.slice a n cap] ∧ Vals w a n cap l := by
  rcases open_slice Tryz.underlying52 h with ⟨rfl, -⟩ | ⟨a, len, cap, m, n, D, Pl, rfl, hb, hl, hm, hmm, -, hx⟩
  · exact ⟨none, 0, 0, [], rfl, rfl, Nat.le_refl _, by simp [maxLen], .inl rfl⟩
  · have hlm : len ≤ m := by rw [hmm]; split <;> omega
    have each : ∀ i, ∃ o : Agg.V, i < len → w.cell? (a.add (i * 3)) = some (.int .i64 o.x) ∧ w.cell? (a.add (i * 3 + 1)) = some (.int .i64 o.y) ∧ w.cell? (a.add (i * 3 + 2)) = some (.int .i64 o.z) := by
      intro i
      by_cases hi : i < len
      · obtain ⟨cs', h1, h2⟩ := hx i (by omega)
        rw [fr_cellsV] at h1
        obtain ⟨_, hlen, hcell⟩ := World.cells?_some h1
        obtain ⟨xs, k, hk, hxy, _, hxl, hf⟩ := DataW.trod_struct Tryz.underlying24 h2
        match xs, hxl, cs', hlen with
        | [y0, y1, y2], _, [v0, v1, v2], _ =>
          have g0 := hf 0 _ rfl
          have g1 := hf 1 _ rfl
          have g2 := hf 2 _ rfl
          simp [fr_cellsI] at g0 g1 g2
          have e0 := hcell 0 (by omega)
          have e1 := hcell 1 (by omega)
          have e2 := hcell 2 (by omega)
          rw [add_add] at e0 e1 e2
          obtain ⟨q0, r0, -, -⟩ := DataW.trod_int Tryz.underlying3 g0
          obtain ⟨q1, r1, -, -⟩ := DataW.trod_int Tryz.underlying3 g1
          obtain ⟨q2, r2, -, -⟩ := DataW.trod_int Tryz.underlying3 g2
          simp only [List.cons.injEq, and_true] at r0 r1 r2
          subst r0 r1 r2
          exact ⟨⟨q0, q1, q2⟩, fun _ => ⟨by simpa using e0, by simpa using e1, by simpa using e2⟩⟩
      · exact ⟨Agg.zero, fun h => absurd h hi⟩
    obtain ⟨f, hfo⟩ := Classical.axiomOfChoice each
    refine ⟨some a, len, cap, (List.range len).map f, rfl, by simp, hl, hm, ?_⟩
    by_cases h00 : len = 0
    · exact .inl h00
    · have hc0 := (hfo 0 (by omega)).1
      obtain ⟨b, off, spot⟩ := a
      have hspot : spot = none := by simpa [Addr.add] using World.cell?_spot hc0
      subst hspot
      refine .inr ⟨b, off, rfl, World.block_lt_of_cell? _ _ hc0, fun i hi => ?_⟩
      have e : ((List.range len).map f)[i]?.getD Agg.zero = f i := by simp [hi]
      have := hfo i hi
      rw [Addr.add_lit, Addr.add_lit, Addr.add_lit] at this
      rw [e]
      exact this
theorem fr_cellsS : Tryz.prog.cellsOf 54 = 7 := by kernel_rfl
theorem fr_cellsA : Tryz.prog.cellsOf 52 = 1 := by kernel_rfl
theorem fr_cellsN : Tryz.prog.cellsOf 22 = 1 := by kernel_rfl
theorem fr_array7 {α : Type} {cs : Array α} (h : cs.size = 7) : ∃ c0 c1 c2 c3 c4 c5 c6, cs = #[c0, c1, c2, c3, c4, c5, c6] := by
  obtain ⟨l⟩ := cs
  match l, h with
  | [c0, c1, c2, c3, c4, c5, c6], _ => exact ⟨c0, c1, c2, c3, c4, c5, c6, rfl⟩
set_option maxRecDepth 100000 in
/-- Stacks that came in. -/
theorem open_stacks {r : Reach} {b0 : Nat} {v : Value} {d : DataW H} {p : List MemPlace} (hv : Value.okWide Tryz.prog w r b0 54 v) (h : DataW.Trod enc Tryz.prog w base (fun _ => true) held 54 v d p) :
    ∃ (fa : Option Addr) (fn fc : Nat) (ia : Option Addr) (m ic : Nat) (bx by' bz fl co : Int) (F : List Agg.V) (I : List Int), v = .agg #[.slice fa fn fc, .slice ia m ic, .int .i64 bx, .int .i64 by', .int .i64 bz, .int .i64 fl, .int .i64 co] ∧ Vals w fa fn fc F ∧ Nums .i64 w ia m ic I := by
  obtain ⟨cs, rfl, hsz⟩ := okWide_struct Tryz.underlying54 hv
  obtain ⟨c0, c1, c2, c3, c4, c5, c6, rfl⟩ := fr_array7 (hsz.trans fr_cellsS)
  obtain ⟨fuel, hf⟩ := h
  obtain ⟨xs, n, _, -, -, hlen, hfd⟩ := DataW.trod_struct Tryz.underlying54 hf
  match xs, hlen with
  | [y0, y1, y2, y3, y4], _ =>
    have g0 := hfd 0 _ rfl
    have g1 := hfd 1 _ rfl
    have g2 := hfd 2 _ rfl
    have g3 := hfd 3 _ rfl
    have g4 := hfd 4 _ rfl
    simp [Value.cells, fr_cellsA, fr_cellsN, fr_cellsV, fr_cellsI] at g0 g1 g2 g3 g4
    obtain ⟨fa, fn, fc, F, e0, hF⟩ := open_vals g0
    simp only [List.cons.injEq, and_true] at e0
    obtain ⟨ia, m, ic, I, e1, hI⟩ : ∃ ia m ic I, c1 = .slice ia m ic ∧ Nums .i64 w ia m ic I := by
      rcases open_ints Tryz.underlying22 Tryz.underlying3 (by kernel_rfl) g1 with ⟨hcs, _⟩ | ⟨x, l, c, zs, hcs, _, hl, hm, hz, _, hcell, hwz⟩
      · simp only [List.cons.injEq, and_true] at hcs
        exact ⟨none, 0, 0, _, hcs, Nums.of_row (.inl ⟨rfl, rfl, rfl, rfl⟩)⟩
      · simp only [List.cons.injEq, and_true] at hcs
        exact ⟨some x, l, c, _, hcs, Nums.of_row (.inr ⟨_, rfl, hl, hm, by simpa using hz, hcell, hwz⟩)⟩
    obtain ⟨xs2, n2, _, -, -, hlen2, hfd2⟩ := DataW.trod_struct Tryz.underlying24 g2
    match xs2, hlen2 with
    | [z0, z1, z2], _ =>
      have k0 := hfd2 0 _ rfl
      have k1 := hfd2 1 _ rfl
      have k2 := hfd2 2 _ rfl
      simp [fr_cellsI] at k0 k1 k2
      obtain ⟨q0, r0, -, -⟩ := DataW.trod_int Tryz.underlying3 k0
      obtain ⟨q1, r1, -, -⟩ := DataW.trod_int Tryz.underlying3 k1
      obtain ⟨q2, r2, -, -⟩ := DataW.trod_int Tryz.underlying3 k2
      obtain ⟨q3, r3, -, -⟩ := DataW.trod_int Tryz.underlying3 g3
      obtain ⟨q4, r4, -, -⟩ := DataW.trod_int Tryz.underlying3 g4
      simp only [List.cons.injEq, and_true] at r0 r1 r2 r3 r4
      subst e0 e1 r0 r1 r2 r3 r4
      exact ⟨fa, fn, fc, ia, m, ic, q0, q1, q2, q3, q4, F, I, rfl, hF, hI⟩
end
end Go.Proofs.YtehfijijapfomaaGreat
