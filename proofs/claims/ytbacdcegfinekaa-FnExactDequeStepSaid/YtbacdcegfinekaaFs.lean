/-
  Arguments that are windows with an inverse, or deques, opened as the rows read them.
-/
import Derived.Test.YtbacdcegfinekaaQx
import Derived.Deep.SlicePairs
import Derived.Lib.SmallJoins
import Derived.WalkKit
import Derived.ProofKit
import Derived.OpenShut
namespace Go.Proofs.Ytbacdcegfinekaa
open Go.RowKit Go.ChangeShapes Go.WideShapes Go.Joins Go.Deep
set_option linter.unusedVariables false
set_option linter.unusedSimpArgs false
section
variable {H : Type} {enc : TypeId × Value → H} {w : World} {base : Nat} {spare : Nat → Bool} {held : Bool}
theorem fs_cellsI : Try.prog.cellsOf 3 = 1 := by kernel_rfl
theorem fs_cellsN : Try.prog.cellsOf 22 = 1 := by kernel_rfl
theorem fs_array4 {α : Type} {cs : Array α} (h : cs.size = 4) : ∃ c0 c1 c2 c3, cs = #[c0, c1, c2, c3] := by
  obtain ⟨l⟩ := cs
  match l, h with
  | [c0, c1, c2, c3], _ => exact ⟨c0, c1, c2, c3, rfl⟩
theorem fs_array5 {α : Type} {cs : Array α} (h : cs.size = 5) : ∃ c0 c1 c2 c3 c4, cs = #[c0, c1, c2, c3, c4] := by
  obtain ⟨l⟩ := cs
  match l, h with
  | [c0, c1, c2, c3, c4], _ => exact ⟨c0, c1, c2, c3, c4, rfl⟩
theorem fs_ints {fuel : Nat} {c : Value} {x : DataW H × List MemPlace} (h : DataW.trod enc Try.prog w base (fun _ => true) held fuel 22 [c] = some x) : ∃ ia m ic I, c = .slice ia m ic ∧ Nums .i64 w ia m ic I := by
  rcases open_ints Try.underlying22 Try.underlying3 (by kernel_rfl) h with ⟨hcs, _⟩ | ⟨x, l, c, zs, hcs, _, hl, hm, hz, _, hcell, hwz⟩
  · simp only [List.cons.injEq, and_true] at hcs
    exact ⟨none, 0, 0, _, hcs, Nums.of_row (.inl ⟨rfl, rfl, rfl, rfl⟩)⟩
  · simp only [List.cons.injEq, and_true] at hcs
    exact ⟨some x, l, c, _, hcs, Nums.of_row (.inr ⟨_, rfl, hl, hm, by simpa using hz, hcell, hwz⟩)⟩
theorem fs_cellsV : Try.prog.cellsOf 63 = 3 := by kernel_rfl
theorem fs_cellsS : Try.prog.cellsOf 65 = 4 := by kernel_rfl
set_option maxRecDepth 100000 in
/-- A window with an inverse that came in. -/
theorem open_inverse {r : Reach} {b0 : Nat} {v : Value} {d : DataW H} {p : List MemPlace} (hv : Value.okWide Try.prog w r b0 65 v) (h : DataW.Trod enc Try.prog w base (fun _ => true) held 65 v d p) :
    ∃ (ia : Option Addr) (m ic : Nat) (ax ay az : Int) (I : List Int), v = .agg #[.slice ia m ic, .int .i64 ax, .int .i64 ay, .int .i64 az] ∧ Nums .i64 w ia m ic I := by
  obtain ⟨cs, rfl, hsz⟩ := okWide_struct Try.underlying65 hv
  obtain ⟨c0, c1, c2, c3, rfl⟩ := fs_array4 (hsz.trans fs_cellsS)
  obtain ⟨fuel, hf⟩ := h
  obtain ⟨xs, n, _, -, -, hlen, hfd⟩ := DataW.trod_struct Try.underlying65 hf
  match xs, hlen with
  | [y0, y1], _ =>
    have g0 := hfd 0 _ rfl
    have g1 := hfd 1 _ rfl
    simp [Value.cells, fs_cellsN, fs_cellsV, fs_cellsI] at g0 g1
    obtain ⟨ia, m, ic, I, e0, hI⟩ := fs_ints g0
    obtain ⟨xs2, n2, _, -, -, hlen2, hfd2⟩ := DataW.trod_struct Try.underlying63 g1
    match xs2, hlen2 with
    | [z0, z1, z2], _ =>
      have k0 := hfd2 0 _ rfl
      have k1 := hfd2 1 _ rfl
      have k2 := hfd2 2 _ rfl
      simp [fs_cellsI] at k0 k1 k2
      obtain ⟨q0, r0, -, -⟩ := DataW.trod_int Try.underlying3 k0
      obtain ⟨q1, r1, -, -⟩ := DataW.trod_int Try.underlying3 k1
      obtain ⟨q2, r2, -, -⟩ := DataW.trod_int Try.underlying3 k2
      simp only [List.cons.injEq, and_true] at r0 r1 r2
      subst e0 r0 r1 r2
      exact ⟨ia, m, ic, q0, q1, q2, I, rfl, hI⟩
theorem fs_cellsD : Try.prog.cellsOf 24 = 5 := by kernel_rfl
set_option maxRecDepth 100000 in
/-- A deque that came in. -/
theorem open_deque {r : Reach} {b0 : Nat} {v : Value} {d : DataW H} {p : List MemPlace} (hv : Value.okWide Try.prog w r b0 24 v) (h : DataW.Trod enc Try.prog w base (fun _ => true) held 24 v d p) :
    ∃ (ia : Option Addr) (n ic : Nat) (pa : Option Addr) (m pc : Nat) (fi nx dr : Int) (I P : List Int), v = .agg #[.slice ia n ic, .slice pa m pc, .int .i64 fi, .int .i64 nx, .int .i64 dr] ∧ Nums .i64 w ia n ic I ∧ Nums .i64 w pa m pc P := by
  obtain ⟨cs, rfl, hsz⟩ := okWide_struct Try.underlying24 hv
  obtain ⟨c0, c1, c2, c3, c4, rfl⟩ := fs_array5 (hsz.trans fs_cellsD)
  obtain ⟨fuel, hf⟩ := h
  obtain ⟨xs, n, _, -, -, hlen, hfd⟩ := DataW.trod_struct Try.underlying24 hf
  match xs, hlen with
  | [y0, y1, y2, y3, y4], _ =>
    have g0 := hfd 0 _ rfl
    have g1 := hfd 1 _ rfl
    have g2 := hfd 2 _ rfl
    have g3 := hfd 3 _ rfl
    have g4 := hfd 4 _ rfl
    simp [Value.cells, fs_cellsN, fs_cellsI] at g0 g1 g2 g3 g4
    obtain ⟨ia, n, ic, I, e0, hI⟩ := fs_ints g0
    obtain ⟨pa, m, pc, P, e1, hP⟩ := fs_ints g1
    obtain ⟨q2, r2, -, -⟩ := DataW.trod_int Try.underlying3 g2
    obtain ⟨q3, r3, -, -⟩ := DataW.trod_int Try.underlying3 g3
    obtain ⟨q4, r4, -, -⟩ := DataW.trod_int Try.underlying3 g4
    simp only [List.cons.injEq, and_true] at r2 r3 r4
    subst e0 e1 r2 r3 r4
    exact ⟨ia, n, ic, pa, m, pc, q2, q3, q4, I, P, rfl, hI, hP⟩
end
end Go.Proofs.Ytbacdcegfinekaa
