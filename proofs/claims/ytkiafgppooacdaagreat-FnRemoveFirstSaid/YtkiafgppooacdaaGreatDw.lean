/-
  The arguments that the model draws for the laws of chapter 1.
-/
import Derived.Test.YtkiafgppooacdaaGreatLv
import Derived.Test.YtkiafgppooacdaaGreatZr
namespace Go.Proofs.YtkiafgppooacdaaGreat
set_option linter.unusedSimpArgs false
set_option linter.unusedVariables false
open Go.RowKit

theorem Bytes.below {w w' : World} {a : Option Addr} {n cap : Nat} {l : List Int} (h : Bytes w a n cap l) (hb : Below w.heap.size w w') : Bytes w' a n cap l := by
  obtain ⟨h1, h2, h3⟩ := h
  refine ⟨h1, h2, ?_⟩
  rcases h3 with h3 | ⟨b, off, ha, hlt, hc⟩
  · exact .inl h3
  · exact .inr ⟨b, off, ha, Nat.lt_of_lt_of_le hlt hb.size, fun i hi => ⟨(hb.cell (p := ⟨b, off + i, none⟩) hlt).trans (hc i hi).1, (hc i hi).2⟩⟩
theorem grown_drew {a b : World} {c : Nat} (h : a.grownBy b (some c)) : a.grownBy b.drew (some c) := ⟨h.os, h.tape, h.output, h.size, h.block⟩
/-- Two numbers are drawn. -/
def DrawnTwo (w : World) (e : Ending) (w' : World) : Prop := ∃ k n : Int, e = .returned (.tuple #[.int .i64 k, .int .i64 n]) ∧ Below w.heap.size w w'
/-- A kind and an aggregate are drawn. -/
def DrawnVal (w : World) (e : Ending) (w' : World) : Prop :=
  ∃ k x y z : Int, e = .returned (.tuple #[.int .i64 k, .agg #[.int .i64 x, .int .i64 y, .int .i64 z]]) ∧ Agg.few ⟨x, y, z⟩ ∧ Below w.heap.size w w'
/-- A kind and two aggregates are drawn. -/
def DrawnVals (w : World) (e : Ending) (w' : World) : Prop :=
  ∃ k ax ay az bx by' bz : Int, e = .returned (.tuple #[.int .i64 k, .agg #[.int .i64 ax, .int .i64 ay, .int .i64 az], .agg #[.int .i64 bx, .int .i64 by', .int .i64 bz]]) ∧ Agg.few ⟨ax, ay, az⟩ ∧ Agg.few ⟨bx, by', bz⟩ ∧ Below w.heap.size w w'
/-- A kind and a list are drawn. -/
def DrawnList (w : World) (e : Ending) (w' : World) : Prop :=
  ∃ (k : Int) (b n cap : Nat) (l : List Int), e = .returned (.tuple #[.int .i64 k, .slice (some ⟨b, 0, none⟩) n cap]) ∧ Nums .i64 w' (some ⟨b, 0, none⟩) n cap l ∧ n ≤ 1000 ∧ Below w.heap.size w w'




end Go.Proofs.YtkiafgppooacdaaGreat
