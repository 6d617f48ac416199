/-
  Closed facts of the program, each its own theorem: what a claim of this seat shares with the others.
-/
import Derived.Test.YtofpnmjadflebaaRows
import Derived.WalkKit
import Derived.ProofKit
namespace Go.Proofs.Ytofpnmjadflebaa.Cl
open Go.ChangeShapes Go.WideShapes Go.ChangeAt Go.RowKit
theorem and2 {a b : Bool} (ha : a = true) (hb : b = true) : (a && b) = true := by rw [ha, hb]; rfl
theorem f2 : laidOutB Try.prog = true := by kernel_rfl
theorem f3 : mapsRowed Try.prog = true := by kernel_rfl
theorem f7 : (Try.prog.stops == []) = true := by kernel_rfl
theorem f9 : (Try.prog.stopKnobs == []) = true := by kernel_rfl
theorem f23b : Try.prog.stopsHeard = true := by kernel_rfl
theorem f24 : Try.prog.mayEnter = true := by kernel_rfl
theorem f22 : (Rows.fnQueriesValidRow.plainKeys == Try.prog.plainKeys) = true := by kernel_rfl
theorem f24b : (Rows.fnQueriesValidRow.lifted == Try.prog.liftsFinal) = true := by kernel_rfl
theorem f24c : (Try.prog.make == some Rows.fnQueriesValidRow.make) = true := by kernel_rfl
end Go.Proofs.Ytofpnmjadflebaa.Cl
