/-
  Closed facts of the program, each its own theorem: what a claim of this seat shares with the others.
-/
import Derived.Test.YtolgclajlklmaaaGreatRows
import Derived.WalkKit
import Derived.ProofKit
namespace Go.Proofs.YtolgclajlklmaaaGreat.Cl
open Go.ChangeShapes Go.WideShapes Go.ChangeAt Go.RowKit
theorem and2 {a b : Bool} (ha : a = true) (hb : b = true) : (a && b) = true := by rw [ha, hb]; rfl
theorem f2 : laidOutB Tryz.prog = true := by kernel_rfl
theorem f3 : mapsRowed Tryz.prog = true := by kernel_rfl
theorem f7 : (Tryz.prog.stops == []) = true := by kernel_rfl
theorem f9 : (Tryz.prog.stopKnobs == []) = true := by kernel_rfl
theorem f23b : Tryz.prog.stopsHeard = true := by kernel_rfl
theorem f24 : Tryz.prog.mayEnter = true := by kernel_rfl
theorem f22 : (Rows.fnDequeRunRow.plainKeys == Tryz.prog.plainKeys) = true := by kernel_rfl
theorem f24b : (Rows.fnDequeRunRow.lifted == Tryz.prog.liftsFinal) = true := by kernel_rfl
theorem f24c : (Tryz.prog.make == some Rows.fnDequeRunRow.make) = true := by kernel_rfl
end Go.Proofs.YtolgclajlklmaaaGreat.Cl
