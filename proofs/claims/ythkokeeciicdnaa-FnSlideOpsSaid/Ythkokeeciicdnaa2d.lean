/-
  Changes that the model draws.
-/
import Derived.Test.YthkokeeciicdnaaRw
import Derived.Test.YthkokeeciicdnaaLi
namespace Go.Proofs.Ythkokeeciicdnaa
set_option linter.unusedSimpArgs false
set_option linter.unusedVariables false
open Go.RowKit
/-- A row of changes in new memory; the reader is some steps further. -/
def OpsDrawn (bound : Nat) (more : Int) (B c : Nat) (p : Int) (w : World) (e : Ending) (w' : World) : Prop :=
  ∃ (v : Value) (n : Nat) (l : List (Bool × Int)) (p' : Int), e = .returned v ∧ w'.ownsRow w.heap.size 69 2 v n (opRow l) ∧ n ≤ bound ∧ p ≤ p' ∧ p' ≤ p + more ∧ Rd w' B c p' ∧ w.grownBy w' (some c)
end Go.Proofs.Ythkokeeciicdnaa
