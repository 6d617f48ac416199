/-
  The exact law of StacksStart, walked.
-/
import Derived.Test.Ythkokeeciicdnaa3y
import Derived.Test.Ythkokeeciicdnaa3e
namespace Go.Proofs.Ythkokeeciicdnaa
set_option linter.unusedSimpArgs false
set_option linter.unusedVariables false
open Go.RowKit
theorem ownV_nil (w : World) : OwnV w w.heap.size w.heap.size (.slice none 0 0) 0 [] := ⟨World.ownsRow_nil _ _ _ _, Nat.le_refl _, Nat.le_refl _, fun g hg => by simp [Value.ownBlock] at hg⟩
theorem ownR_nil (w : World) : OwnR w w.heap.size w.heap.size (.slice none 0 0) 0 [] := ⟨World.ownsRow_nil _ _ _ _, Nat.le_refl _, Nat.le_refl _, fun g hg => by simp [Value.ownBlock] at hg⟩
theorem stk_nil (w : World) (x y z fl co : Int) : StkOwn w w.heap.size w.heap.size (.agg #[.slice none 0 0, .slice none 0 0, .int .i64 x, .int .i64 y, .int .i64 z, .int .i64 fl, .int .i64 co]) ⟨[], [], ⟨x, y, z⟩, fl, co⟩ := ⟨_, _, rfl, ownV_nil w, ownR_nil w⟩
theorem below_of_none {w w' : World} (h : w.grownBy w' none) : Below w.heap.size w w' := (Below.refl _ _).grown h (Nat.le_refl _) (fun k hk => by cases hk)
end Go.Proofs.Ythkokeeciicdnaa
