/-
  The model's functions of chapter 1 at some kinds, each against plain mathematics.
-/
import Derived.Test.YthkokeeciicdnaaS0
import Derived.Test.YthkokeeciicdnaaMa
namespace Go.Proofs.Ythkokeeciicdnaa
open Go.RowKit
set_option linter.unusedSimpArgs false
set_option linter.unusedVariables false
theorem s_kind_9 (w : World) : Calls Try.prog 25 #[.int .i64 9] w fun e w' => e = .returned (.bool true) ∧ w = w' := by
  go_enter Try.func25, Try.ntmps25
  go_wp2
  go_returns
  exact ⟨rfl, rfl⟩










theorem s_kind_10 (w : World) : Calls Try.prog 25 #[.int .i64 10] w fun e w' => e = .returned (.bool true) ∧ w = w' := by
  go_enter Try.func25, Try.ntmps25
  go_wp2
  go_returns
  exact ⟨rfl, rfl⟩










end Go.Proofs.Ythkokeeciicdnaa
