/-
  The exported functions of chapter 1 at some kinds, each against plain mathematics.
-/
import Derived.Test.YtohllpdmopofoaaMath3
import Derived.Test.YtohllpdmopofoaaA3
namespace Go.Proofs.Ytohllpdmopofoaa
open Go.RowKit
set_option linter.unusedSimpArgs false


theorem kindValid_9 (w : World) : Calls Try.prog 33 #[.int .i64 9] w fun e w' => e = .returned (.bool true) ∧ w = w' := by
  go_enter Try.func33, Try.ntmps33
  go_wp2_with (go_at_call 39; refine (kindOf_9 _).mono ?_; rintro e w1 ⟨rfl, rfl⟩)
  go_returns
  exact ⟨rfl, rfl⟩







theorem kindValid_10 (w : World) : Calls Try.prog 33 #[.int .i64 10] w fun e w' => e = .returned (.bool true) ∧ w = w' := by
  go_enter Try.func33, Try.ntmps33
  go_wp2_with (go_at_call 39; refine (kindOf_10 _).mono ?_; rintro e w1 ⟨rfl, rfl⟩)
  go_returns
  exact ⟨rfl, rfl⟩





end Go.Proofs.Ytohllpdmopofoaa
