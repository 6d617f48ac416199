/-
  The exported functions of chapter 1 at some kinds, each against plain mathematics.
-/
import Derived.Test.YtohllpdmopofoaaMath3
import Derived.Test.YtohllpdmopofoaaA1
namespace Go.Proofs.Ytohllpdmopofoaa
open Go.RowKit
set_option linter.unusedSimpArgs false


theorem kindValid_1 (w : World) : Calls Try.prog 33 #[.int .i64 1] w fun e w' => e = .returned (.bool true) ∧ w = w' := by
  go_enter Try.func33, Try.ntmps33
  go_wp2_with (go_at_call 39; refine (kindOf_1 _).mono ?_; rintro e w1 ⟨rfl, rfl⟩)
  go_returns
  exact ⟨rfl, rfl⟩







theorem kindValid_2 (w : World) : Calls Try.prog 33 #[.int .i64 2] w fun e w' => e = .returned (.bool true) ∧ w = w' := by
  go_enter Try.func33, Try.ntmps33
  go_wp2_with (go_at_call 39; refine (kindOf_2 _).mono ?_; rintro e w1 ⟨rfl, rfl⟩)
  go_returns
  exact ⟨rfl, rfl⟩







theorem kindValid_3 (w : World) : Calls Try.prog 33 #[.int .i64 3] w fun e w' => e = .returned (.bool true) ∧ w = w' := by
  go_enter Try.func33, Try.ntmps33
  go_wp2_with (go_at_call 39; refine (kindOf_3 _).mono ?_; rintro e w1 ⟨rfl, rfl⟩)
  go_returns
  exact ⟨rfl, rfl⟩





end Go.Proofs.Ytohllpdmopofoaa
