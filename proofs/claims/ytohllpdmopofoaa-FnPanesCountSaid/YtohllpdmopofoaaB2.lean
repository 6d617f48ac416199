/-
  The exported functions of chapter 1 at some kinds, each against plain mathematics.
-/
import Derived.Test.YtohllpdmopofoaaMath3
import Derived.Test.YtohllpdmopofoaaA1
import Derived.Test.YtohllpdmopofoaaA2
namespace Go.Proofs.Ytohllpdmopofoaa
open Go.RowKit
set_option linter.unusedSimpArgs false


theorem kindValid_4 (w : World) : Calls Try.prog 33 #[.int .i64 4] w fun e w' => e = .returned (.bool true) ∧ w = w' := by
  go_enter Try.func33, Try.ntmps33
  go_wp2_with (go_at_call 39; refine (kindOf_4 _).mono ?_; rintro e w1 ⟨rfl, rfl⟩)
  go_returns
  exact ⟨rfl, rfl⟩







theorem kindValid_5 (w : World) : Calls Try.prog 33 #[.int .i64 5] w fun e w' => e = .returned (.bool true) ∧ w = w' := by
  go_enter Try.func33, Try.ntmps33
  go_wp2_with (go_at_call 39; refine (kindOf_5 _).mono ?_; rintro e w1 ⟨rfl, rfl⟩)
  go_returns
  exact ⟨rfl, rfl⟩







theorem kindValid_6 (w : World) : Calls Try.prog 33 #[.int .i64 6] w fun e w' => e = .returned (.bool true) ∧ w = w' := by
  go_enter Try.func33, Try.ntmps33
  go_wp2_with (go_at_call 39; refine (kindOf_6 _).mono ?_; rintro e w1 ⟨rfl, rfl⟩)
  go_returns
  exact ⟨rfl, rfl⟩





end Go.Proofs.Ytohllpdmopofoaa
