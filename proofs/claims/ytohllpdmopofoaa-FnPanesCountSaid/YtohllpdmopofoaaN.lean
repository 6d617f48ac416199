/-
  The exported functions of chapter 1, in the program and in the model, at every kind and at every number that is none.
-/
import Derived.Test.YtohllpdmopofoaaB1
import Derived.Test.YtohllpdmopofoaaB2
import Derived.Test.YtohllpdmopofoaaB3
import Derived.Test.YtohllpdmopofoaaB4
import Derived.Test.YtohllpdmopofoaaS1
import Derived.Test.YtohllpdmopofoaaS2
import Derived.Test.YtohllpdmopofoaaS3
import Derived.Test.YtohllpdmopofoaaS4
import Derived.Test.YtohllpdmopofoaaMath4
namespace Go.Proofs.Ytohllpdmopofoaa
set_option linter.unusedSimpArgs false
set_option linter.unusedVariables false
open Go.RowKit
theorem kindValid_any (k : Int) (w : World) : Calls Try.prog 33 #[.int .i64 k] w fun e w' => e = .returned (.bool (Agg.isKind k)) ∧ w = w' := by
  cases hk : Agg.isKind k
  · have hk2 := Lib.hid (show ¬ (1 ≤ k ∧ k ≤ 10) by simpa [Agg.isKind] using hk)
    go_enter Try.func33, Try.ntmps33
    go_wp2_with (go_at_call 39; refine (kindOf_not _ _ hk2.out).mono ?_; rintro e w1 ⟨rfl, rfl⟩)
    go_returns
    exact ⟨rfl, rfl⟩
  · rcases Agg.kinds hk with rfl | rfl | rfl | rfl | rfl | rfl | rfl | rfl | rfl | rfl
    · exact kindValid_1 w
    · exact kindValid_2 w
    · exact kindValid_3 w
    · exact kindValid_4 w
    · exact kindValid_5 w
    · exact kindValid_6 w
    · exact kindValid_7 w
    · exact kindValid_8 w
    · exact kindValid_9 w
    · exact kindValid_10 w
end Go.Proofs.Ytohllpdmopofoaa
