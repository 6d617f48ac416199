/-
  The model's functions of chapter 1, at every kind.
-/
import Derived.Test.YtionbdjcpfbejaaS1
import Derived.Test.YtionbdjcpfbejaaS2
import Derived.Test.YtionbdjcpfbejaaS3
import Derived.Test.YtionbdjcpfbejaaS4
import Derived.Test.YtionbdjcpfbejaaMath5
namespace Go.Proofs.Ytionbdjcpfbejaa
set_option linter.unusedSimpArgs false
set_option linter.unusedVariables false
open Go.RowKit
theorem s_unit_any (k : Int) (hk : Agg.isKind k = true) (w : World) :
    Calls Try.prog 40 #[.int .i64 k] w fun e w' => e = .returned (.agg #[.int .i64 (Agg.unit k).x, .int .i64 (Agg.unit k).y, .int .i64 (Agg.unit k).z]) ∧ Below w.heap.size w w' := by
  rcases Agg.kinds hk with rfl | rfl | rfl | rfl | rfl | rfl | rfl | rfl | rfl | rfl
  · exact s_unit_1 w
  · exact s_unit_2 w
  · exact s_unit_3 w
  · exact s_unit_4 w
  · exact s_unit_5 w
  · exact s_unit_6 w
  · exact s_unit_7 w
  · exact s_unit_8 w
  · exact s_unit_9 w
  · exact s_unit_10 w
end Go.Proofs.Ytionbdjcpfbejaa
