/-
  The model's functions of chapter 1, at every kind.
-/
import Derived.Test.YtolgclajlklmaaaGreatS1
import Derived.Test.YtolgclajlklmaaaGreatS2
import Derived.Test.YtolgclajlklmaaaGreatS3
import Derived.Test.YtolgclajlklmaaaGreatS4
import Derived.Test.YtolgclajlklmaaaGreatG1
import Derived.Test.YtolgclajlklmaaaGreatG2
import Derived.Test.YtolgclajlklmaaaGreatG3
import Derived.Test.YtolgclajlklmaaaGreatG4
import Derived.Test.YtolgclajlklmaaaGreatMa
namespace Go.Proofs.YtolgclajlklmaaaGreat
set_option linter.unusedSimpArgs false
set_option linter.unusedVariables false
open Go.RowKit
theorem s_unit_any (k : Int) (hk : Agg.isKind k = true) (w : World) :
    Calls Tryz.prog 95 #[.int .i64 k] w fun e w' => e = .returned (.agg #[.int .i64 (Agg.unit k).x, .int .i64 (Agg.unit k).y, .int .i64 (Agg.unit k).z]) ∧ Below w.heap.size w w' := by
  rcases Agg.kinds hk with rfl | rfl | rfl | rfl | rfl | rfl | rfl | rfl | rfl | rfl
  · exact s_unit_1 w
  · exact s_unit_2 w
  · exact s_unit_3 w
  · exact s_unit_4 w
  · exact s_unit_5 w
  · exact s_unit_6 w
  · exact s_unit_7 w
  · exact s_unit_8 w
  · exact s_unit_9 w
  · exact s_unit_10 w
theorem s_lift_any (k : Int) (hk : Agg.isKind k = true) (n : Int) (w : World) (h0 : 0 ≤ n) (h1 : n ≤ 96) :
    Calls Tryz.prog 97 #[.int .i64 k, .int .i64 n] w fun e w' => e = .returned (.agg #[.int .i64 (Agg.lift k n).x, .int .i64 (Agg.lift k n).y, .int .i64 (Agg.lift k n).z]) ∧ Below w.heap.size w w' := by
  rcases Agg.kinds hk with rfl | rfl | rfl | rfl | rfl | rfl | rfl | rfl | rfl | rfl
  · exact s_lift_1 n w h0 h1
  · exact s_lift_2 n w h0 h1
  · exact s_lift_3 n w h0 h1
  · exact s_lift_4 n w h0 h1
  · exact s_lift_5 n w h0 h1
  · exact s_lift_6 n w h0 h1
  · exact s_lift_7 n w h0 h1
  · exact s_lift_8 n w h0 h1
  · exact s_lift_9 n w h0 h1
  · exact s_lift_10 n w h0 h1
theorem s_combine_any (k : Int) (hk : Agg.isKind k = true) (ax ay az bx by' bz : Int) (w : World) (h : Agg.ok k ⟨ax, ay, az⟩ = true) (h' : Agg.ok k ⟨bx, by', bz⟩ = true) :
    Calls Tryz.prog 96 #[.int .i64 k, .agg #[.int .i64 ax, .int .i64 ay, .int .i64 az], .agg #[.int .i64 bx, .int .i64 by', .int .i64 bz]] w fun e w' => e = .returned (.agg #[.int .i64 (Agg.comb k ⟨ax, ay, az⟩ ⟨bx, by', bz⟩).x, .int .i64 (Agg.comb k ⟨ax, ay, az⟩ ⟨bx, by', bz⟩).y, .int .i64 (Agg.comb k ⟨ax, ay, az⟩ ⟨bx, by', bz⟩).z]) ∧ Below w.heap.size w w' := by
  rcases Agg.kinds hk with rfl | rfl | rfl | rfl | rfl | rfl | rfl | rfl | rfl | rfl
  · exact s_combine_1 ax ay az bx by' bz w h h'
  · exact s_combine_2 ax ay az bx by' bz w h h'
  · exact s_combine_3 ax ay az bx by' bz w h h'
  · exact s_combine_4 ax ay az bx by' bz w h h'
  · exact s_combine_5 ax ay az bx by' bz w h h'
  · exact s_combine_6 ax ay az bx by' bz w h h'
  · exact s_combine_7 ax ay az bx by' bz w h h'
  · exact s_combine_8 ax ay az bx by' bz w h h'
  · exact s_combine_9 ax ay az bx by' bz w h h'
  · exact s_combine_10 ax ay az bx by' bz w h h'
theorem s_fold_all (k : Int) (hk : Agg.isKind k = true) (a : Option Addr) (n cap : Nat) (l : List Int) (w : World) (h : Nums .i64 w a n cap l) (hi : Agg.itemsOk l = true) :
    Calls Tryz.prog 87 #[.int .i64 k, .slice a n cap] w fun e w' => e = .returned (.agg #[.int .i64 (Agg.fold k l).x, .int .i64 (Agg.fold k l).y, .int .i64 (Agg.fold k l).z]) ∧ Below w.heap.size w w' := by
  rcases Agg.kinds hk with rfl | rfl | rfl | rfl | rfl | rfl | rfl | rfl | rfl | rfl
  · exact s_fold_1 a n cap l w h hi
  · exact s_fold_2 a n cap l w h hi
  · exact s_fold_3 a n cap l w h hi
  · exact s_fold_4 a n cap l w h hi
  · exact s_fold_5 a n cap l w h hi
  · exact s_fold_6 a n cap l w h hi
  · exact s_fold_7 a n cap l w h hi
  · exact s_fold_8 a n cap l w h hi
  · exact s_fold_9 a n cap l w h hi
  · exact s_fold_10 a n cap l w h hi
end Go.Proofs.YtolgclajlklmaaaGreat
