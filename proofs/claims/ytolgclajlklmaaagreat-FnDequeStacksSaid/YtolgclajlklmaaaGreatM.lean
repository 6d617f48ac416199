/-
  Folds of items, in the program and in the model, at every kind and at every number that is none.
-/
import Derived.Test.YtolgclajlklmaaaGreatF1
import Derived.Test.YtolgclajlklmaaaGreatF2
import Derived.Test.YtolgclajlklmaaaGreatF3
import Derived.Test.YtolgclajlklmaaaGreatF4
import Derived.Test.YtolgclajlklmaaaGreatG1
import Derived.Test.YtolgclajlklmaaaGreatG2
import Derived.Test.YtolgclajlklmaaaGreatG3
import Derived.Test.YtolgclajlklmaaaGreatG4
namespace Go.Proofs.YtolgclajlklmaaaGreat
set_option linter.unusedSimpArgs false
set_option linter.unusedVariables false
open Go.RowKit
set_option maxHeartbeats 1000000 in
theorem foldItems_any (k : Int) (a : Option Addr) (n cap : Nat) (l : List Int) (w : World) (h : Nums .i64 w a n cap l) :
    Calls Tryz.prog 63 #[.int .i64 k, .slice a n cap] w fun e w' => e = .returned (.tuple #[.agg #[.int .i64 (Agg.aFold k l).1.x, .int .i64 (Agg.aFold k l).1.y, .int .i64 (Agg.aFold k l).1.z], .bool (Agg.aFold k l).2]) ∧ Below w.heap.size w w' := by
  cases hk : Agg.isKind k
  · have e : Agg.aFold k l = (Agg.zero, false) := by simp [Agg.aFold, Agg.give, hk]
    rw [e]
    have hk2 := Lib.hid (show ¬ (1 ≤ k ∧ k ≤ 10) by simpa [Agg.isKind] using hk)
    clear e h
    go_enter Tryz.func63, Tryz.ntmps63
    go_wp2_with (go_at_call 74; refine (kindOf_not _ _ hk2.out).mono ?_; rintro e w1 ⟨rfl, rfl⟩)
    refine bodyPost_ret (by simp [results, Tryz.results63, go_sem, *]; try rfl) rfl ?_
    exact ⟨ret_agg_bool rfl rfl rfl rfl, (by first | (go_grown; done) | (refine below_drewN ?_ _; go_grown; done) | (refine (below_drewN _ ?_); go_grown; done))⟩
  · rcases Agg.kinds hk with rfl | rfl | rfl | rfl | rfl | rfl | rfl | rfl | rfl | rfl
    · exact foldItems_1 a n cap l w h
    · exact foldItems_2 a n cap l w h
    · exact foldItems_3 a n cap l w h
    · exact foldItems_4 a n cap l w h
    · exact foldItems_5 a n cap l w h
    · exact foldItems_6 a n cap l w h
    · exact foldItems_7 a n cap l w h
    · exact foldItems_8 a n cap l w h
    · exact foldItems_9 a n cap l w h
    · exact foldItems_10 a n cap l w h
end Go.Proofs.YtolgclajlklmaaaGreat
