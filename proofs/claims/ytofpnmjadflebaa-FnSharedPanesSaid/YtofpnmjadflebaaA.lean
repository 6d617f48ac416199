/-
  The kinds of aggregates: what kindOf hands out, and what each method of a kind answers.
-/
import Derived.Test.YtofpnmjadflebaaMa
import Derived.Test.YtofpnmjadflebaaRows
import Derived.Handy
import Derived.Lib.Hide
import Derived.Deep.QuietTactic
import Derived.BigQuiet
import Derived.WalkSmall
namespace Go.Proofs.Ytofpnmjadflebaa
set_option linter.unusedSimpArgs false
open Go.RowKit

/-- The place of a field of no size in a variable of no size: the variable's own. -/
theorem part0 (w : World) (b : Nat) (T : TypeId) (h : w.heap[b]? = some (.cells #[] T (0, 0))) (hT : Try.prog.cellsOf T = 0) :
    (partAt ⟨b, 0, none⟩ 0 0).run Try.prog w = .ok ⟨b, 0, none⟩ w := by
  have hs : w.shape? b = some (T, 0) := by simp [World.shape?, h]
  simp [partAt, byteOf, noView, viewAt, go_sem, hs, hT, Result.andThen]
theorem part1 (w : World) (T : TypeId) (hT : Try.prog.cellsOf T = 0) :
    (partAt ⟨w.heap.size, 0, none⟩ 0 0).run Try.prog (w.alloc (.cells #[] T)) = .ok ⟨w.heap.size, 0, none⟩ (w.alloc (.cells #[] T)) :=
  part0 _ _ T (heap_alloc_new w _) hT
theorem part4 (w : World) (T : TypeId) (hT : Try.prog.cellsOf T = 0) (o1 o2 o3 : Obj) :
    (partAt ⟨w.heap.size, 0, none⟩ 0 0).run Try.prog ((((w.alloc (.cells #[] T)).alloc o1).alloc o2).alloc o3) = .ok ⟨w.heap.size, 0, none⟩ ((((w.alloc (.cells #[] T)).alloc o1).alloc o2).alloc o3) := by
  refine part0 _ _ T ?_ hT
  rw [heap_alloc_old _ _ (by simp; omega), heap_alloc_old _ _ (by simp; omega), heap_alloc_old _ _ (by simp)]
  exact heap_alloc_new w _

theorem ret_bool {a b : Bool} (h : a = b) : Ending.returned (.bool a) = .returned (.bool b) := by rw [h]
theorem ret_agg {x y z : Int} {v : Agg.V} (h1 : x = v.x) (h2 : y = v.y) (h3 : z = v.z) : Ending.returned (.agg #[.int .i64 x, .int .i64 y, .int .i64 z]) = .returned (.agg #[.int .i64 v.x, .int .i64 v.y, .int .i64 v.z]) := by rw [h1, h2, h3]
theorem ret_agg_bool {x y z : Int} {v : Agg.V} {a b : Bool} (h1 : x = v.x) (h2 : y = v.y) (h3 : z = v.z) (h : a = b) : Ending.returned (.tuple #[.agg #[.int .i64 x, .int .i64 y, .int .i64 z], .bool a]) = .returned (.tuple #[.agg #[.int .i64 v.x, .int .i64 v.y, .int .i64 v.z], .bool b]) := by rw [h1, h2, h3, h]
theorem bcell {W w1 : World} (hb : Below W.heap.size W w1) : (∀ b o, b < W.heap.size → w1.cell? ⟨b, o, none⟩ = W.cell? ⟨b, o, none⟩) ∧ (∀ b o, b < W.heap.size → w1.frozen? ⟨b, o, none⟩ = W.frozen? ⟨b, o, none⟩) :=
  ⟨fun b o h => hb.cell (p := ⟨b, o, none⟩) h, fun b o h => hb.frozen (p := ⟨b, o, none⟩) h⟩
theorem ret_int_bool {x y : Int} {a b : Bool} (h : x = y) (h2 : a = b) : Ending.returned (.tuple #[.int .i64 x, .bool a]) = .returned (.tuple #[.int .i64 y, .bool b]) := by rw [h, h2]

theorem within_any (n lo hi : Int) (w : World) :
    Calls Try.prog 35 #[.int .i64 n, .int .i64 lo, .int .i64 hi] w fun e w' => e = .returned (.bool (decide (lo ≤ n) && decide (n ≤ hi))) ∧ w = w' := by
  go_enter Try.func35, Try.ntmps35
  go_wp2
  all_goals (go_returns; exact ⟨ret_bool (by simp <;> omega), rfl⟩)

end Go.Proofs.Ytofpnmjadflebaa
