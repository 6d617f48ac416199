/-
  Numbers of aggregates and of folds, in the program and in the model; numbers of all rows of a size.
-/
import Derived.Test.YtmlkdbmhekiniaaM
import Derived.Test.YtmlkdbmhekiniaaN
import Derived.Test.YtmlkdbmhekiniaaRw
import Derived.Test.YtmlkdbmhekiniaaMa
namespace Go.Proofs.Ytmlkdbmhekiniaa
set_option linter.unusedSimpArgs false
set_option linter.unusedVariables false
open Go.RowKit
/-- The number of an aggregate, or -1. -/
def Agg.num (k : Int) (v : Agg.V) : Int := if (Agg.aLow k v).2 then (Agg.aLow k v).1 else -1
/-- The number of a list's fold, or -1. -/
def Agg.number (k : Int) (l : List Int) : Int := Agg.num k (Agg.fold k l)
/-- The numbers of all rows of s items. -/
def Agg.slides (k : Int) (l : List Int) (s : Nat) : List Int := (List.range (l.length + 1 - s)).map fun i => Agg.number k ((l.drop i).take s)
theorem Agg.slides_len (k : Int) (l : List Int) (s : Nat) : (Agg.slides k l s).length = l.length + 1 - s := by simp [Agg.slides]
theorem Agg.slides_step (k : Int) (l : List Int) (s j : Nat) (h : j < l.length + 1 - s) : (Agg.slides k l s).take (j + 1) = (Agg.slides k l s).take j ++ [Agg.number k ((l.drop j).take s)] := by
  rw [List.take_succ_eq_append_getElem (by rw [Agg.slides_len]; exact h)]
  simp [Agg.slides]
theorem orNone_any (n : Int) (b : Bool) (w : World) : Calls Try.prog 36 #[.int .i64 n, .bool b] w fun e w' => e = .returned (.int .i64 (if b then n else -1)) ∧ w = w' := by
  cases b
  all_goals
    go_enter Try.func36, Try.ntmps36
    go_wp2
    go_returns
    exact ⟨rfl, rfl⟩
theorem numberOf_any (k x y z : Int) (w : World) :
    Calls Try.prog 33 #[.int .i64 k, .agg #[.int .i64 x, .int .i64 y, .int .i64 z]] w fun e w' => e = .returned (.int .i64 (Agg.num k ⟨x, y, z⟩)) ∧ Below w.heap.size w w' := by
  obtain ⟨⟨n, b⟩, hb⟩ : ∃ p, p = Agg.aLow k ⟨x, y, z⟩ := ⟨_, rfl⟩
  have h1 := fun w => lowerValue_any k x y z w
  have e : Agg.num k ⟨x, y, z⟩ = if b then n else -1 := by simp [Agg.num, ← hb]
  rw [← hb] at h1
  rw [e]
  have H1 := Lib.hid h1
  clear h1 hb e
  cases b
  all_goals
    go_enter Try.func33, Try.ntmps33
    go_wp2_with fail
    refine (H1.out _).mono ?_
    rintro e w1 ⟨rfl, hb1⟩; obtain ⟨hc1, hf1⟩ := bcell hb1; obtain hz0 : w.heap.size < w1.heap.size := (by have hzz := hb1.size; (try simp at hzz); omega); have hB1 : Below w.heap.size w w1 := Below.trans (by go_grown) (hb1.mono (by first | (simp; done) | (simp; omega) | omega)); clear hb1
    go_wp2_with fail
    refine (orNone_any _ _ _).mono ?_
    rintro e w2 ⟨rfl, rfl⟩
    go_wp2_with fail
    go_returns
    exact ⟨rfl, (by first | (go_grown; done) | (refine below_drewN ?_ _; go_grown; done) | (refine (below_drewN _ ?_); go_grown; done))⟩
theorem s_lower_any (k : Int) (hk : Agg.isKind k = true) (x y z : Int) (w : World) (h : Agg.ok k ⟨x, y, z⟩ = true) :
    Calls Try.prog 25 #[.int .i64 k, .agg #[.int .i64 x, .int .i64 y, .int .i64 z]] w fun e w' => e = .returned (.tuple #[.int .i64 (Agg.low k ⟨x, y, z⟩).1, .bool (Agg.low k ⟨x, y, z⟩).2]) ∧ Below w.heap.size w w' := by
  rcases Agg.kinds hk with rfl | rfl | rfl | rfl | rfl | rfl | rfl | rfl | rfl | rfl
  · exact s_lower_1 x y z w h
  · exact s_lower_2 x y z w h
  · exact s_lower_3 x y z w h
  · exact s_lower_4 x y z w h
  · exact s_lower_5 x y z w h
  · exact s_lower_6 x y z w h
  · exact s_lower_7 x y z w h
  · exact s_lower_8 x y z w h
  · exact s_lower_9 x y z w h
  · exact s_lower_10 x y z w h
theorem s_fold_any (k : Int) (hk : Agg.isKind k = true) (a : Option Addr) (n cap : Nat) (l : List Int) (w : World) (h : Nums .i64 w a n cap l) (hi : Agg.itemsOk l = true) :
    Calls Try.prog 16 #[.int .i64 k, .slice a n cap] w fun e w' => e = .returned (.agg #[.int .i64 (Agg.fold k l).x, .int .i64 (Agg.fold k l).y, .int .i64 (Agg.fold k l).z]) ∧ Below w.heap.size w w' := by
  rcases Agg.kinds hk with rfl | rfl | rfl | rfl | rfl | rfl | rfl | rfl | rfl | rfl
  · exact s_fold_1 a n cap l w h hi
  · exact s_fold_2 a n cap l w h hi
  · exact s_fold_3 a n cap l w h hi
  · exact s_fold_4 a n cap l w h hi
  · exact s_fold_5 a n cap l w h hi
  · exact s_fold_6 a n cap l w h hi
  · exact s_fold_7 a n cap l w h hi
  · exact s_fold_8 a n cap l w h hi
  · exact s_fold_9 a n cap l w h hi
  · exact s_fold_10 a n cap l w h hi
theorem s_number_any (k : Int) (hk : Agg.isKind k = true) (x y z : Int) (w : World) (h : Agg.ok k ⟨x, y, z⟩ = true) :
    Calls Try.prog 15 #[.int .i64 k, .agg #[.int .i64 x, .int .i64 y, .int .i64 z]] w fun e w' => e = .returned (.int .i64 (Agg.num k ⟨x, y, z⟩)) ∧ Below w.heap.size w w' := by
  have h1 := fun w => s_lower_any k hk x y z w h
  rw [← Agg.aLow_of hk h] at h1
  obtain ⟨⟨n, b⟩, hb⟩ : ∃ p, p = Agg.aLow k ⟨x, y, z⟩ := ⟨_, rfl⟩
  have e : Agg.num k ⟨x, y, z⟩ = if b then n else -1 := by simp [Agg.num, ← hb]
  rw [← hb] at h1
  rw [e]
  have H1 := Lib.hid h1
  clear h1 hb e h
  cases b
  all_goals
    go_enter Try.func15, Try.ntmps15
    go_wp2_with (go_at_call 25; refine (H1.out _).mono ?_; rintro e w1 ⟨rfl, hb1⟩; obtain ⟨hc1, hf1⟩ := bcell hb1; obtain hz0 : w.heap.size < w1.heap.size := (by have hzz := hb1.size; (try simp at hzz); omega); have hB1 : Below w.heap.size w w1 := Below.trans (by go_grown) (hb1.mono (by first | (simp; done) | (simp; omega) | omega)); clear hb1)
    go_returns
    exact ⟨rfl, (by first | (go_grown; done) | (refine below_drewN ?_ _; go_grown; done) | (refine (below_drewN _ ?_); go_grown; done))⟩
end Go.Proofs.Ytmlkdbmhekiniaa
