/- the exact laws of chapter 1, walked. -/
import Derived.Test.YtelhbphlmohclaaN
import Derived.Test.YtelhbphlmohclaaRow
import Derived.Deep.RegionHeld3
namespace Go.Proofs.Ytelhbphlmohclaa
set_option linter.unusedSimpArgs false
set_option linter.unusedVariables false
open Go.RowKit
theorem toValue_any (x y z : Int) (w : World) :
    Calls Try.prog 15 #[.agg #[.int .i64 x, .int .i64 y, .int .i64 z]] w fun e w' => e = .returned (.agg #[.int .i64 x, .int .i64 y, .int .i64 z]) ∧ Below w.heap.size w w' := by
  go_enter Try.func15, Try.ntmps15
  go_wp2
  go_returns
  exact ⟨rfl, (by first | (go_grown; done) | (refine below_drewN ?_ _; go_grown; done) | (refine (below_drewN _ ?_); go_grown; done))⟩
theorem eqValue_same (x y z : Int) (w : World) :
    Calls Try.prog 19 #[.agg #[.int .i64 x, .int .i64 y, .int .i64 z], .agg #[.int .i64 x, .int .i64 y, .int .i64 z]] w fun e w' => e = .returned (.bool true) ∧ Below w.heap.size w w' := by
  go_enter Try.func19, Try.ntmps19
  go_wp2
  go_returns
  exact ⟨rfl, (by first | (go_grown; done) | (refine below_drewN ?_ _; go_grown; done) | (refine (below_drewN _ ?_); go_grown; done))⟩
theorem law_FnExactKindValid (k : Int) (w : World) :
    Calls Try.prog 3 #[.int .i64 k] w fun e w' => e = .returned (.bool true) ∧ Below w.heap.size w w' := by
  cases hk : Agg.isKind k
  all_goals
    go_enter Try.func3, Try.ntmps3
    go_wp2_with (first | (go_at_call 12; refine (s_kind_any _ _).mono ?_; rintro e w1 ⟨rfl, rfl⟩) | (go_at_call 13; refine (kindValid_any _ _).mono ?_; rintro e w1 ⟨rfl, rfl⟩))
    go_returns
    exact ⟨rfl, Below.refl _ _⟩
theorem law_FnExactCommutes (k : Int) (w : World) :
    Calls Try.prog 9 #[.int .i64 k] w fun e w' => e = .returned (.bool true) ∧ Below w.heap.size w w' := by
  cases hk : (Agg.isKind k && Agg.comm k)
  all_goals
    obtain ⟨b, hb⟩ : ∃ b, b = (Agg.isKind k && Agg.comm k) := ⟨_, rfl⟩
    have h1 := fun w => s_commutes_any k w
    have h2 := fun w => commutesOf_any k w
    rw [← hb] at h1 h2 hk
    have H1 := Lib.hid h1
    have H2 := Lib.hid h2
    clear h1 h2 hb
    go_enter Try.func9, Try.ntmps9
    go_wp2_with (first | (go_at_call 26; refine (H1.out _).mono ?_; rintro e w1 ⟨rfl, hb1⟩; obtain ⟨hc1, hf1⟩ := bcell hb1; have hzz := hb1.size; (try simp at hzz); (try rw [Nat.add_one_le_iff] at hzz); have hB1 : Below w.heap.size w w1 := Below.trans (by go_grown) (hb1.mono (by first | (simp; done) | omega | (simp; omega) | (have hs := hB1.size; simp; omega))); clear hb1) | (go_at_call 27; refine (H2.out _).mono ?_; rintro e w1 ⟨rfl, hb1⟩; obtain ⟨hc1, hf1⟩ := bcell hb1; have hzz := hb1.size; (try simp at hzz); (try rw [Nat.add_one_le_iff] at hzz); have hB1 : Below w.heap.size w w1 := Below.trans (by go_grown) (hb1.mono (by first | (simp; done) | omega | (simp; omega) | (have hs := hB1.size; simp; omega))); clear hb1))
    go_returns
    exact ⟨rfl, hB1⟩
theorem law_FnExactValueValid (k x y z : Int) (w : World) :
    Calls Try.prog 4 #[.int .i64 k, .agg #[.int .i64 x, .int .i64 y, .int .i64 z]] w fun e w' => e = .returned (.bool true) ∧ Below w.heap.size w w' := by
  cases hk : Agg.valid k ⟨x, y, z⟩
  all_goals
    go_enter Try.func4, Try.ntmps4
    go_wp2_with (first | (go_at_call 15; refine (toValue_any _ _ _ _).mono ?_; rintro e w1 ⟨rfl, hb1⟩; obtain ⟨hc1, hf1⟩ := bcell hb1; obtain hz0 : w.heap.size < w1.heap.size := (by have hzz := hb1.size; (try simp at hzz); omega); have hB1 : Below w.heap.size w w1 := Below.trans (by go_grown) (hb1.mono (by first | (simp; done) | (simp; omega) | omega)); clear hb1) | (go_at_call 14; refine (s_valueValid_any _ _ _ _ _).mono ?_; rintro e w1 ⟨rfl, hb1⟩; obtain ⟨hc1, hf1⟩ := bcell hb1; obtain hz0 : w.heap.size < w1.heap.size := (by have hzz := hb1.size; (try simp at hzz); omega); have hB1 : Below w.heap.size w w1 := Below.trans (by go_grown) (hb1.mono (by first | (simp; done) | (simp; omega) | omega)); clear hb1) | (go_at_call 16; refine (valueValid_any _ _ _ _ _).mono ?_; rintro e w1 ⟨rfl, hb1⟩; obtain ⟨hc1, hf1⟩ := bcell hb1; obtain hz0 : w.heap.size < w1.heap.size := (by have hzz := hb1.size; (try simp at hzz); omega); have hB1 : Below w.heap.size w w1 := Below.trans (by go_grown) (hb1.mono (by first | (simp; done) | (simp; omega) | omega)); clear hb1))
    go_returns
    exact ⟨rfl, hB1⟩
theorem law_FnExactUnitOf (k : Int) (w : World) :
    Calls Try.prog 6 #[.int .i64 k] w fun e w' => e = .returned (.bool true) ∧ Below w.heap.size w w' := by
  obtain ⟨⟨v, b⟩, hb⟩ : ∃ p, p = Agg.aUnit k := ⟨_, rfl⟩
  have h1 := fun w => s_unitOf_any k w
  have h2 := fun w => unitOf_any k w
  rw [← hb] at h1 h2
  have H1 := Lib.hid h1
  have H2 := Lib.hid h2
  clear h1 h2 hb
  cases b
  all_goals
    go_enter Try.func6, Try.ntmps6
    go_wp2_with (first | (go_at_call 20; refine (H1.out _).mono ?_; rintro e w1 ⟨rfl, hb1⟩; obtain ⟨hc1, hf1⟩ := bcell hb1; have hzz := hb1.size; (try simp at hzz); (try rw [Nat.add_one_le_iff] at hzz); have hB1 : Below w.heap.size w w1 := Below.trans (by go_grown) (hb1.mono (by first | (simp; done) | omega | (simp; omega) | (have hs := hB1.size; simp; omega))); clear hb1) | (go_at_call 21; refine (H2.out _).mono ?_; rintro e w1 ⟨rfl, hb1⟩; obtain ⟨hc1, hf1⟩ := bcell hb1; have hzz := hb1.size; (try simp at hzz); (try rw [Nat.add_one_le_iff] at hzz); have hB1 : Below w.heap.size w w1 := Below.trans (by go_grown) (hb1.mono (by first | (simp; done) | omega | (simp; omega) | (have hs := hB1.size; simp; omega))); clear hb1) | (go_at_call 19; refine (eqValue_same _ _ _ _).mono ?_; rintro e w1 ⟨rfl, hb1⟩; obtain ⟨hc1, hf1⟩ := bcell hb1; have hzz := hb1.size; (try simp at hzz); (try rw [Nat.add_one_le_iff] at hzz); have hB1 : Below w.heap.size w w1 := Below.trans (by go_grown) (hb1.mono (by first | (simp; done) | omega | (simp; omega) | (have hs := hB1.size; simp; omega))); clear hb1))
    go_returns
    exact ⟨rfl, hB1⟩
theorem law_FnExactLiftItem (k n : Int) (w : World) :
    Calls Try.prog 5 #[.int .i64 k, .int .i64 n] w fun e w' => e = .returned (.bool true) ∧ Below w.heap.size w w' := by
  obtain ⟨⟨v, b⟩, hb⟩ : ∃ p, p = Agg.aLift k n := ⟨_, rfl⟩
  have h1 := fun w => s_liftItem_any k n w
  have h2 := fun w => liftItem_any k n w
  rw [← hb] at h1 h2
  have H1 := Lib.hid h1
  have H2 := Lib.hid h2
  clear h1 h2 hb
  cases b
  all_goals
    go_enter Try.func5, Try.ntmps5
    go_wp2_with (first | (go_at_call 17; refine (H1.out _).mono ?_; rintro e w1 ⟨rfl, hb1⟩; obtain ⟨hc1, hf1⟩ := bcell hb1; have hzz := hb1.size; (try simp at hzz); (try rw [Nat.add_one_le_iff] at hzz); have hB1 : Below w.heap.size w w1 := Below.trans (by go_grown) (hb1.mono (by first | (simp; done) | omega | (simp; omega) | (have hs := hB1.size; simp; omega))); clear hb1) | (go_at_call 18; refine (H2.out _).mono ?_; rintro e w1 ⟨rfl, hb1⟩; obtain ⟨hc1, hf1⟩ := bcell hb1; have hzz := hb1.size; (try simp at hzz); (try rw [Nat.add_one_le_iff] at hzz); have hB1 : Below w.heap.size w w1 := Below.trans (by go_grown) (hb1.mono (by first | (simp; done) | omega | (simp; omega) | (have hs := hB1.size; simp; omega))); clear hb1) | (go_at_call 19; refine (eqValue_same _ _ _ _).mono ?_; rintro e w1 ⟨rfl, hb1⟩; obtain ⟨hc1, hf1⟩ := bcell hb1; have hzz := hb1.size; (try simp at hzz); (try rw [Nat.add_one_le_iff] at hzz); have hB1 : Below w.heap.size w w1 := Below.trans (by go_grown) (hb1.mono (by first | (simp; done) | omega | (simp; omega) | (have hs := hB1.size; simp; omega))); clear hb1))
    go_returns
    exact ⟨rfl, hB1⟩
theorem law_FnExactLowerValue (k x y z : Int) (w : World) :
    Calls Try.prog 8 #[.int .i64 k, .agg #[.int .i64 x, .int .i64 y, .int .i64 z]] w fun e w' => e = .returned (.bool true) ∧ Below w.heap.size w w' := by
  obtain ⟨⟨v, b⟩, hb⟩ : ∃ p, p = Agg.aLow k ⟨x, y, z⟩ := ⟨_, rfl⟩
  have h1 := fun w => s_lowerValue_any k x y z w
  have h2 := fun w => lowerValue_any k x y z w
  rw [← hb] at h1 h2
  have H1 := Lib.hid h1
  have H2 := Lib.hid h2
  clear h1 h2 hb
  cases b
  all_goals
    go_enter Try.func8, Try.ntmps8
    go_wp2_with (first | (go_at_call 15; refine (toValue_any _ _ _ _).mono ?_; rintro e w1 ⟨rfl, hb1⟩; obtain ⟨hc1, hf1⟩ := bcell hb1; obtain hz0 : w.heap.size < w1.heap.size := (by have hzz := hb1.size; (try simp at hzz); omega); have hB1 : Below w.heap.size w w1 := Below.trans (by go_grown) (hb1.mono (by first | (simp; done) | (simp; omega) | omega)); clear hb1) | (go_at_call 24; refine (H1.out _).mono ?_; rintro e w1 ⟨rfl, hb1⟩; obtain ⟨hc1, hf1⟩ := bcell hb1; obtain hz0 : w.heap.size < w1.heap.size := (by have hzz := hb1.size; (try simp at hzz); omega); have hB1 : Below w.heap.size w w1 := Below.trans (by go_grown) (hb1.mono (by first | (simp; done) | (simp; omega) | omega)); clear hb1) | (go_at_call 25; refine (H2.out _).mono ?_; rintro e w1 ⟨rfl, hb1⟩; obtain ⟨hc1, hf1⟩ := bcell hb1; obtain hz0 : w.heap.size < w1.heap.size := (by have hzz := hb1.size; (try simp at hzz); omega); have hB1 : Below w.heap.size w w1 := Below.trans (by go_grown) (hb1.mono (by first | (simp; done) | (simp; omega) | omega)); clear hb1))
    go_returns
    exact ⟨rfl, hB1⟩
end Go.Proofs.Ytelhbphlmohclaa
