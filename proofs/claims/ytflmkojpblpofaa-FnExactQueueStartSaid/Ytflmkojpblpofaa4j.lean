/-
  The exact law of QueueStart, walked.
-/
import Derived.Test.Ytflmkojpblpofaa4e
import Derived.Test.Ytflmkojpblpofaa3j
import Derived.Test.YtflmkojpblpofaaN
namespace Go.Proofs.Ytflmkojpblpofaa
set_option linter.unusedSimpArgs false
set_option linter.unusedVariables false
open Go.RowKit
theorem markQueue_nil (k : Int) (hk0 : 0 ≤ k) (hk1 : k ≤ 1000) (w : World) :
    Calls Try.prog 8 #[.agg #[.slice none 0 0, .slice none 0 0, .int .i64 0, .int .i64 0, .int .i64 0, .int .i64 0, .int .i64 0], .int .i64 k] w fun e w' => e = .returned (.int .i64 k) ∧ Below w.heap.size w w' := by
  have h1 : ∀ w, Calls Try.prog 18 #[.slice none 0 0, .int .i64 k] w fun e w' => e = .returned (.int .i64 k) ∧ Below w.heap.size w w' := fun w => (markIntS_own w k (ownR_nil w) hk0 (by omega) (by omega)).mono (fun e w' ⟨he, _, hg⟩ => ⟨by simpa using he, below_of_none hg⟩)
  have h2 : ∀ w, Calls Try.prog 19 #[.slice none 0 0, .int .i64 k] w fun e w' => e = .returned (.int .i64 k) ∧ Below w.heap.size w w' := fun w => (markValueS_own w k (ownV_nil w) hk0 (by omega) (by omega)).mono (fun e w' ⟨he, _, hg⟩ => ⟨by simpa using he, below_of_none hg⟩)
  have H1 := Lib.hid h1
  have H2 := Lib.hid h2
  clear h1 h2
  go_enter Try.func8, Try.ntmps8
  go_wp2_with fail
  refine (H1.out _).mono ?_
  rintro e w1 ⟨rfl, hb1⟩
  have HX1 := Lib.hid ((Box7.new w 25 (.slice none 0 0) (.slice none 0 0) (.int .i64 0) (.int .i64 0) (.int .i64 0) (.int .i64 0) (.int .i64 0)).call hb1)
  have HB1 := Lib.hid (((Below.refl w.heap.size w).alloc (Nat.le_refl _) _).trans (hb1.mono (by simp)))
  obtain ⟨q0, q1, q2, q3, q4, q5, q6⟩ := HX1.out.cells
  clear hb1
  go_wp2_with fail
  refine (H2.out _).mono ?_
  rintro e w2 ⟨rfl, hb2⟩
  have HB2 := Lib.hid (HB1.out.trans (hb2.mono HB1.out.size))
  clear hb2
  go_wp2_with fail
  go_returns
  exact ⟨rfl, HB2.out⟩
theorem heldQueue_nil (k : Int) (hk0 : 0 ≤ k) (hk1 : k ≤ 1000) (w : World) :
    Calls Try.prog 9 #[.agg #[.slice none 0 0, .slice none 0 0, .int .i64 0, .int .i64 0, .int .i64 0, .int .i64 0, .int .i64 0], .int .i64 k] w fun e w' => e = .returned (.int .i64 k) ∧ Below w.heap.size w w' := by
  have h1 : ∀ w, Calls Try.prog 20 #[.slice none 0 0, .int .i64 k] w fun e w' => e = .returned (.int .i64 k) ∧ Below w.heap.size w w' := fun w => (heldIntS_own w k (n := 0) (ownR_nil w) hk0 (by omega) (by omega)).mono (fun e w' ⟨he, hg⟩ => ⟨by simpa using he, hg⟩)
  have h2 : ∀ w, Calls Try.prog 21 #[.slice none 0 0, .int .i64 k] w fun e w' => e = .returned (.int .i64 k) ∧ Below w.heap.size w w' := fun w => (heldValueS_own w k (n := 0) (ownV_nil w) hk0 (by omega) (by omega)).mono (fun e w' ⟨he, hg⟩ => ⟨by simpa using he, hg⟩)
  have H1 := Lib.hid h1
  have H2 := Lib.hid h2
  have hneg : ¬ (k < 0) := by omega
  clear h1 h2
  go_enter Try.func9, Try.ntmps9
  go_wp2_with fail
  refine (H1.out _).mono ?_
  rintro e w1 ⟨rfl, hb1⟩
  have HX1 := Lib.hid ((Box7.new w 25 (.slice none 0 0) (.slice none 0 0) (.int .i64 0) (.int .i64 0) (.int .i64 0) (.int .i64 0) (.int .i64 0)).call hb1)
  have HB1 := Lib.hid (((Below.refl w.heap.size w).alloc (Nat.le_refl _) _).trans (hb1.mono (by simp)))
  obtain ⟨q0, q1, q2, q3, q4, q5, q6⟩ := HX1.out.cells
  clear hb1
  go_wp2_with fail
  refine (H2.out _).mono ?_
  rintro e w2 ⟨rfl, hb2⟩
  have HB2 := Lib.hid (HB1.out.trans (hb2.mono HB1.out.size))
  clear hb2
  go_wp2_with fail
  go_returns
  exact ⟨rfl, HB2.out⟩
theorem queueStart_any (k : Int) (w : World) :
    Calls Try.prog 6 #[.int .i64 k] w fun e w' => e = .returned (.tuple #[.agg #[.slice none 0 0, .slice none 0 0, .int .i64 0, .int .i64 0, .int .i64 0, .int .i64 0, .int .i64 0], .bool (Agg.isKind k)]) ∧ Below w.heap.size w w' := by
  have HK := Lib.hid (fun w => kindValid_any k w)
  go_enter Try.func6, Try.ntmps6
  go_wp2_with fail
  refine (HK.out _).mono ?_
  rintro e w1 ⟨rfl, rfl⟩
  go_wp2_with fail
  refine bodyPost_ret (by simp [results, Try.results6, go_sem, *]; try rfl) rfl ?_
  exact ⟨rfl, (by first | (go_grown; done) | (refine below_drewN ?_ _; go_grown; done) | (refine (below_drewN _ ?_); go_grown; done))⟩
theorem s_queueStart_any (k : Int) (w : World) :
    Calls Try.prog 5 #[.int .i64 k] w fun e w' => e = .returned (.tuple #[.agg #[.slice none 0 0, .slice none 0 0, .int .i64 0, .int .i64 0, .int .i64 0, .int .i64 0, .int .i64 0], .bool (Agg.isKind k)]) ∧ Below w.heap.size w w' := by
  have HK := Lib.hid (fun w => s_kind_any k w)
  go_enter Try.func5, Try.ntmps5
  go_wp2_with fail
  refine (HK.out _).mono ?_
  rintro e w1 ⟨rfl, rfl⟩
  go_wp2_with fail
  refine bodyPost_ret (by simp [results, Try.results5, go_sem, *]; try rfl) rfl ?_
  exact ⟨rfl, (by first | (go_grown; done) | (refine below_drewN ?_ _; go_grown; done) | (refine (below_drewN _ ?_); go_grown; done))⟩
set_option maxRecDepth 8000 in
set_option maxHeartbeats 4000000 in
theorem law_FnExactQueueStart (k : Int) (w : World) :
    Calls Try.prog 3 #[.int .i64 k] w fun e w' => e = .returned (.bool true) ∧ Below w.heap.size w w' := by
  obtain ⟨b, hb⟩ : ∃ b, b = Agg.isKind k := ⟨_, rfl⟩
  have h1 := fun w => queueStart_any k w
  have h2 := fun w => s_queueStart_any k w
  rw [← hb] at h1 h2
  have HE := Lib.hid (fun w => eqQueue_own w (que_nil w) (que_nil w))
  have H1 := Lib.hid h1
  have H2 := Lib.hid h2
  have HM := Lib.hid (fun w => markQueue_nil 1 (by omega) (by omega) w)
  have HH := Lib.hid (fun w => heldQueue_nil 1 (by omega) (by omega) w)
  clear h1 h2 hb
  go_enter Try.func3, Try.ntmps3
  go_wp2_with fail
  refine (H2.out _).mono ?_
  rintro e w1 ⟨rfl, hb1⟩
  have HB1 := Lib.hid hb1
  clear hb1
  go_wp2_with fail
  refine (H1.out _).mono ?_
  rintro e w2 ⟨rfl, hb2⟩
  have HX2 := Lib.hid ((Box7.new w1 25 (.slice none 0 0) (.slice none 0 0) (.int .i64 0) (.int .i64 0) (.int .i64 0) (.int .i64 0) (.int .i64 0)).call hb2)
  have HB2 := Lib.hid ((HB1.out.alloc HB1.out.size _).trans (hb2.mono (HB1.out.alloc HB1.out.size _).size))
  have hl2 := HX2.out.lt
  obtain ⟨q0, q1, q2, q3, q4, q5, q6⟩ := HX2.out.cells
  clear hb2
  go_wp2_with fail
  refine (HE.out _).mono ?_
  rintro e w3 ⟨rfl, hb3⟩
  have HX3 := Lib.hid ((HX2.out.alloc _).call hb3)
  have HY3 := Lib.hid ((Box7.new w2 25 (.slice none 0 0) (.slice none 0 0) (.int .i64 0) (.int .i64 0) (.int .i64 0) (.int .i64 0) (.int .i64 0)).call hb3)
  have HB3 := Lib.hid ((HB2.out.alloc HB2.out.size _).trans (hb3.mono (HB2.out.alloc HB2.out.size _).size))
  clear hb3 HX2 q0 q1 q2 q3 q4 q5 q6
  obtain ⟨q0, q1, q2, q3, q4, q5, q6⟩ := HX3.out.cells
  obtain ⟨r0, r1, r2, r3, r4, r5, r6⟩ := HY3.out.cells
  cases b
  all_goals
    go_wp2_with fail
    refine (HM.out _).mono ?_
    rintro e w4 ⟨rfl, hb4⟩
    have HX4 := Lib.hid (HX3.out.call hb4)
    have HY4 := Lib.hid (HY3.out.call hb4)
    have HB4 := Lib.hid (HB3.out.trans (hb4.mono HB3.out.size))
    clear hb4 HX3 HY3 q0 q1 q2 q3 q4 q5 q6 r0 r1 r2 r3 r4 r5 r6
    obtain ⟨q0, q1, q2, q3, q4, q5, q6⟩ := HX4.out.cells
    obtain ⟨r0, r1, r2, r3, r4, r5, r6⟩ := HY4.out.cells
    go_wp2_with fail
    refine (HH.out _).mono ?_
    rintro e w5 ⟨rfl, hb5⟩
    have HX5 := Lib.hid (HX4.out.call hb5)
    have HY5 := Lib.hid (HY4.out.call hb5)
    have HB5 := Lib.hid (HB4.out.trans (hb5.mono HB4.out.size))
    clear hb5 HX4 HY4 q0 q1 q2 q3 q4 q5 q6 r0 r1 r2 r3 r4 r5 r6
    go_wp2_with fail
    refine (H1.out _).mono ?_
    rintro e w6 ⟨rfl, hb6⟩
    have HX6 := Lib.hid (HX5.out.call hb6)
    have HY6 := Lib.hid (HY5.out.call hb6)
    have HB6 := Lib.hid (HB5.out.trans (hb6.mono HB5.out.size))
    have hl6 := HX6.out.lt
    have hk6 := HY6.out.lt
    clear hb6 HX5 HY5
    obtain ⟨q0, q1, q2, q3, q4, q5, q6⟩ := HX6.out.cells
    obtain ⟨r0, r1, r2, r3, r4, r5, r6⟩ := HY6.out.cells
    go_wp2_with fail
    refine (HE.out _).mono ?_
    rintro e w7 ⟨rfl, hb7⟩
    have HY7 := Lib.hid ((HY6.out.alloc _).call hb7)
    have HB7 := Lib.hid ((HB6.out.alloc HB6.out.size _).trans (hb7.mono (HB6.out.alloc HB6.out.size _).size))
    clear hb7 HX6 HY6 q0 q1 q2 q3 q4 q5 q6 r0 r1 r2 r3 r4 r5 r6
    obtain ⟨r0, r1, r2, r3, r4, r5, r6⟩ := HY7.out.cells
    go_wp2_with fail
    refine (HH.out _).mono ?_
    rintro e w8 ⟨rfl, hb8⟩
    have HB8 := Lib.hid (HB7.out.trans (hb8.mono HB7.out.size))
    clear hb8
    go_wp2_with fail
    go_returns
    exact ⟨rfl, HB8.out⟩
end Go.Proofs.Ytflmkojpblpofaa
