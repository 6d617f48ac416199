/-
  The exact laws of QueueValid and QueueValue, walked.
-/
import Derived.Test.Ytflmkojpblpofaa4x
import Derived.Test.Ytflmkojpblpofaa4e
import Derived.Test.Ytflmkojpblpofaa4v
namespace Go.Proofs.Ytflmkojpblpofaa
set_option linter.unusedSimpArgs false
set_option linter.unusedVariables false
open Go.RowKit
set_option maxRecDepth 8000 in
set_option maxHeartbeats 4000000 in
theorem law_FnExactQueueValid (k : Int) (ia : Option Addr) (m ic : Nat) (fa : Option Addr) (fn fc : Nat) (pl pr pa pb co : Int) (F : List Agg.V) (I : List Int) (w : World) (hF : Vals w fa fn fc F) (hI : Nums .i64 w ia m ic I) :
    Calls Try.prog 4 #[.int .i64 k, .agg #[.slice ia m ic, .slice fa fn fc, .int .i64 pl, .int .i64 pr, .int .i64 pa, .int .i64 pb, .int .i64 co]] w fun e w' => e = .returned (.bool true) ∧ Below w.heap.size w w' := by
  have hc1 : fc ≤ 9223372036854775807 := by have := hF.2.2.1; unfold maxLen at this; omega
  have hc2 : ic ≤ 9223372036854775807 := by have := hI.2.2.1; unfold maxLen at this; omega
  have hn1 : fn ≤ fc := hF.2.1
  have hn2 : m ≤ ic := hI.2.1
  have HFL := Lib.hid (show F.length = fn from hF.1)
  have HIL := Lib.hid (show I.length = m from hI.1)
  have HF := Lib.hid hF
  have HI := Lib.hid hI
  have hSZ := fun w => szQueue_any ia m ic fa fn fc pl pr pa pb co w (by omega) (by omega)
  have HA0 := Lib.hid (show Box7 (w.alloc (.cells #[.slice ia m ic, .slice fa fn fc, .int .i64 pl, .int .i64 pr, .int .i64 pa, .int .i64 pb, .int .i64 co] 33)) w.heap.size 33 (.slice ia m ic) (.slice fa fn fc) (.int .i64 pl) (.int .i64 pr) (.int .i64 pa) (.int .i64 pb) (.int .i64 co) from Box7.new w _ _ _ _ _ _ _ _)
  have HB0 := Lib.hid (show Below w.heap.size w (w.alloc (.cells #[.slice ia m ic, .slice fa fn fc, .int .i64 pl, .int .i64 pr, .int .i64 pa, .int .i64 pb, .int .i64 co] 33)) from (Below.refl _ _).alloc (Nat.le_refl _) _)
  clear hF hI
  by_cases hsz : m + fn ≤ 1048576
  · rw [if_pos hsz] at hSZ
    have HSZ := Lib.hid hSZ
    have hpos : ¬ ((1048576 : Int) - (m : Int) - (fn : Int) < 0) := by omega
    have hfn : fn ≤ 1048576 := by omega
    have hm : m ≤ 1048576 := by omega
    have hfl : F.length ≤ 4611686018427387 := by have := HFL.out; omega
    have hil : I.length ≤ 4611686018427387 := by have := HIL.out; omega
    obtain ⟨sb, hsb⟩ : ∃ sb, sb = Agg.qOk k ⟨I, F, pl, pr, pa, pb, co⟩ := ⟨_, rfl⟩
    have h1 := fun ia ic fa fc w hF hI => s_queueValid_any k ia I.length ic fa F.length fc pl pr pa pb co F I w hF hI hfl hil
    have h2 := fun ia ic fa fc w hF hI => queueValid_any k ia I.length ic fa F.length fc pl pr pa pb co F I w hF hI hfl hil
    rw [← hsb] at h1 h2
    have H1 := Lib.hid h1
    have H2 := Lib.hid h2
    clear h1 h2 hsb hSZ
    go_enter Try.func4, Try.ntmps4
    go_wp2_with fail
    refine (HSZ.out _).mono ?_
    rintro e w1 ⟨rfl, hb1⟩
    have HA1 := Lib.hid (HA0.out.call hb1)
    have HB1 := Lib.hid (HB0.out.trans (hb1.mono HB0.out.size))
    obtain ⟨q0, q1, q2, q3, q4, q5, q6⟩ := HA1.out.cells
    clear hb1 HA0 HB0
    go_wp2_with fail
    refine (toQueue_own _ _ _ _ _ _ _ _ _ _ _ F I _ (HF.out.below HB1.out) (HI.out.below HB1.out) hfn hm).mono ?_
    rintro e w2 ⟨v2, rfl, r2, hb2⟩
    obtain ⟨ia2, ic2, fa2, fc2, rfl, hI2, hF2⟩ := r2.read
    have HF2 := Lib.hid hF2
    have HI2 := Lib.hid hI2
    have HA2 := Lib.hid (HA1.out.call hb2)
    have HB2 := Lib.hid (HB1.out.trans (hb2.mono HB1.out.size))
    clear hb2 r2 hF2 hI2 HA1 HB1 q0 q1 q2 q3 q4 q5 q6
    go_wp2_with fail
    refine (H1.out _ _ _ _ _ HF2.out HI2.out).mono ?_
    rintro e w3 ⟨rfl, hb3⟩
    have HA3 := Lib.hid (HA2.out.call hb3)
    have HB3 := Lib.hid (HB2.out.trans (hb3.mono HB2.out.size))
    obtain ⟨q0, q1, q2, q3, q4, q5, q6⟩ := HA3.out.cells
    clear hb3 HA2 HB2 HF2 HI2
    go_wp2_with fail
    refine (toQueue_own _ _ _ _ _ _ _ _ _ _ _ F I _ (HF.out.below HB3.out) (HI.out.below HB3.out) hfn hm).mono ?_
    rintro e w4 ⟨v4, rfl, r4, hb4⟩
    obtain ⟨ia4, ic4, fa4, fc4, rfl, hI4, hF4⟩ := r4.read
    have HF4 := Lib.hid hF4
    have HI4 := Lib.hid hI4
    have R4 := Lib.hid r4
    have HA4 := Lib.hid (HA3.out.call hb4)
    have HB4 := Lib.hid (HB3.out.trans (hb4.mono HB3.out.size))
    have h43 := hb4.size
    clear hb4 r4 hF4 hI4 HA3 HB3 q0 q1 q2 q3 q4 q5 q6
    have hx := (Below.refl w4.heap.size w4).alloc (Nat.le_refl _) (.cells #[.slice ia4 I.length ic4, .slice fa4 F.length fc4, .int .i64 pl, .int .i64 pr, .int .i64 pa, .int .i64 pb, .int .i64 co] 25)
    have HX5 := Lib.hid (Box7.new w4 25 (.slice ia4 I.length ic4) (.slice fa4 F.length fc4) (.int .i64 pl) (.int .i64 pr) (.int .i64 pa) (.int .i64 pb) (.int .i64 co))
    have HA5 := Lib.hid (HA4.out.call hx)
    have HF5 := Lib.hid (HF4.out.below hx)
    have HI5 := Lib.hid (HI4.out.below hx)
    have R45 := Lib.hid (R4.out.below hx)
    have HB5 := Lib.hid (HB4.out.trans (hx.mono HB4.out.size))
    clear hx HA4 HF4 HI4 R4 HB4
    go_wp2_with fail
    refine (H2.out _ _ _ _ _ HF5.out HI5.out).mono ?_
    rintro e w6 ⟨rfl, hb6⟩
    have HA6 := Lib.hid (HA5.out.call hb6)
    have HX6 := Lib.hid (HX5.out.call hb6)
    have R46 := Lib.hid (R45.out.below hb6)
    have HB6 := Lib.hid (HB5.out.trans (hb6.mono HB5.out.size))
    obtain ⟨q0, q1, q2, q3, q4, q5, q6⟩ := HA6.out.cells
    obtain ⟨x0, x1, x2, x3, x4, x5, x6⟩ := HX6.out.cells
    clear hb6 HA5 HX5 R45 HB5 HF5 HI5
    cases sb
    all_goals
      go_wp2_with fail
      go_region_held3 (fun w' => (w'.cell? ⟨w.heap.size, 0, none⟩ = some (.slice ia m ic) ∧ w'.cell? ⟨w.heap.size, 1, none⟩ = some (.slice fa fn fc) ∧ w'.cell? ⟨w.heap.size, 2, none⟩ = some (.int .i64 pl) ∧ w'.cell? ⟨w.heap.size, 3, none⟩ = some (.int .i64 pr) ∧ w'.cell? ⟨w.heap.size, 4, none⟩ = some (.int .i64 pa) ∧ w'.cell? ⟨w.heap.size, 5, none⟩ = some (.int .i64 pb) ∧ w'.cell? ⟨w.heap.size, 6, none⟩ = some (.int .i64 co)) ∧ w'.cell? ⟨w4.heap.size, 0, none⟩ = some (.slice ia4 I.length ic4) ∧ w'.cell? ⟨w4.heap.size, 1, none⟩ = some (.slice fa4 F.length fc4) ∧ w'.cell? ⟨w4.heap.size, 2, none⟩ = some (.int .i64 pl) ∧ w'.cell? ⟨w4.heap.size, 3, none⟩ = some (.int .i64 pr) ∧ w'.cell? ⟨w4.heap.size, 4, none⟩ = some (.int .i64 pa) ∧ w'.cell? ⟨w4.heap.size, 5, none⟩ = some (.int .i64 pb) ∧ w'.cell? ⟨w4.heap.size, 6, none⟩ = some (.int .i64 co)) (first | (refine ⟨⟨?_, ?_, ?_, ?_, ?_, ?_, ?_⟩, ?_, ?_, ?_, ?_, ?_, ?_, ?_⟩ <;> assumption) | go_keep) ((first | (go_at_call 12; refine (toQueue_own _ _ _ _ _ _ _ _ _ _ _ F I _ (HF.out.below HB6.out.drew) (HI.out.below HB6.out.drew) hfn hm).mono ?_; rintro e w7 ⟨v7, rfl, r7, hb7⟩; have HA7 := Lib.hid (HA6.out.callD hb7); have HX7 := Lib.hid (HX6.out.callD hb7); have R47 := Lib.hid (QueOwn.below (w := w6.drew) R46.out hb7); have R77 := Lib.hid r7; have HB7 := Lib.hid (HB6.out.drew.trans (hb7.mono HB6.out.size)); obtain ⟨ia7, ic7, fa7, fc7, rfl, -, -⟩ := r7.read; obtain ⟨y0, y1, y2, y3, y4, y5, y6⟩ := HA7.out.cells; obtain ⟨z0, z1, z2, z3, z4, z5, z6⟩ := HX7.out.cells; clear hb7 r7) | (go_at_call 7; refine (eqQueue_own _ R47.out R77.out).mono ?_; rintro e w8 ⟨rfl, hb8⟩; have HA8 := Lib.hid (HA7.out.call hb8); have HX8 := Lib.hid (HX7.out.call hb8); have HB8 := Lib.hid (HB7.out.trans (hb8.mono HB7.out.size)); obtain ⟨e0, e1, e2, e3, e4, e5, e6⟩ := HA8.out.cells; obtain ⟨d0, d1, d2, d3, d4, d5, d6⟩ := HX8.out.cells; clear hb8)))
      all_goals
        go_wp2_with fail
        go_returns
        exact ⟨rfl, HB8.out⟩
  · rw [if_neg hsz] at hSZ
    have HSZ := Lib.hid hSZ
    clear hSZ
    go_enter Try.func4, Try.ntmps4
    go_wp2_with fail
    refine (HSZ.out _).mono ?_
    rintro e w1 ⟨rfl, hb1⟩
    have HB1 := Lib.hid (HB0.out.trans (hb1.mono HB0.out.size))
    clear hb1
    go_wp2_with fail
    go_returns
    exact ⟨rfl, HB1.out⟩
end Go.Proofs.Ytflmkojpblpofaa
