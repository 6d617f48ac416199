/-
  The aggregate of a queue, in the program.
-/
import Derived.Test.Ythkokeeciicdnaa4v
import Derived.Test.Ythkokeeciicdnaa4f
import Derived.Test.YthkokeeciicdnaaKi
namespace Go.Proofs.Ythkokeeciicdnaa
set_option linter.unusedSimpArgs false
set_option linter.unusedVariables false
open Go.RowKit
theorem set3_farg {W : World} {d c o : Nat} {a b e : Value} (h : c ≠ d) : (((W.setCell ⟨d, 0, none⟩ a).setCell ⟨d, 1, none⟩ b).setCell ⟨d, 2, none⟩ e).cell? ⟨c, o, none⟩ = W.cell? ⟨c, o, none⟩ :=
  World.cell?_of_block (by rw [Below.heap_setCell _ _ _ _ (by simpa using h), Below.heap_setCell _ _ _ _ (by simpa using h), Below.heap_setCell _ _ _ _ (by simpa using h)])
set_option maxRecDepth 8000 in
set_option maxHeartbeats 4000000 in
theorem queueValue_any (k : Int) (ia : Option Addr) (m ic : Nat) (fa : Option Addr) (fn fc : Nat) (pl pr pa pb co : Int) (F : List Agg.V) (I : List Int) (w : World) (hF : Vals w fa fn fc F) (hI : Nums .i64 w ia m ic I) (h1 : fn ≤ 4611686018427387) (h2 : m ≤ 4611686018427387) :
    Calls Try.prog 10 #[.int .i64 k, .agg #[.slice ia m ic, .slice fa fn fc, .int .i64 pl, .int .i64 pr, .int .i64 pa, .int .i64 pb, .int .i64 co]] w fun e w' => e = .returned (.tuple #[.agg #[.int .i64 (Agg.aValQ k ⟨I, F, pl, pr, pa, pb, co⟩).1.x, .int .i64 (Agg.aValQ k ⟨I, F, pl, pr, pa, pb, co⟩).1.y, .int .i64 (Agg.aValQ k ⟨I, F, pl, pr, pa, pb, co⟩).1.z], .bool (Agg.aValQ k ⟨I, F, pl, pr, pa, pb, co⟩).2]) ∧ Below w.heap.size w w' := by
  obtain ⟨W, hW⟩ : ∃ W, W = ((w.alloc (.cells #[.slice ia m ic, .slice fa fn fc, .int .i64 pl, .int .i64 pr, .int .i64 pa, .int .i64 pb, .int .i64 co] 27)).alloc (.cells #[.int .i64 0, .int .i64 0, .int .i64 0] 32)) := ⟨_, rfl⟩
  have HX := Lib.hid (show Box7 W w.heap.size 27 (.slice ia m ic) (.slice fa fn fc) (.int .i64 pl) (.int .i64 pr) (.int .i64 pa) (.int .i64 pb) (.int .i64 co) from by rw [hW]; exact (Box7.new w _ _ _ _ _ _ _ _).alloc _)
  have HR := Lib.hid (show Box W (w.heap.size + 1) 32 0 0 0 from by rw [hW]; exact Box.new1 _ 0 0 0 (by simp))
  have HW := Lib.hid (show Below w.heap.size w W from by rw [hW]; exact ((Below.refl _ _).alloc (Nat.le_refl _) _).alloc (by simp) _)
  cases hk : Agg.isKind k
  · have e : Agg.aValQ k ⟨I, F, pl, pr, pa, pb, co⟩ = (Agg.zero, false) := by simp [Agg.aValQ, Agg.give, Agg.qOk_kind hk]
    rw [e]
    have hk2 := Lib.hid (show ¬ (1 ≤ k ∧ k ≤ 10) by simpa [Agg.isKind] using hk)
    obtain ⟨t0, t1, t2⟩ := HR.out.cells
    have g0 := HR.out.free 0
    have g1 := HR.out.free 1
    have g2 := HR.out.free 2
    clear e hF hI
    go_enter Try.func10, Try.ntmps10
    go_wp2_with fail
    rw [← hW]
    clear hW
    refine (kindOf_not _ _ hk2.out).mono ?_
    rintro e w1 ⟨rfl, rfl⟩
    go_wp2_with fail
    refine bodyPost_ret (by simp [results, Try.results10, go_sem, *]; try rfl) rfl ?_
    exact ⟨rfl, ((HW.out.setCell (by simp) _).setCell (by simp) _).setCell (by simp) _⟩
  · obtain ⟨T, fu, fl, fx, K⟩ := kind_at hk
    have HKO := Lib.hid K.of
    have hV := fun w hF hI => queueValid_any k ia m ic fa fn fc pl pr pa pb co F I w hF hI h1 h2
    have HF := Lib.hid (hF.below HW.out)
    have HI := Lib.hid (hI.below HW.out)
    cases hq : Agg.qOk k ⟨I, F, pl, pr, pa, pb, co⟩
    · have e : Agg.aValQ k ⟨I, F, pl, pr, pa, pb, co⟩ = (Agg.zero, false) := by simp [Agg.aValQ, Agg.give, hq]
      rw [e]
      rw [hq] at hV
      have HV := Lib.hid hV
      clear e hF hI hV
      go_enter Try.func10, Try.ntmps10
      go_wp2_with fail
      rw [← hW]
      clear hW
      refine (HKO.out _).mono ?_
      rintro e w1 ⟨rfl, rfl⟩
      obtain ⟨q0, q1, q2, q3, q4, q5, q6⟩ := HX.out.cells
      go_wp2_with fail
      refine (HV.out _ HF.out HI.out).mono ?_
      rintro e w1 ⟨rfl, hb1⟩
      have HR1 := Lib.hid (HR.out.call hb1)
      have HW1 := Lib.hid (HW.out.trans (hb1.mono HW.out.size))
      obtain ⟨t0, t1, t2⟩ := HR1.out.cells
      have g0 := HR1.out.free 0
      have g1 := HR1.out.free 1
      have g2 := HR1.out.free 2
      clear hb1
      go_wp2_with fail
      refine bodyPost_ret (by simp [results, Try.results10, go_sem, *]; try rfl) rfl ?_
      exact ⟨rfl, ((HW1.out.setCell (by simp) _).setCell (by simp) _).setCell (by simp) _⟩
    · obtain ⟨p1, p2, p3, p4, p5, p6⟩ := Agg.qOk_parts hq
      have hFl := hF.1
      have hIl := hI.1
      simp only at p2 p3 p4
      have hfm : fn = m := by omega
      have hpz : (pb = 0 ∨ 0 < fn) ∧ (pb = (m : Int) ∨ 0 < fn) := by
        by_cases h0 : fn = 0
        · unfold Agg.placesOk at p4
          rw [if_pos (by omega)] at p4
          simp only [decide_eq_true_eq] at p4
          omega
        · exact ⟨.inr (by omega), .inr (by omega)⟩
      have hfo := Agg.front_ok hq
      have hbo := Agg.back_ok hq
      subst hfm
      have hFR := fun w hF => frontOf_any K ia fn ic fa fn fc pl pr pa pb co F I w hF hpz.1
      have hBA := fun w hF => backOf_any K ia ic fa fn fc pl pr pa pb co F I w hF (by omega) (by rcases hpz.2 with h | h; exact .inl (by omega); exact .inr h)
      have e : Agg.aValQ k ⟨I, F, pl, pr, pa, pb, co⟩ = (Agg.comb k (Agg.frontQ k ⟨I, F, pl, pr, pa, pb, co⟩) (Agg.backQ k ⟨I, F, pl, pr, pa, pb, co⟩), true) := by simp [Agg.aValQ, Agg.give, hq, Agg.valQ]
      rw [e]
      obtain ⟨⟨ux, uy, uz⟩, hu⟩ : ∃ u, u = Agg.frontQ k ⟨I, F, pl, pr, pa, pb, co⟩ := ⟨_, rfl⟩
      obtain ⟨⟨vx, vy, vz⟩, hv⟩ : ∃ u, u = Agg.backQ k ⟨I, F, pl, pr, pa, pb, co⟩ := ⟨_, rfl⟩
      rw [← hu] at hfo hFR ⊢
      rw [← hv] at hbo hBA ⊢
      have hCO := fun w => K.comb ux uy uz vx vy vz w hfo hbo
      obtain ⟨⟨rx, ry, rz⟩, hr⟩ : ∃ u, u = Agg.comb k ⟨ux, uy, uz⟩ ⟨vx, vy, vz⟩ := ⟨_, rfl⟩
      rw [← hr] at hCO ⊢
      have HFR := Lib.hid hFR
      have HBA := Lib.hid hBA
      have HCO := Lib.hid hCO
      rw [hq] at hV
      have HV := Lib.hid hV
      have hmc := K.mc
      have hcc := K.cc
      have hac := K.ac
      clear hFR hBA hCO hu hv hr hfo hbo e hV hF hI hFl hIl p1 p2 p3 p4 p5 p6 hpz hq
      go_enter Try.func10, Try.ntmps10
      go_wp2_with fail
      rw [← hW]
      clear hW
      refine (HKO.out _).mono ?_
      rintro e w1 ⟨rfl, rfl⟩
      obtain ⟨q0, q1, q2, q3, q4, q5, q6⟩ := HX.out.cells
      go_wp2_with fail
      refine (HV.out _ HF.out HI.out).mono ?_
      rintro e w1 ⟨rfl, hb1⟩
      have HX1 := Lib.hid (HX.out.call hb1)
      have HR1 := Lib.hid (HR.out.call hb1)
      have HF1 := Lib.hid (HF.out.below hb1)
      have HW1 := Lib.hid (HW.out.trans (hb1.mono HW.out.size))
      clear hb1 q0 q1 q2 q3 q4 q5 q6 HX HR HF HW HI
      obtain ⟨q0, q1, q2, q3, q4, q5, q6⟩ := HX1.out.cells
      go_wp2_with fail
      go_region_held3 (fun w' => w'.cell? ⟨w.heap.size, 0, none⟩ = some (.slice ia fn ic) ∧ w'.cell? ⟨w.heap.size, 1, none⟩ = some (.slice fa fn fc) ∧ w'.cell? ⟨w.heap.size, 2, none⟩ = some (.int .i64 pl) ∧ w'.cell? ⟨w.heap.size, 3, none⟩ = some (.int .i64 pr) ∧ w'.cell? ⟨w.heap.size, 4, none⟩ = some (.int .i64 pa) ∧ w'.cell? ⟨w.heap.size, 5, none⟩ = some (.int .i64 pb) ∧ w'.cell? ⟨w.heap.size, 6, none⟩ = some (.int .i64 co)) (first | (refine ⟨?_, ?_, ?_, ?_, ?_, ?_, ?_⟩ <;> (rw [set3_farg (by omega)]; assumption)) | (refine ⟨?_, ?_, ?_, ?_, ?_, ?_, ?_⟩ <;> assumption) | go_keep)
        (first | (go_at_call 28; trace "arm1"; refine (HFR.out _ (show Vals w1.drew _ _ _ _ from HF1.out)).mono ?_; rintro e w2 ⟨rfl, hb2⟩; have HX2 := Lib.hid (HX1.out.callD hb2); have HR2 := Lib.hid (HR1.out.callD hb2); have HF2 := Lib.hid (Vals.below (w := w1.drew) HF1.out hb2); have HW2 := Lib.hid (v_below_callD HW1.out hb2); obtain ⟨r0, r1, r2, r3, r4, r5, r6⟩ := HX2.out.cells; clear hb2) | (go_at_call 29; trace "arm2"; refine (HBA.out _ HF2.out).mono ?_; rintro e w3 ⟨rfl, hb3⟩; have HX3 := Lib.hid (HX2.out.call hb3); have HR3 := Lib.hid (HR2.out.call hb3); have HW3 := Lib.hid (HW2.out.trans (hb3.mono HW2.out.size)); obtain ⟨o0, o1, o2, o3, o4, o5, o6⟩ := HX3.out.cells; clear hb3) | (refine (HCO.out _).mono ?_; trace "arm3"; rintro e w4 ⟨rfl, hb4⟩; have HX4 := Lib.hid (HX3.out.call hb4); have HR4 := Lib.hid (HR3.out.call hb4); have HW4 := Lib.hid (HW3.out.trans (hb4.mono HW3.out.size)); obtain ⟨p0, p1, p2, p3, p4, p5, p6⟩ := HX4.out.cells; obtain ⟨t0, t1, t2⟩ := HR4.out.cells; have g0 := HR4.out.free 0; have g1 := HR4.out.free 1; have g2 := HR4.out.free 2; clear hb4))
      all_goals
        go_wp2_with fail
        refine bodyPost_ret (by simp [results, Try.results10, go_sem, *]; try rfl) rfl ?_
        exact ⟨rfl, ((HW4.out.setCell (by simp) _).setCell (by simp) _).setCell (by simp) _⟩
end Go.Proofs.Ythkokeeciicdnaa
