/-
  The aggregate of a queue in the model.
-/
import Derived.Test.YtflmkojpblpofaaGreat4x
import Derived.IntWalk
namespace Go.Proofs.YtflmkojpblpofaaGreat
set_option linter.unusedSimpArgs false
set_option linter.unusedVariables false
open Go.RowKit
theorem set3_far4 {W : World} {d c o : Nat} {a b e : Value} (h : c ≠ d) : (((W.setCell ⟨d, 0, none⟩ a).setCell ⟨d, 1, none⟩ b).setCell ⟨d, 2, none⟩ e).cell? ⟨c, o, none⟩ = W.cell? ⟨c, o, none⟩ :=
  World.cell?_of_block (by rw [Below.heap_setCell _ _ _ _ (by simpa using h), Below.heap_setCell _ _ _ _ (by simpa using h), Below.heap_setCell _ _ _ _ (by simpa using h)])
set_option maxRecDepth 8000 in
set_option maxHeartbeats 400000 in
theorem s_at_any (k : Int) (hk : Agg.isKind k = true) (ia : Option Addr) (m ic : Nat) (fa : Option Addr) (fn fc : Nat) (pl pr pa pb co : Int) (F : List Agg.V) (at_ lo hi : Int) (w : World) (hF : Vals w fa fn fc F) (hn : lo ≠ hi → 0 ≤ at_ ∧ at_ < fn) :
    Calls Tryz.prog 110 #[.int .i64 k, .agg #[.slice ia m ic, .slice fa fn fc, .int .i64 pl, .int .i64 pr, .int .i64 pa, .int .i64 pb, .int .i64 co], .int .i64 at_, .int .i64 lo, .int .i64 hi] w fun e w' => e = .returned (.agg #[.int .i64 (Agg.qAt k F at_ lo hi).x, .int .i64 (Agg.qAt k F at_ lo hi).y, .int .i64 (Agg.qAt k F at_ lo hi).z]) ∧ Below w.heap.size w w' := by
  have HR := Lib.hid (show Box ((w.alloc (.cells #[.slice ia m ic, .slice fa fn fc, .int .i64 pl, .int .i64 pr, .int .i64 pa, .int .i64 pb, .int .i64 co] 58)).alloc (.cells #[.int .i64 0, .int .i64 0, .int .i64 0] 32)) (w.heap.size + 1) 32 0 0 0 from Box.new1 _ 0 0 0 (by simp))
  have HW := Lib.hid (show Below w.heap.size w ((w.alloc (.cells #[.slice ia m ic, .slice fa fn fc, .int .i64 pl, .int .i64 pr, .int .i64 pa, .int .i64 pb, .int .i64 co] 58)).alloc (.cells #[.int .i64 0, .int .i64 0, .int .i64 0] 32)) from ((Below.refl _ _).alloc (Nat.le_refl _) _).alloc (by simp) _)
  by_cases h : lo = hi
  · subst h
    have e : Agg.qAt k F at_ lo lo = Agg.unit k := by simp [Agg.qAt]
    rw [e]
    have HU := Lib.hid (fun w => s_unit_any k hk w)
    clear e hF hn
    go_enter Tryz.func110, Tryz.ntmps110
    go_wp2_with fail
    refine (HU.out _).mono ?_
    rintro e w1 ⟨rfl, hb1⟩
    have HR1 := Lib.hid (HR.out.call hb1)
    have HW1 := Lib.hid (HW.out.trans (hb1.mono HW.out.size))
    obtain ⟨t0, t1, t2⟩ := HR1.out.cells
    have g0 := HR1.out.free 0
    have g1 := HR1.out.free 1
    have g2 := HR1.out.free 2
    clear hb1
    go_wp2_with fail
    refine bodyPost_ret (by simp [results, Tryz.results110, go_sem, *]; try rfl) rfl ?_
    exact ⟨rfl, ((HW1.out.setCell (by simp) _).setCell (by simp) _).setCell (by simp) _⟩
  · obtain ⟨ha0, ha1⟩ := hn h
    obtain ⟨j, rfl⟩ := Int.eq_ofNat_of_zero_le ha0
    have hj : j < fn := by omega
    rcases hF.2.2.2 with h4 | ⟨fb, foff, rfl, hfb, hfcs⟩
    · omega
    · have e : Agg.qAt k F (j : Int) lo hi = F[j]?.getD Agg.zero := by simp [Agg.qAt, h]
      rw [e]
      obtain ⟨c0, c1, c2⟩ := hfcs j hj
      obtain ⟨⟨x, y, z⟩, hx⟩ : ∃ x, x = F[j]?.getD Agg.zero := ⟨_, rfl⟩
      rw [← hx] at c0 c1 c2 ⊢
      have hne0 := World.new_ne w _ c0
      clear e hfcs hF hx hn
      go_enter Tryz.func110, Tryz.ntmps110
      go_wp2_with fail
      (try (go_quiet (fail); go_wp2_with fail))
      refine bodyPost_ret (by simp [results, Tryz.results110, go_sem, *]; try rfl) rfl ?_
      exact ⟨rfl, (by first | (go_grown; done) | (refine below_drewN ?_ _; go_grown; done) | (refine (below_drewN _ ?_); go_grown; done))⟩
set_option maxRecDepth 8000 in
set_option maxHeartbeats 400000 in
theorem s_l4Value_any (k : Int) (ia : Option Addr) (m ic : Nat) (fa : Option Addr) (fn fc : Nat) (pl pr pa pb co : Int) (F : List Agg.V) (I : List Int) (w : World) (hF : Vals w fa fn fc F) (hI : Nums .i64 w ia m ic I) (hq : Agg.qOk k ⟨I, F, pl, pr, pa, pb, co⟩ = true) :
    Calls Tryz.prog 78 #[.int .i64 k, .agg #[.slice ia m ic, .slice fa fn fc, .int .i64 pl, .int .i64 pr, .int .i64 pa, .int .i64 pb, .int .i64 co]] w fun e w' => e = .returned (.agg #[.int .i64 (Agg.valQ k ⟨I, F, pl, pr, pa, pb, co⟩).x, .int .i64 (Agg.valQ k ⟨I, F, pl, pr, pa, pb, co⟩).y, .int .i64 (Agg.valQ k ⟨I, F, pl, pr, pa, pb, co⟩).z]) ∧ Below w.heap.size w w' := by
  obtain ⟨hk, p2, p3, p4, p5, p6⟩ := Agg.qOk_parts hq
  have hFl := hF.1
  have hIl := hI.1
  simp only at p2 p3 p4
  have hfm : m = fn := by omega
  have hm60 : m ≤ 60 := by have := Agg.items_len p2; omega
  have hpz : ((0 : Int) ≠ pb → (0 : Int) ≤ 0 ∧ (0 : Int) < fn) ∧ (pb ≠ (m : Int) → 0 ≤ (m : Int) - 1 ∧ (m : Int) - 1 < fn) := by
    by_cases h0 : fn = 0
    · unfold Agg.placesOk at p4
      rw [if_pos (by omega)] at p4
      simp only [decide_eq_true_eq] at p4
      omega
    · omega
  have hfo := Agg.front_ok hq
  have hbo := Agg.back_ok hq
  have hFR := fun w hF => s_at_any k hk ia m ic fa fn fc pl pr pa pb co F 0 0 pb w hF hpz.1
  have hBA := fun w hF => s_at_any k hk ia m ic fa fn fc pl pr pa pb co F ((m : Int) - 1) pb (m : Int) w hF hpz.2
  have e : Agg.valQ k ⟨I, F, pl, pr, pa, pb, co⟩ = Agg.comb k (Agg.frontQ k ⟨I, F, pl, pr, pa, pb, co⟩) (Agg.backQ k ⟨I, F, pl, pr, pa, pb, co⟩) := rfl
  rw [e]
  have e2 : Agg.backQ k ⟨I, F, pl, pr, pa, pb, co⟩ = Agg.qAt k F ((m : Int) - 1) pb (m : Int) := by simp only [Agg.backQ, hIl]
  have e1 : Agg.frontQ k ⟨I, F, pl, pr, pa, pb, co⟩ = Agg.qAt k F 0 0 pb := rfl
  rw [e1] at hfo ⊢
  rw [e2] at hbo ⊢
  obtain ⟨⟨ux, uy, uz⟩, hu⟩ : ∃ u, u = Agg.qAt k F 0 0 pb := ⟨_, rfl⟩
  obtain ⟨⟨vx, vy, vz⟩, hv⟩ : ∃ u, u = Agg.qAt k F ((m : Int) - 1) pb (m : Int) := ⟨_, rfl⟩
  rw [← hu] at hfo hFR ⊢
  rw [← hv] at hbo hBA ⊢
  have hCO := fun w => s_combine_any k hk ux uy uz vx vy vz w hfo hbo
  obtain ⟨⟨rx, ry, rz⟩, hr⟩ : ∃ u, u = Agg.comb k ⟨ux, uy, uz⟩ ⟨vx, vy, vz⟩ := ⟨_, rfl⟩
  rw [← hr] at hCO ⊢
  have HFR := Lib.hid hFR
  have HBA := Lib.hid hBA
  have HCO := Lib.hid hCO
  have HF := Lib.hid hF
  clear hFR hBA hCO hu hv hr hfo hbo e e1 e2 hF hI hFl hIl p2 p3 p4 p5 p6 hpz hq hfm
  have hwr : IntKind.i64.wrap ((m : Int) - 1) = (m : Int) - 1 := IntWalk.i64_in _ (by omega)
  obtain ⟨W, hW⟩ : ∃ W, W = ((w.alloc (.cells #[.slice ia m ic, .slice fa fn fc, .int .i64 pl, .int .i64 pr, .int .i64 pa, .int .i64 pb, .int .i64 co] 58)).alloc (.cells #[.int .i64 0, .int .i64 0, .int .i64 0] 32)) := ⟨_, rfl⟩
  have HX := Lib.hid (show Box7 W w.heap.size 58 (.slice ia m ic) (.slice fa fn fc) (.int .i64 pl) (.int .i64 pr) (.int .i64 pa) (.int .i64 pb) (.int .i64 co) from by rw [hW]; exact (Box7.new w _ _ _ _ _ _ _ _).alloc _)
  have HR := Lib.hid (show Box W (w.heap.size + 1) 32 0 0 0 from by rw [hW]; exact Box.new1 _ 0 0 0 (by simp))
  have HW := Lib.hid (show Below w.heap.size w W from by rw [hW]; exact ((Below.refl _ _).alloc (Nat.le_refl _) _).alloc (by simp) _)
  have HF1 := Lib.hid (HF.out.below HW.out)
  obtain ⟨q0, q1, q2, q3, q4, q5, q6⟩ := HX.out.cells
  go_enter Tryz.func78, Tryz.ntmps78
  go_wp2_with fail
  rw [← hW]
  clear hW
  go_region_held3 (fun w' => w'.cell? ⟨w.heap.size, 0, none⟩ = some (.slice ia m ic) ∧ w'.cell? ⟨w.heap.size, 1, none⟩ = some (.slice fa fn fc) ∧ w'.cell? ⟨w.heap.size, 2, none⟩ = some (.int .i64 pl) ∧ w'.cell? ⟨w.heap.size, 3, none⟩ = some (.int .i64 pr) ∧ w'.cell? ⟨w.heap.size, 4, none⟩ = some (.int .i64 pa) ∧ w'.cell? ⟨w.heap.size, 5, none⟩ = some (.int .i64 pb) ∧ w'.cell? ⟨w.heap.size, 6, none⟩ = some (.int .i64 co)) (first | (refine ⟨?_, ?_, ?_, ?_, ?_, ?_, ?_⟩ <;> (rw [set3_far4 (by omega)]; assumption)) | (refine ⟨?_, ?_, ?_, ?_, ?_, ?_, ?_⟩ <;> assumption) | go_keep)
    (first | (go_at_call 110; refine (HFR.out _ (show Vals W.drew _ _ _ _ from HF1.out)).mono ?_; clear HFR; rintro e w2 ⟨rfl, hb2⟩; have HX2 := Lib.hid (HX.out.callD hb2); have HR2 := Lib.hid (HR.out.callD hb2); have HF2 := Lib.hid (Vals.below (w := W.drew) HF1.out hb2); have HW2 := Lib.hid (v_below_callD HW.out hb2); obtain ⟨r0, r1, r2, r3, r4, r5, r6⟩ := HX2.out.cells; clear hb2) | (go_at_call 110; refine (HBA.out _ HF2.out).mono ?_; clear HBA; rintro e w3 ⟨rfl, hb3⟩; have HX3 := Lib.hid (HX2.out.call hb3); have HR3 := Lib.hid (HR2.out.call hb3); have HW3 := Lib.hid (HW2.out.trans (hb3.mono HW2.out.size)); obtain ⟨o0, o1, o2, o3, o4, o5, o6⟩ := HX3.out.cells; clear hb3) | (go_at_call 94; refine (HCO.out _).mono ?_; rintro e w4 ⟨rfl, hb4⟩; have HX4 := Lib.hid (HX3.out.call hb4); have HR4 := Lib.hid (HR3.out.call hb4); have HW4 := Lib.hid (HW3.out.trans (hb4.mono HW3.out.size)); obtain ⟨p0, p1, p2, p3, p4, p5, p6⟩ := HX4.out.cells; obtain ⟨t0, t1, t2⟩ := HR4.out.cells; have g0 := HR4.out.free 0; have g1 := HR4.out.free 1; have g2 := HR4.out.free 2; clear hb4))
  all_goals
    go_wp2_with fail
    refine bodyPost_ret (by simp [results, Tryz.results78, go_sem, *]; try rfl) rfl ?_
    exact ⟨rfl, ((HW4.out.setCell (by simp) _).setCell (by simp) _).setCell (by simp) _⟩
set_option maxRecDepth 8000 in
set_option maxHeartbeats 400000 in
theorem s_queueValue_any (k : Int) (ia : Option Addr) (m ic : Nat) (fa : Option Addr) (fn fc : Nat) (pl pr pa pb co : Int) (F : List Agg.V) (I : List Int) (w : World) (hF : Vals w fa fn fc F) (hI : Nums .i64 w ia m ic I) (h1 : fn ≤ 4611686018427387) (h2 : m ≤ 4611686018427387) :
    Calls Tryz.prog 34 #[.int .i64 k, .agg #[.slice ia m ic, .slice fa fn fc, .int .i64 pl, .int .i64 pr, .int .i64 pa, .int .i64 pb, .int .i64 co]] w fun e w' => e = .returned (.tuple #[.agg #[.int .i64 (Agg.aValQ k ⟨I, F, pl, pr, pa, pb, co⟩).1.x, .int .i64 (Agg.aValQ k ⟨I, F, pl, pr, pa, pb, co⟩).1.y, .int .i64 (Agg.aValQ k ⟨I, F, pl, pr, pa, pb, co⟩).1.z], .bool (Agg.aValQ k ⟨I, F, pl, pr, pa, pb, co⟩).2]) ∧ Below w.heap.size w w' := by
  obtain ⟨W, hW⟩ : ∃ W, W = ((w.alloc (.cells #[.slice ia m ic, .slice fa fn fc, .int .i64 pl, .int .i64 pr, .int .i64 pa, .int .i64 pb, .int .i64 co] 58)).alloc (.cells #[.int .i64 0, .int .i64 0, .int .i64 0] 32)) := ⟨_, rfl⟩
  have HX := Lib.hid (show Box7 W w.heap.size 58 (.slice ia m ic) (.slice fa fn fc) (.int .i64 pl) (.int .i64 pr) (.int .i64 pa) (.int .i64 pb) (.int .i64 co) from by rw [hW]; exact (Box7.new w _ _ _ _ _ _ _ _).alloc _)
  have HR := Lib.hid (show Box W (w.heap.size + 1) 32 0 0 0 from by rw [hW]; exact Box.new1 _ 0 0 0 (by simp))
  have HW := Lib.hid (show Below w.heap.size w W from by rw [hW]; exact ((Below.refl _ _).alloc (Nat.le_refl _) _).alloc (by simp) _)
  have hV := fun w hF hI => s_queueValid_any k ia m ic fa fn fc pl pr pa pb co F I w hF hI h1 h2
  have HF := Lib.hid (hF.below HW.out)
  have HI := Lib.hid (hI.below HW.out)
  cases hq : Agg.qOk k ⟨I, F, pl, pr, pa, pb, co⟩
  · have e : Agg.aValQ k ⟨I, F, pl, pr, pa, pb, co⟩ = (Agg.zero, false) := by simp [Agg.aValQ, Agg.give, hq]
    rw [e]
    rw [hq] at hV
    have HV := Lib.hid hV
    clear e hF hI hV
    go_enter Tryz.func34, Tryz.ntmps34
    go_wp2_with fail
    rw [← hW]
    clear hW
    refine (HV.out _ HF.out HI.out).mono ?_
    rintro e w1 ⟨rfl, hb1⟩
    have HR1 := Lib.hid (HR.out.call hb1)
    have HW1 := Lib.hid (HW.out.trans (hb1.mono HW.out.size))
    obtain ⟨t0, t1, t2⟩ := HR1.out.cells
    have g0 := HR1.out.free 0
    have g1 := HR1.out.free 1
    have g2 := HR1.out.free 2
    clear hb1
    go_wp2_with fail
    refine bodyPost_ret (by simp [results, Tryz.results34, go_sem, *]; try rfl) rfl ?_
    exact ⟨rfl, ((HW1.out.setCell (by simp) _).setCell (by simp) _).setCell (by simp) _⟩
  · have e : Agg.aValQ k ⟨I, F, pl, pr, pa, pb, co⟩ = (Agg.valQ k ⟨I, F, pl, pr, pa, pb, co⟩, true) := by simp [Agg.aValQ, Agg.give, hq]
    rw [e]
    have hVV := fun w hF hI => s_l4Value_any k ia m ic fa fn fc pl pr pa pb co F I w hF hI hq
    obtain ⟨⟨rx, ry, rz⟩, hr⟩ : ∃ u, u = Agg.valQ k ⟨I, F, pl, pr, pa, pb, co⟩ := ⟨_, rfl⟩
    rw [← hr] at hVV ⊢
    rw [hq] at hV
    have HV := Lib.hid hV
    have HVV := Lib.hid hVV
    clear e hF hI hV hVV hr
    go_enter Tryz.func34, Tryz.ntmps34
    go_wp2_with fail
    rw [← hW]
    clear hW
    refine (HV.out _ HF.out HI.out).mono ?_
    rintro e w1 ⟨rfl, hb1⟩
    have HX1 := Lib.hid (HX.out.call hb1)
    have HR1 := Lib.hid (HR.out.call hb1)
    have HF1 := Lib.hid (HF.out.below hb1)
    have HI1 := Lib.hid (HI.out.below hb1)
    have HW1 := Lib.hid (HW.out.trans (hb1.mono HW.out.size))
    obtain ⟨q0, q1, q2, q3, q4, q5, q6⟩ := HX1.out.cells
    clear hb1
    go_wp2_with fail
    refine (HVV.out _ HF1.out HI1.out).mono ?_
    rintro e w2 ⟨rfl, hb2⟩
    have HR2 := Lib.hid (HR1.out.call hb2)
    have HW2 := Lib.hid (HW1.out.trans (hb2.mono HW1.out.size))
    obtain ⟨t0, t1, t2⟩ := HR2.out.cells
    have g0 := HR2.out.free 0
    have g1 := HR2.out.free 1
    have g2 := HR2.out.free 2
    clear hb2 q0 q1 q2 q3 q4 q5 q6
    go_wp2_with fail
    refine bodyPost_ret (by simp [results, Tryz.results34, go_sem, *]; try rfl) rfl ?_
    exact ⟨rfl, ((HW2.out.setCell (by simp) _).setCell (by simp) _).setCell (by simp) _⟩
end Go.Proofs.YtflmkojpblpofaaGreat
