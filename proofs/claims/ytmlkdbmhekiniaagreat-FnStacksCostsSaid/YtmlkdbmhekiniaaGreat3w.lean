/-
  The aggregate of two stacks in the model; copies of stacks.
-/
import Derived.Test.YtmlkdbmhekiniaaGreat3v
import Derived.IntWalk
namespace Go.Proofs.YtmlkdbmhekiniaaGreat
set_option linter.unusedSimpArgs false
set_option linter.unusedVariables false
open Go.RowKit
theorem set3_far {W : World} {d c o : Nat} {a b e : Value} (h : c ≠ d) : (((W.setCell ⟨d, 0, none⟩ a).setCell ⟨d, 1, none⟩ b).setCell ⟨d, 2, none⟩ e).cell? ⟨c, o, none⟩ = W.cell? ⟨c, o, none⟩ :=
  World.cell?_of_block (by rw [Below.heap_setCell _ _ _ _ (by simpa using h), Below.heap_setCell _ _ _ _ (by simpa using h), Below.heap_setCell _ _ _ _ (by simpa using h)])
set_option maxRecDepth 8000 in
set_option maxHeartbeats 4000000 in
theorem s_l3Value_any (k : Int) (fa : Option Addr) (fn fc : Nat) (ia : Option Addr) (m ic : Nat) (bx by' bz fl co : Int) (F : List Agg.V) (I : List Int) (w : World) (hF : Vals w fa fn fc F) (hs : Agg.sOk k ⟨F, I, ⟨bx, by', bz⟩, fl, co⟩ = true) :
    Calls Tryz.prog 86 #[.int .i64 k, .agg #[.slice fa fn fc, .slice ia m ic, .int .i64 bx, .int .i64 by', .int .i64 bz, .int .i64 fl, .int .i64 co]] w fun e w' => e = .returned (.agg #[.int .i64 (Agg.valS k ⟨F, I, ⟨bx, by', bz⟩, fl, co⟩).x, .int .i64 (Agg.valS k ⟨F, I, ⟨bx, by', bz⟩, fl, co⟩).y, .int .i64 (Agg.valS k ⟨F, I, ⟨bx, by', bz⟩, fl, co⟩).z]) ∧ Below w.heap.size w w' := by
  have hFl : F.length = fn := hF.1
  have hfc := hF.2.1
  have hfm := hF.2.2.1
  unfold maxLen at hfm
  obtain ⟨hk, -, hok, -, -, hbo, -, -⟩ := Agg.sOk_parts hs
  simp only at hok hbo
  clear hs
  by_cases hn0 : fn = 0
  · subst hn0
    have e : Agg.valS k ⟨F, I, ⟨bx, by', bz⟩, fl, co⟩ = ⟨bx, by', bz⟩ := by simp [Agg.valS, hFl]
    rw [e]
    clear e hok hbo hk hFl hF
    go_enter Tryz.func86, Tryz.ntmps86
    go_wp2_with fail
    refine bodyPost_ret (by simp [results, Tryz.results86, go_sem, *]; try rfl) rfl ?_
    exact ⟨rfl, (by first | (go_grown; done) | (refine below_drewN ?_ _; go_grown; done) | (refine (below_drewN _ ?_); go_grown; done))⟩
  · rcases hF.2.2.2 with h4 | ⟨fb, foff, rfl, hfb, hfcs⟩
    · omega
    · have hp := hfcs (fn - 1) (by omega)
      have ho := hok (fn - 1) (by omega)
      obtain ⟨⟨x, y, z⟩, hx⟩ : ∃ x, x = F[fn - 1]?.getD Agg.zero := ⟨_, rfl⟩
      rw [← hx] at hp ho
      obtain ⟨R, hR⟩ : ∃ R, R = Agg.valS k ⟨F, I, ⟨bx, by', bz⟩, fl, co⟩ := ⟨_, rfl⟩
      rw [← hR]
      have hRc : Agg.comb k ⟨x, y, z⟩ ⟨bx, by', bz⟩ = R := by rw [hR, Agg.valS]; simp only [hFl, hn0, if_false, ← hx]
      have hCO := fun w => s_combine_any k hk x y z bx by' bz w ho hbo
      rw [hRc] at hCO
      obtain ⟨rx, ry, rz⟩ := R
      have HCO := Lib.hid hCO
      obtain ⟨hp0, hp1, hp2⟩ := hp
      clear hCO hRc hR hx ho hok hbo hfcs hF hFl
      have hn1 : ¬ ((fn : Int) = 0) := by omega
      have hn2 : (0 : Int) < (fn : Int) := by omega
      have hn3 : (1 : Int) ≤ (fn : Int) := by omega
      have hnt : ((fn : Int) - 1).toNat = fn - 1 := by omega
      have hn4 : fn - 1 < fn := by omega
      have hn5 : (fn : Int) - 1 < (fn : Int) := by omega
      have hn6 : (0 : Int) ≤ (fn : Int) - 1 := by omega
      have hwr : IntKind.i64.wrap ((fn : Int) - 1) = (fn : Int) - 1 := IntWalk.i64_in _ (by omega)
      have hne0 := World.new_ne w _ hp0
      have hne1 := World.new_ne w _ hp1
      have hne2 := World.new_ne w _ hp2
      have HX := Lib.hid (show Box7 ((w.alloc (.cells #[.slice (some ⟨fb, foff, none⟩) fn fc, .slice ia m ic, .int .i64 bx, .int .i64 by', .int .i64 bz, .int .i64 fl, .int .i64 co] 59)).alloc (.cells #[.int .i64 0, .int .i64 0, .int .i64 0] 25)) w.heap.size 59 (.slice (some ⟨fb, foff, none⟩) fn fc) (.slice ia m ic) (.int .i64 bx) (.int .i64 by') (.int .i64 bz) (.int .i64 fl) (.int .i64 co) from (Box7.new w _ _ _ _ _ _ _ _).alloc _)
      have HRB := Lib.hid (show Box ((w.alloc (.cells #[.slice (some ⟨fb, foff, none⟩) fn fc, .slice ia m ic, .int .i64 bx, .int .i64 by', .int .i64 bz, .int .i64 fl, .int .i64 co] 59)).alloc (.cells #[.int .i64 0, .int .i64 0, .int .i64 0] 25)) (w.heap.size + 1) 25 0 0 0 from Box.new1 _ 0 0 0 (by simp))
      have HW := Lib.hid (show Below w.heap.size w ((w.alloc (.cells #[.slice (some ⟨fb, foff, none⟩) fn fc, .slice ia m ic, .int .i64 bx, .int .i64 by', .int .i64 bz, .int .i64 fl, .int .i64 co] 59)).alloc (.cells #[.int .i64 0, .int .i64 0, .int .i64 0] 25)) from ((Below.refl _ _).alloc (Nat.le_refl _) _).alloc (by simp) _)
      go_enter Tryz.func86, Tryz.ntmps86
      go_wp2_with fail
      go_region_held3 (fun w' => w'.cell? ⟨w.heap.size, 0, none⟩ = some (.slice (some ⟨fb, foff, none⟩) fn fc) ∧ w'.cell? ⟨w.heap.size, 2, none⟩ = some (.int .i64 bx) ∧ w'.cell? ⟨w.heap.size, 3, none⟩ = some (.int .i64 by') ∧ w'.cell? ⟨w.heap.size, 4, none⟩ = some (.int .i64 bz) ∧ w'.cell? ⟨fb, foff + (fn - 1) * 3, none⟩ = some (.int .i64 x) ∧ w'.cell? ⟨fb, foff + (fn - 1) * 3 + 1, none⟩ = some (.int .i64 y) ∧ w'.cell? ⟨fb, foff + (fn - 1) * 3 + 2, none⟩ = some (.int .i64 z)) (first | (refine ⟨?_, ?_, ?_, ?_, ?_, ?_, ?_⟩ <;> assumption) | (refine ⟨?_, ?_, ?_, ?_, ?_, ?_, ?_⟩ <;> (rw [set3_far (by omega)]; assumption)) | go_keep)
        ((go_at_call 109; refine (HCO.out _).mono ?_; rintro e w3 ⟨rfl, hb3⟩; have HX3 := Lib.hid (HX.out.callD hb3); have HRB3 := Lib.hid (HRB.out.callD hb3); have HW3 := Lib.hid (v_below_callD HW.out hb3); obtain ⟨p0, p1, p2, p3, p4, p5, p6⟩ := HX3.out.cells; have e0 := (HW3.out.cell (p := ⟨fb, foff + (fn - 1) * 3, none⟩) hfb).trans hp0; have e1 := (HW3.out.cell (p := ⟨fb, foff + (fn - 1) * 3 + 1, none⟩) hfb).trans hp1; have e2 := (HW3.out.cell (p := ⟨fb, foff + (fn - 1) * 3 + 2, none⟩) hfb).trans hp2; obtain ⟨t0, t1, t2⟩ := HRB3.out.cells; have g0 := HRB3.out.free 0; have g1 := HRB3.out.free 1; have g2 := HRB3.out.free 2; clear hb3))
      all_goals
        go_wp2_with fail
        refine bodyPost_ret (by simp [results, Tryz.results86, go_sem, *]; try rfl) rfl ?_
        exact ⟨rfl, ((HW3.out.setCell (by simp) _).setCell (by simp) _).setCell (by simp) _⟩
end Go.Proofs.YtmlkdbmhekiniaaGreat
