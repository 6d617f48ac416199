import Derived.Test.YtolgclajlklmaaaGreat3t
import Derived.Test.YtolgclajlklmaaaGreatRw
import Derived.IntWalk
import Derived.Deep.DeepMust
/-
  The aggregate of two stacks, in the program and in the model.
-/
namespace Go.Proofs.YtolgclajlklmaaaGreat
set_option linter.unusedSimpArgs false
set_option linter.unusedVariables false
open Go.RowKit
/-- What valid stacks have. -/
theorem Agg.sOk_parts {k : Int} {s : Agg.S} (h : Agg.sOk k s = true) : Agg.isKind k = true ∧ s.size ≤ 60 ∧ (∀ i, i < s.front.length → Agg.ok k (s.front[i]?.getD Agg.zero) = true) ∧ Agg.itemsOk s.items = true ∧ s.back = Agg.fold k s.items ∧ Agg.ok k s.back = true ∧ 0 ≤ s.flips ∧ 0 ≤ s.cost := by
  simp only [Agg.sOk, Bool.and_eq_true, decide_eq_true_eq, List.all_eq_true] at h
  obtain ⟨⟨⟨⟨⟨⟨hk, hf⟩, hc⟩, hs⟩, ha⟩, hi⟩, hb⟩ := h
  refine ⟨hk, hs, fun i hi2 => ha _ (by simp [hi2]), hi, hb, ?_, hf.1, hc.1⟩
  rw [hb]
  exact Agg.ok_fold_all hk hi
theorem Agg.aVal_not {k : Int} {s : Agg.S} (h : Agg.sOk k s = false) : Agg.aValS k s = (Agg.zero, false) := by simp [Agg.aValS, Agg.give, h]
theorem Agg.aVal_unit {k : Int} {s : Agg.S} (h : Agg.sOk k s = true) (h0 : s.front.length = 0) : Agg.aComb k (Agg.unit k) s.back = Agg.aValS k s := by
  obtain ⟨hk, -, -, -, -, hb, -⟩ := Agg.sOk_parts h
  simp [Agg.aComb, Agg.aValS, Agg.valS, h0, h, hb, Agg.valid, hk, Agg.ok_unit hk, Agg.comb_unit_left hk hb]
theorem Agg.aVal_last {k : Int} {s : Agg.S} (h : Agg.sOk k s = true) (h0 : 0 < s.front.length) : Agg.aComb k (s.front[s.front.length - 1]?.getD Agg.zero) s.back = Agg.aValS k s := by
  obtain ⟨hk, -, hf, -, -, hb, -⟩ := Agg.sOk_parts h
  have hl := hf (s.front.length - 1) (by omega)
  have hn : ¬ s.front.length = 0 := by omega
  simp only [Agg.aComb, Agg.aValS, Agg.valS, hn, if_false, h, Agg.valid, hk, hl, hb, Bool.and_self, Bool.true_and]
set_option maxRecDepth 8000 in
set_option maxHeartbeats 4000000 in
theorem stacksValue_any (k : Int) (fa : Option Addr) (fn fc : Nat) (ia : Option Addr) (m ic : Nat) (bx by' bz fl co : Int) (F : List Agg.V) (I : List Int) (w : World) (hF : Vals w fa fn fc F) (hI : Nums .i64 w ia m ic I) (h1 : fn ≤ 4611686018427387) (h2 : m ≤ 4611686018427387) :
    Calls Tryz.prog 55 #[.int .i64 k, .agg #[.slice fa fn fc, .slice ia m ic, .int .i64 bx, .int .i64 by', .int .i64 bz, .int .i64 fl, .int .i64 co]] w fun e w' => e = .returned (.tuple #[.agg #[.int .i64 (Agg.aValS k ⟨F, I, ⟨bx, by', bz⟩, fl, co⟩).1.x, .int .i64 (Agg.aValS k ⟨F, I, ⟨bx, by', bz⟩, fl, co⟩).1.y, .int .i64 (Agg.aValS k ⟨F, I, ⟨bx, by', bz⟩, fl, co⟩).1.z], .bool (Agg.aValS k ⟨F, I, ⟨bx, by', bz⟩, fl, co⟩).2]) ∧ Below w.heap.size w w' := by
  have hFl : F.length = fn := hF.1
  have hfc := hF.2.1
  have hfm := hF.2.2.1
  unfold maxLen at hfm
  obtain ⟨R, hR⟩ : ∃ R, R = Agg.aValS k ⟨F, I, ⟨bx, by', bz⟩, fl, co⟩ := ⟨_, rfl⟩
  obtain ⟨⟨rx, ry, rz⟩, rb⟩ := R
  rw [← hR]
  have HF := Lib.hid hF
  have HI := Lib.hid hI
  have hU := fun w => unitOf_any k w
  cases hk : Agg.isKind k
  · have e : Agg.aUnit k = (Agg.zero, false) := by simp [Agg.aUnit, Agg.give, hk]
    rw [e] at hU
    rw [Agg.aVal_not (Agg.sOk_kind hk)] at hR
    simp only [Prod.mk.injEq, Agg.zero, Agg.V.mk.injEq] at hR
    obtain ⟨⟨rfl, rfl, rfl⟩, rfl⟩ := hR
    have HU := Lib.hid hU
    clear hU hk e hF hI hFl
    go_enter Tryz.func55, Tryz.ntmps55
    go_wp2_with fail
    refine (HU.out _).mono ?_
    rintro e w1 ⟨rfl, hb1⟩
    obtain ⟨hc1, hf1⟩ := bcell hb1
    have hs1 := hb1.size
    simp at hs1
    have hq1 : w.heap.size < w1.heap.size := by omega
    have hq2 : w.heap.size + 1 < w1.heap.size := by omega
    have HW1 := Lib.hid ((((Below.refl w.heap.size w).alloc (Nat.le_refl _) _).alloc (by simp) _).trans (hb1.mono (by simp; omega)))
    clear hb1 hs1
    go_wp2_with fail
    refine bodyPost_ret (by simp [results, Tryz.results55, go_sem, *]; try rfl) rfl ?_
    exact ⟨rfl, by have hB := HW1.out; have := hB.size; go_grown⟩
  · have e : Agg.aUnit k = (Agg.unit k, true) := by simp [Agg.aUnit, Agg.give, hk]
    rw [e] at hU
    obtain ⟨⟨ux, uy, uz⟩, hUV⟩ : ∃ U, U = Agg.unit k := ⟨_, rfl⟩
    rw [← hUV] at hU
    have HU := Lib.hid hU
    have HUV := Lib.hid hUV
    have HR := Lib.hid hR
    have HFL := Lib.hid hFl
    obtain ⟨sb, hsb⟩ : ∃ sb, sb = Agg.sOk k ⟨F, I, ⟨bx, by', bz⟩, fl, co⟩ := ⟨_, rfl⟩
    have hS := fun w hF hI => stacksValid_any k fa fn fc ia m ic bx by' bz fl co F I w hF hI h1 h2
    rw [← hsb] at hS
    have HS := Lib.hid hS
    have HSB := Lib.hid hsb
    clear hU hk e hF hI hFl hUV hsb hS hR
    cases sb
    · have hR := HR.out
      rw [Agg.aVal_not HSB.out.symm] at hR
      simp only [Prod.mk.injEq, Agg.zero, Agg.V.mk.injEq] at hR
      obtain ⟨⟨rfl, rfl, rfl⟩, rfl⟩ := hR
      go_enter Tryz.func55, Tryz.ntmps55
      go_wp2_with fail
      refine (HU.out _).mono ?_
      rintro e w1 ⟨rfl, hb1⟩
      have HX1 := Lib.hid (show Box7 w1 w.heap.size 42 (.slice fa fn fc) (.slice ia m ic) (.int .i64 bx) (.int .i64 by') (.int .i64 bz) (.int .i64 fl) (.int .i64 co) from ((Box7.new w _ _ _ _ _ _ _ _).alloc _).call hb1)
      have hxl := HX1.out.lt
      have hs1 := hb1.size
      simp at hs1
      have hq2 : w.heap.size + 1 < w1.heap.size := by omega
      have HRB := Lib.hid (show Box w1 (w.heap.size + 1) 40 0 0 0 from (Box.new1 (Y := w.alloc _) _ 0 0 0 (by simp)).call hb1)
      have HW1 := Lib.hid ((((Below.refl w.heap.size w).alloc (Nat.le_refl _) _).alloc (by simp) _).trans (hb1.mono (by simp; omega)))
      clear hb1 hs1
      obtain ⟨q0, q1, q2, q3, q4, q5, q6⟩ := HX1.out.cells
      obtain ⟨r0, r1, r2⟩ := HRB.out.cells
      have g0 := HRB.out.free 0
      have g1 := HRB.out.free 1
      have g2 := HRB.out.free 2
      go_wp2_with fail
      refine (HS.out _ (HF.out.below (HW1.out.alloc HW1.out.size _)) (HI.out.below (HW1.out.alloc HW1.out.size _))).mono ?_
      rintro e w2 ⟨rfl, hb2⟩
      have HW2 := Lib.hid ((HW1.out.alloc HW1.out.size _).trans (hb2.mono (HW1.out.alloc HW1.out.size _).size))
      obtain ⟨hc2, hf2⟩ := bcell hb2
      have hs2 := hb2.size
      simp at hs2
      have hq3 : w.heap.size + 1 < w2.heap.size := by omega
      clear hb2 hs2
      go_wp2_with fail
      refine bodyPost_ret (by simp [results, Tryz.results55, go_sem, *]; try rfl) rfl ?_
      exact ⟨rfl, by first | exact (((HW2.out.setCell (by simp) _).setCell (by simp) _).setCell (by simp) _) | exact HW2.out⟩
    · have hsok : Agg.sOk k ⟨F, I, ⟨bx, by', bz⟩, fl, co⟩ = true := HSB.out.symm
      have HSO := Lib.hid hsok
      clear hsok
      by_cases hn0 : fn = 0
      · subst hn0
        have hCV := fun w => combineValues_any k ux uy uz bx by' bz w
        have hav := Agg.aVal_unit HSO.out (by simpa using HFL.out)
        simp only at hav
        rw [← HUV.out, ← HR.out] at hav
        rw [hav] at hCV
        have HCV := Lib.hid hCV
        clear hCV hav
        go_enter Tryz.func55, Tryz.ntmps55
        go_wp2_with fail
        refine (HU.out _).mono ?_
        rintro e w1 ⟨rfl, hb1⟩
        have HX1 := Lib.hid (show Box7 w1 w.heap.size 42 (.slice fa 0 fc) (.slice ia m ic) (.int .i64 bx) (.int .i64 by') (.int .i64 bz) (.int .i64 fl) (.int .i64 co) from ((Box7.new w _ _ _ _ _ _ _ _).alloc _).call hb1)
        have hxl := HX1.out.lt
        have hs1 := hb1.size
        simp at hs1
        have hq2 : w.heap.size + 1 < w1.heap.size := by omega
        have HRB := Lib.hid (show Box w1 (w.heap.size + 1) 40 0 0 0 from (Box.new1 (Y := w.alloc _) _ 0 0 0 (by simp)).call hb1)
        have HW1 := Lib.hid ((((Below.refl w.heap.size w).alloc (Nat.le_refl _) _).alloc (by simp) _).trans (hb1.mono (by simp; omega)))
        clear hb1 hs1
        obtain ⟨q0, q1, q2, q3, q4, q5, q6⟩ := HX1.out.cells
        obtain ⟨r0, r1, r2⟩ := HRB.out.cells
        go_wp2_with fail
        refine (HS.out _ (HF.out.below (HW1.out.alloc HW1.out.size _)) (HI.out.below (HW1.out.alloc HW1.out.size _))).mono ?_
        rintro e w2 ⟨rfl, hb2⟩
        have HW2 := Lib.hid ((HW1.out.alloc HW1.out.size _).trans (hb2.mono (HW1.out.alloc HW1.out.size _).size))
        obtain ⟨hc2, hf2⟩ := bcell hb2
        have hs2 := hb2.size
        simp at hs2
        have hq3 : w.heap.size + 1 < w2.heap.size := by omega
        have HRB2 := Lib.hid ((HRB.out.alloc (.cells #[.int .i64 ux, .int .i64 uy, .int .i64 uz] 40)).call hb2)
        clear hb2
        go_wp2_with fail
        refine (HCV.out _).mono ?_
        rintro e w3 ⟨rfl, hb3⟩
        have HW3 := Lib.hid (HW2.out.trans (hb3.mono HW2.out.size))
        have HRB3 := Lib.hid (HRB2.out.call hb3)
        obtain ⟨t0, t1, t2⟩ := HRB3.out.cells
        have g0 := HRB3.out.free 0
        have g1 := HRB3.out.free 1
        have g2 := HRB3.out.free 2
        clear hb3 hc2 hf2
        go_wp2_with fail
        refine bodyPost_ret (by simp [results, Tryz.results55, go_sem, *]; try rfl) rfl ?_
        exact ⟨rfl, ((HW3.out.setCell (by simp) _).setCell (by simp) _).setCell (by simp) _⟩
      · rcases HF.out.2.2.2 with h4 | ⟨fb, foff, rfl, hfb, hfcs⟩
        · omega
        · have hp := hfcs (fn - 1) (by omega)
          obtain ⟨⟨x, y, z⟩, hx⟩ : ∃ x, x = F[fn - 1]?.getD Agg.zero := ⟨_, rfl⟩
          rw [← hx] at hp
          have hCV := fun w => combineValues_any k x y z bx by' bz w
          have hav := Agg.aVal_last HSO.out (by have := HFL.out; simp; omega)
          simp only [HFL.out] at hav
          rw [← hx, ← HR.out] at hav
          rw [hav] at hCV
          have HCV := Lib.hid hCV
          have HP := Lib.hid hp
          clear hCV hav hx hp hfcs
          have hn1 : ¬ ((fn : Int) = 0) := by omega
          have hn2 : (0 : Int) < (fn : Int) := by omega
          have hn3 : (1 : Int) ≤ (fn : Int) := by omega
          have hnt : ((fn : Int) - 1).toNat = fn - 1 := by omega
          have hn4 : fn - 1 < fn := by omega
          go_enter Tryz.func55, Tryz.ntmps55
          go_wp2_with fail
          refine (HU.out _).mono ?_
          rintro e w1 ⟨rfl, hb1⟩
          have HX1 := Lib.hid (show Box7 w1 w.heap.size 42 (.slice (some ⟨fb, foff, none⟩) fn fc) (.slice ia m ic) (.int .i64 bx) (.int .i64 by') (.int .i64 bz) (.int .i64 fl) (.int .i64 co) from ((Box7.new w _ _ _ _ _ _ _ _).alloc _).call hb1)
          have hxl := HX1.out.lt
          have hs1 := hb1.size
          simp at hs1
          have hq2 : w.heap.size + 1 < w1.heap.size := by omega
          have HRB := Lib.hid (show Box w1 (w.heap.size + 1) 40 0 0 0 from (Box.new1 (Y := w.alloc _) _ 0 0 0 (by simp)).call hb1)
          have HW1 := Lib.hid ((((Below.refl w.heap.size w).alloc (Nat.le_refl _) _).alloc (by simp) _).trans (hb1.mono (by simp; omega)))
          have HVB := Lib.hid (Box.new w1 40 ux uy uz)
          clear hb1 hs1
          obtain ⟨q0, q1, q2, q3, q4, q5, q6⟩ := HX1.out.cells
          obtain ⟨r0, r1, r2⟩ := HRB.out.cells
          go_wp2_with fail
          refine (HS.out _ (HF.out.below (HW1.out.alloc HW1.out.size _)) (HI.out.below (HW1.out.alloc HW1.out.size _))).mono ?_
          rintro e w2 ⟨rfl, hb2⟩
          have HW2 := Lib.hid ((HW1.out.alloc HW1.out.size _).trans (hb2.mono (HW1.out.alloc HW1.out.size _).size))
          have hs2 := hb2.size
          simp at hs2
          have hq3 : w.heap.size + 1 < w2.heap.size := by omega
          have hq4 : w.heap.size < w2.heap.size := by omega
          have hq5 : w1.heap.size < w2.heap.size := by omega
          have HRB2 := Lib.hid ((HRB.out.alloc (.cells #[.int .i64 ux, .int .i64 uy, .int .i64 uz] 40)).call hb2)
          have HX2 := Lib.hid ((HX1.out.alloc (.cells #[.int .i64 ux, .int .i64 uy, .int .i64 uz] 40)).call hb2)
          have HVB2 := Lib.hid (HVB.out.call hb2)
          obtain ⟨p0, p1, p2, p3, p4, p5, p6⟩ := HX2.out.cells
          obtain ⟨v0, v1, v2⟩ := HVB2.out.cells
          have f0 := HVB2.out.free 0
          have f1 := HVB2.out.free 1
          have f2 := HVB2.out.free 2
          have e0 := (HW2.out.cell (p := ⟨fb, foff + (fn - 1) * 3, none⟩) hfb).trans HP.out.1
          have e1 := (HW2.out.cell (p := ⟨fb, foff + (fn - 1) * 3 + 1, none⟩) hfb).trans HP.out.2.1
          have e2 := (HW2.out.cell (p := ⟨fb, foff + (fn - 1) * 3 + 2, none⟩) hfb).trans HP.out.2.2
          have hne : w.heap.size ≠ w1.heap.size := by omega
          clear hb2 hs2 q0 q1 q2 q3 q4 q5 q6
          go_wp2_with fail
          refine (HCV.out _).mono ?_
          rintro e w3 ⟨rfl, hb3⟩
          have HY3 := Lib.hid ((((HRB2.out.set_other (by omega) 0 _).set_other (by omega) 1 _).set_other (by omega) 2 _).call hb3)
          have HZ2 := Lib.hid (((HW2.out.setCell (p := ⟨w1.heap.size, 0, none⟩) (by simp; omega) (.int .i64 x)).setCell (p := ⟨w1.heap.size, 1, none⟩) (by simp; omega) (.int .i64 y)).setCell (p := ⟨w1.heap.size, 2, none⟩) (by simp; omega) (.int .i64 z))
          have HW3 := Lib.hid (HZ2.out.trans (hb3.mono HZ2.out.size))
          obtain ⟨t0, t1, t2⟩ := HY3.out.cells
          have g0 := HY3.out.free 0
          have g1 := HY3.out.free 1
          have g2 := HY3.out.free 2
          clear hb3 p0 p1 p2 p3 p4 p5 p6 v0 v1 v2 e0 e1 e2 f0 f1 f2
          go_wp2_with fail
          refine bodyPost_ret (by simp [results, Tryz.results55, go_sem, *]; try rfl) rfl ?_
          exact ⟨rfl, ((HW3.out.setCell (by simp) _).setCell (by simp) _).setCell (by simp) _⟩
end Go.Proofs.YtolgclajlklmaaaGreat

/-
  The aggregate of two stacks in the model; copies of stacks.
-/
namespace Go.Proofs.YtolgclajlklmaaaGreat
set_option linter.unusedSimpArgs false
set_option linter.unusedVariables false
open Go.RowKit
theorem set3_far {W : World} {d c o : Nat} {a b e : Value} (h : c ≠ d) : (((W.setCell ⟨d, 0, none⟩ a).setCell ⟨d, 1, none⟩ b).setCell ⟨d, 2, none⟩ e).cell? ⟨c, o, none⟩ = W.cell? ⟨c, o, none⟩ :=
  World.cell?_of_block (by rw [Below.heap_setCell _ _ _ _ (by simpa using h), Below.heap_setCell _ _ _ _ (by simpa using h), Below.heap_setCell _ _ _ _ (by simpa using h)])
end Go.Proofs.YtolgclajlklmaaaGreat

/-
  The model's StacksValue; copies of stacks, in the program and in the model.
-/
namespace Go.Proofs.YtolgclajlklmaaaGreat
set_option linter.unusedSimpArgs false
set_option linter.unusedVariables false
open Go.RowKit
theorem new_at {Y : World} {g : Nat} {o : Obj} (hg : g = Y.heap.size) : (Y.alloc o).heap[g]? = some o := by subst hg; exact heap_alloc_new Y o
theorem ownsRow_slice {w : World} {base e size n : Nat} {v : Value} {xs : List Value} (h : w.ownsRow base e size v n xs) : ∃ a c, v = .slice a n c := by
  rcases h.2 with ⟨rfl, rfl⟩ | ⟨g, cap, cur, rfl, -⟩
  · exact ⟨none, 0, rfl⟩
  · exact ⟨_, cap, rfl⟩
/-- Stacks are made anew. -/
def MadeStk (s : Agg.S) (w : World) (e : Ending) (w' : World) : Prop := ∃ v, e = .returned v ∧ StkOwn w' w.heap.size w'.heap.size v s ∧ Below w.heap.size w w'
theorem OwnV.of {w : World} {lo lo' n : Nat} {v : Value} {l : List Agg.V} (h : w.ownsRow lo 40 3 v n (valRow l)) (hb : lo' ≤ lo) (hs : lo' ≤ w.heap.size) : OwnV w lo' w.heap.size v n l :=
  ⟨owns_lower h hb, hs, Nat.le_refl _, fun g hg => (h.lt g hg).2⟩
theorem OwnR.of {w : World} {lo lo' n : Nat} {v : Value} {l : List Int} (h : w.ownsRow lo 3 1 v n (l.map (Value.int .i64))) (hb : lo' ≤ lo) (hs : lo' ≤ w.heap.size) : OwnR w lo' w.heap.size v n l :=
  ⟨owns_lower h hb, hs, Nat.le_refl _, fun g hg => (h.lt g hg).2⟩
end Go.Proofs.YtolgclajlklmaaaGreat
