/-
  The front and the back of a queue, in the program.
-/
import Derived.Test.YthkokeeciicdnaaRw
import Derived.Test.Ythkokeeciicdnaa4m
import Derived.IntWalk
import Derived.Test.YthkokeeciicdnaaKi
namespace Go.Proofs.Ythkokeeciicdnaa
set_option linter.unusedSimpArgs false
set_option linter.unusedVariables false
open Go.RowKit
set_option maxRecDepth 8000 in
set_option maxHeartbeats 2000000 in
theorem frontOf_any {k : Int} {T fu fl fx : Nat} (K : KindAt k T fu fl fx) (ia : Option Addr) (m ic : Nat) (fa : Option Addr) (fn fc : Nat) (pl pr pa pb co : Int) (F : List Agg.V) (I : List Int) (w : World) (hF : Vals w fa fn fc F) (hn : pb = 0 ∨ 0 < fn) :
    Calls Try.prog 28 #[.iface T (.agg #[]), .agg #[.slice ia m ic, .slice fa fn fc, .int .i64 pl, .int .i64 pr, .int .i64 pa, .int .i64 pb, .int .i64 co]] w fun e w' => e = .returned (.agg #[.int .i64 (Agg.frontQ k ⟨I, F, pl, pr, pa, pb, co⟩).x, .int .i64 (Agg.frontQ k ⟨I, F, pl, pr, pa, pb, co⟩).y, .int .i64 (Agg.frontQ k ⟨I, F, pl, pr, pa, pb, co⟩).z]) ∧ Below w.heap.size w w' := by
  have HR := Lib.hid (show Box ((w.alloc (.cells #[.slice ia m ic, .slice fa fn fc, .int .i64 pl, .int .i64 pr, .int .i64 pa, .int .i64 pb, .int .i64 co] 27)).alloc (.cells #[.int .i64 0, .int .i64 0, .int .i64 0] 32)) (w.heap.size + 1) 32 0 0 0 from Box.new1 _ 0 0 0 (by simp))
  have HW := Lib.hid (show Below w.heap.size w ((w.alloc (.cells #[.slice ia m ic, .slice fa fn fc, .int .i64 pl, .int .i64 pr, .int .i64 pa, .int .i64 pb, .int .i64 co] 27)).alloc (.cells #[.int .i64 0, .int .i64 0, .int .i64 0] 32)) from ((Below.refl _ _).alloc (Nat.le_refl _) _).alloc (by simp) _)
  by_cases h : pb = 0
  · subst h
    have e : Agg.frontQ k ⟨I, F, pl, pr, pa, 0, co⟩ = Agg.unit k := by simp [Agg.frontQ, Agg.qAt]
    rw [e]
    have hmu := K.mu
    have hcu := K.cu
    have HU := Lib.hid K.unit
    go_enter Try.func28, Try.ntmps28
    go_wp2_with fail
    refine (HU.out _).mono ?_
    rintro e w1 ⟨rfl, hb1⟩
    have HR1 := Lib.hid (HR.out.call hb1)
    have HW1 := Lib.hid (HW.out.trans (hb1.mono HW.out.size))
    obtain ⟨t0, t1, t2⟩ := HR1.out.cells
    have g0 := HR1.out.free 0
    have g1 := HR1.out.free 1
    have g2 := HR1.out.free 2
    clear hb1
    go_wp2_with fail
    refine bodyPost_ret (by simp [results, Try.results28, go_sem, *]; try rfl) rfl ?_
    exact ⟨rfl, ((HW1.out.setCell (by simp) _).setCell (by simp) _).setCell (by simp) _⟩
  · have hpos : 0 < fn := by omega
    rcases hF.2.2.2 with h4 | ⟨fb, foff, rfl, hfb, hfcs⟩
    · omega
    · have e : Agg.frontQ k ⟨I, F, pl, pr, pa, pb, co⟩ = F[0]?.getD Agg.zero := by simp [Agg.frontQ, Agg.qAt, show ¬ (0 = pb) by omega]
      rw [e]
      obtain ⟨c0, c1, c2⟩ := hfcs 0 hpos
      obtain ⟨⟨x, y, z⟩, hx⟩ : ∃ x, x = F[0]?.getD Agg.zero := ⟨_, rfl⟩
      rw [← hx] at c0 c1 c2 ⊢
      simp only [Nat.zero_mul, Nat.add_zero] at c0 c1 c2
      have hn0 : (0 : Int) < (fn : Int) := by omega
      clear e hfcs hF hx
      go_enter Try.func28, Try.ntmps28
      go_wp2_with fail
      refine bodyPost_ret (by simp [results, Try.results28, go_sem, *]; try rfl) rfl ?_
      exact ⟨rfl, (by first | (go_grown; done) | (refine below_drewN ?_ _; go_grown; done) | (refine (below_drewN _ ?_); go_grown; done))⟩
set_option maxRecDepth 8000 in
set_option maxHeartbeats 2000000 in
theorem backOf_any {k : Int} {T fu fl fx : Nat} (K : KindAt k T fu fl fx) (ia : Option Addr) (ic : Nat) (fa : Option Addr) (fn fc : Nat) (pl pr pa pb co : Int) (F : List Agg.V) (I : List Int) (w : World) (hF : Vals w fa fn fc F) (hI : I.length = fn) (hn : pb = (fn : Int) ∨ 0 < fn) :
    Calls Try.prog 29 #[.iface T (.agg #[]), .agg #[.slice ia fn ic, .slice fa fn fc, .int .i64 pl, .int .i64 pr, .int .i64 pa, .int .i64 pb, .int .i64 co]] w fun e w' => e = .returned (.agg #[.int .i64 (Agg.backQ k ⟨I, F, pl, pr, pa, pb, co⟩).x, .int .i64 (Agg.backQ k ⟨I, F, pl, pr, pa, pb, co⟩).y, .int .i64 (Agg.backQ k ⟨I, F, pl, pr, pa, pb, co⟩).z]) ∧ Below w.heap.size w w' := by
  have HR := Lib.hid (show Box ((w.alloc (.cells #[.slice ia fn ic, .slice fa fn fc, .int .i64 pl, .int .i64 pr, .int .i64 pa, .int .i64 pb, .int .i64 co] 27)).alloc (.cells #[.int .i64 0, .int .i64 0, .int .i64 0] 32)) (w.heap.size + 1) 32 0 0 0 from Box.new1 _ 0 0 0 (by simp))
  have HW := Lib.hid (show Below w.heap.size w ((w.alloc (.cells #[.slice ia fn ic, .slice fa fn fc, .int .i64 pl, .int .i64 pr, .int .i64 pa, .int .i64 pb, .int .i64 co] 27)).alloc (.cells #[.int .i64 0, .int .i64 0, .int .i64 0] 32)) from ((Below.refl _ _).alloc (Nat.le_refl _) _).alloc (by simp) _)
  by_cases h : pb = (fn : Int)
  · have e : Agg.backQ k ⟨I, F, pl, pr, pa, pb, co⟩ = Agg.unit k := by simp [Agg.backQ, Agg.qAt, hI, h]
    rw [e]
    have hmu := K.mu
    have hcu := K.cu
    have HU := Lib.hid K.unit
    clear e hF hI
    subst h
    go_enter Try.func29, Try.ntmps29
    go_wp2_with fail
    refine (HU.out _).mono ?_
    rintro e w1 ⟨rfl, hb1⟩
    have HR1 := Lib.hid (HR.out.call hb1)
    have HW1 := Lib.hid (HW.out.trans (hb1.mono HW.out.size))
    obtain ⟨t0, t1, t2⟩ := HR1.out.cells
    have g0 := HR1.out.free 0
    have g1 := HR1.out.free 1
    have g2 := HR1.out.free 2
    clear hb1
    go_wp2_with fail
    refine bodyPost_ret (by simp [results, Try.results29, go_sem, *]; try rfl) rfl ?_
    exact ⟨rfl, ((HW1.out.setCell (by simp) _).setCell (by simp) _).setCell (by simp) _⟩
  · have hpos : 0 < fn := by omega
    have hcap := hF.2.1
    have hcm := hF.2.2.1
    unfold maxLen at hcm
    rcases hF.2.2.2 with h4 | ⟨fb, foff, rfl, hfb, hfcs⟩
    · omega
    · have e : Agg.backQ k ⟨I, F, pl, pr, pa, pb, co⟩ = F[fn - 1]?.getD Agg.zero := by
        have h1 : ¬ (pb = (I.length : Int)) := by rw [hI]; exact h
        simp only [Agg.backQ, Agg.qAt, if_neg h1]
        rw [show ((I.length : Int) - 1).toNat = fn - 1 by omega]
      rw [e]
      obtain ⟨c0, c1, c2⟩ := hfcs (fn - 1) (by omega)
      obtain ⟨⟨x, y, z⟩, hx⟩ : ∃ x, x = F[fn - 1]?.getD Agg.zero := ⟨_, rfl⟩
      rw [← hx] at c0 c1 c2 ⊢
      have hn0 : (0 : Int) ≤ (fn : Int) - 1 := by omega
      have hn1 : (fn : Int) - 1 < (fn : Int) := by omega
      have hnt : ((fn : Int) - 1).toNat = fn - 1 := by omega
      have hwr : IntKind.i64.wrap ((fn : Int) - 1) = (fn : Int) - 1 := IntWalk.i64_in _ (by omega)
      clear e hfcs hF hx hI
      go_enter Try.func29, Try.ntmps29
      go_wp2_with fail
      refine bodyPost_ret (by simp [results, Try.results29, go_sem, *]; try rfl) rfl ?_
      exact ⟨rfl, (by first | (go_grown; done) | (refine below_drewN ?_ _; go_grown; done) | (refine (below_drewN _ ?_); go_grown; done))⟩
end Go.Proofs.Ythkokeeciicdnaa
