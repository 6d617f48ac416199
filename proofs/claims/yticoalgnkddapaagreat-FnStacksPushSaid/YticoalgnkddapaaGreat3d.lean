/-
  The model's change of stacks: an item goes.
-/
import Derived.Test.YticoalgnkddapaaGreat3c
namespace Go.Proofs.YticoalgnkddapaaGreat
set_option linter.unusedSimpArgs false
set_option linter.unusedVariables false
open Go.RowKit
/-- The first k of a row of one's own. -/
theorem own_less {w : World} {base e size n c k : Nat} {a : Option Addr} {xs : List Value} (h : w.ownsRow base e size (.slice a n c) n xs) (hk : k ≤ n) (hn : 0 < n) : w.ownsRow base e size (.slice a k c) k (xs.take (k * size)) := by
  have hl := h.1
  have hm : k * size ≤ n * size := Nat.mul_le_mul_right _ hk
  refine ⟨by rw [List.length_take]; omega, ?_⟩
  rcases h.2 with ⟨e, h0⟩ | ⟨g, cap, cur, e, hb, hh, k1, k2, k3, k4⟩
  · simp only [Value.slice.injEq] at e
    omega
  · simp only [Value.slice.injEq] at e
    obtain ⟨rfl, -, rfl⟩ := e
    exact .inr ⟨g, c, cur, rfl, hb, hh, by omega, k2, k3, by rw [← k4, List.take_take, Nat.min_eq_left hm]⟩
theorem valRow_take (l : List Agg.V) : ∀ k, valRow (l.take k) = (valRow l).take (k * 3) := by
  induction l with
  | nil => intro k; simp [valRow]
  | cons v l ih =>
    intro k
    cases k with
    | zero => simp [valRow]
    | succ k =>
      have h1 : valRow (v :: l.take k) = [.int .i64 v.x, .int .i64 v.y, .int .i64 v.z] ++ valRow (l.take k) := by simp [valRow, valCells]
      have h2 : valRow (v :: l) = [.int .i64 v.x, .int .i64 v.y, .int .i64 v.z] ++ valRow l := by simp [valRow, valCells]
      rw [List.take_succ_cons, h1, h2, ih k, show (k + 1) * 3 = k * 3 + 1 + 1 + 1 by omega]
      simp
theorem StepSt.shorter {w wr : World} {Wn on : Nat} {va vb : Value} {bx by' bz fl co : Int} {pu : Bool} {x : Int} {a : Option Addr} {iv : Value} {n c m k : Nat} {xs ys : List Value} {V : Agg.V} {fl' co' : Int}
    (h : StepSt w Wn on va vb bx by' bz fl co pu x (.slice a n c) iv n m xs ys V fl' co' wr) (hW : w.heap.size + 1 + 1 < Wn) (hon : Wn ≤ on) (hf : ∀ g, (Value.slice a n c).ownBlock = some g → g ≠ on) (hi : ∀ g, iv.ownBlock = some g → g ≠ on) (hk : k ≤ n) (hn : 0 < n) :
    StepSt w Wn on va vb bx by' bz fl co pu x (.slice a k c) iv k m (xs.take (k * 3)) ys V fl' co' (wr.setCell ⟨on, 0, none⟩ (.slice a k c)) :=
  ⟨h.a.other (by omega) _ _, h.p.other (by omega) _ _, h.r.other (by omega) _ _, h.o.set0 _, own_set_ne (own_less h.f hk hn) (fun g hg => hf g (by cases a with | none => exact hg | some q => exact hg)), own_set_ne h.i hi, h.b.setCell (show w.heap.size ≤ on by omega) _⟩
set_option maxRecDepth 8000 in
set_option maxHeartbeats 4000000 in
theorem s_l3Step_pop (k : Int) (fa : Option Addr) (fn fc : Nat) (ia : Option Addr) (m ic : Nat) (bx by' bz fl co : Int) (F : List Agg.V) (I : List Int) (w : World) (hF : Vals w fa fn fc F) (hI : Nums .i64 w ia m ic I) (hok : Agg.sOk k ⟨F, I, ⟨bx, by', bz⟩, fl, co⟩ = true) (hn0 : 0 < fn) :
    Calls Tryz.prog 44 #[.int .i64 k, .agg #[.slice fa fn fc, .slice ia m ic, .int .i64 bx, .int .i64 by', .int .i64 bz, .int .i64 fl, .int .i64 co], .agg #[.bool false, .int .i64 0]] w (SteppedStk (Agg.popS ⟨F, I, ⟨bx, by', bz⟩, fl, co⟩) w) := by
  obtain ⟨i0, hi, hz0, hz1, hz2⟩ := info_parts infoInt
  have hFl : F.length = fn := hF.1
  have hIl : I.length = m := hI.1
  have HF := Lib.hid hF
  have HI := Lib.hid hI
  have HOK := Lib.hid hok
  have HFL := Lib.hid hFl
  have HIL := Lib.hid hIl
  have hok0 := hok
  clear hF hI hok hFl hIl
  have hco : 0 ≤ co ∧ co ≤ 1000000 := by simp only [Agg.sOk, Bool.and_eq_true, decide_eq_true_eq] at hok0; omega
  obtain ⟨hco0, hco1⟩ := hco
  clear hok0
  obtain ⟨W, hW⟩ : ∃ W, W = ((w.alloc (.cells #[.slice fa fn fc, .slice ia m ic, .int .i64 bx, .int .i64 by', .int .i64 bz, .int .i64 fl, .int .i64 co] 31)).alloc (.cells #[.bool false, .int .i64 0] 43)).alloc (.cells #[.slice none 0 0, .slice none 0 0, .int .i64 0, .int .i64 0, .int .i64 0, .int .i64 0, .int .i64 0] 31) := ⟨_, rfl⟩
  have HA := Lib.hid (show Box7 W w.heap.size 31 (.slice fa fn fc) (.slice ia m ic) (.int .i64 bx) (.int .i64 by') (.int .i64 bz) (.int .i64 fl) (.int .i64 co) from by rw [hW]; exact ((Box7.new w _ _ _ _ _ _ _ _).alloc _).alloc _)
  have HP := Lib.hid (show Box2 W (w.heap.size + 1) 43 (.bool false) (.int .i64 0) from by rw [hW]; exact (Box2.new1 _ _ _ (by simp)).alloc _)
  have HR := Lib.hid (show Box7 W (w.heap.size + 1 + 1) 31 (.slice none 0 0) (.slice none 0 0) (.int .i64 0) (.int .i64 0) (.int .i64 0) (.int .i64 0) (.int .i64 0) from by rw [hW]; exact Box7.new1 _ _ _ _ _ _ _ _ (by simp))
  have HB := Lib.hid (show Below w.heap.size w W from by rw [hW]; exact (((Below.refl _ _).alloc (Nat.le_refl _) _).alloc (by simp) _).alloc (by simp; omega) _)
  have hsz1 := HR.out.lt
  go_enter Tryz.func44, Tryz.ntmps44
  go_wp2_with fail
  rw [← hW]
  clear hW
  refine (s_l3Copy_any fa fn fc ia m ic bx by' bz fl co F I _ (HF.out.below HB.out) (HI.out.below HB.out) (by have := (Agg.sOk_parts HOK.out).2.1; simp [Agg.S.size] at this; have := HFL.out; have := HIL.out; omega) (by have := (Agg.sOk_parts HOK.out).2.1; simp [Agg.S.size] at this; have := HFL.out; have := HIL.out; omega)).mono ?_
  rintro e w1 ⟨v, rfl, ⟨fv, iv, rfl, hOF, hOI⟩, hb1⟩
  have hs1 := hb1.size
  have HA1 := Lib.hid (HA.out.call hb1)
  have HP1 := Lib.hid (HP.out.call hb1)
  have HR1 := Lib.hid (HR.out.call hb1)
  have HB1 := Lib.hid (HB.out.trans (hb1.mono HB.out.size))
  obtain ⟨ga, gc, rfl, hgv⟩ := hOF.vals
  have HFC := Lib.hid (show F.length ≤ gc ∧ F.length ≤ 60 ∧ gc ≤ 9223372036854775807 from ⟨hgv.2.1, by have := (Agg.sOk_parts HOK.out).2.1; simp [Agg.S.size] at this; omega, by have := hgv.2.2.1; unfold maxLen at this; omega⟩)
  obtain ⟨ja, jc, rfl, -, -⟩ := hOI.nums
  simp only at *
  have HOF := Lib.hid hOF.1
  have HOI := Lib.hid hOI.1
  have HGF := Lib.hid hOF.2.2.2
  have HGI := Lib.hid hOI.2.2.2
  clear hb1 hOF hOI HA HP HR HB hgv
  obtain ⟨p0, p1⟩ := HP1.out.cells
  obtain ⟨q0, q1, q2, q3, q4, q5, q6⟩ := HA1.out.cells
  have hl1 := HR1.out.lt
  have hl0 : w.heap.size < w1.heap.size := by omega
  have hl2 : w.heap.size + 1 < w1.heap.size := by omega
  obtain ⟨W2, hW2⟩ : ∃ W2, W2 = w1.alloc (.cells #[.slice ga F.length gc, .slice ja I.length jc, .int .i64 bx, .int .i64 by', .int .i64 bz, .int .i64 fl, .int .i64 co] 31) := ⟨_, rfl⟩
  have HA2 := Lib.hid (show Box7 W2 w.heap.size 31 (.slice fa fn fc) (.slice ia m ic) (.int .i64 bx) (.int .i64 by') (.int .i64 bz) (.int .i64 fl) (.int .i64 co) from by rw [hW2]; exact HA1.out.alloc _)
  have HP2 := Lib.hid (show Box2 W2 (w.heap.size + 1) 43 (.bool false) (.int .i64 0) from by rw [hW2]; exact HP1.out.alloc _)
  have HR2 := Lib.hid (show Box7 W2 (w.heap.size + 1 + 1) 31 (.slice none 0 0) (.slice none 0 0) (.int .i64 0) (.int .i64 0) (.int .i64 0) (.int .i64 0) (.int .i64 0) from by rw [hW2]; exact HR1.out.alloc _)
  have HO2 := Lib.hid (show Box7 W2 w1.heap.size 31 (.slice ga F.length gc) (.slice ja I.length jc) (.int .i64 bx) (.int .i64 by') (.int .i64 bz) (.int .i64 fl) (.int .i64 co) from by rw [hW2]; exact Box7.new w1 _ _ _ _ _ _ _ _)
  have HB2 := Lib.hid (show Below w.heap.size w W2 from by rw [hW2]; exact HB1.out.alloc HB1.out.size _)
  have HF2 := Lib.hid (show W2.ownsRow W.heap.size 29 3 (.slice ga F.length gc) F.length (valRow F) from by rw [hW2]; exact HOF.out.alloc _)
  have HI2 := Lib.hid (show W2.ownsRow W.heap.size 3 1 (.slice ja I.length jc) I.length (I.map (Value.int .i64)) from by rw [hW2]; exact HOI.out.alloc _)
  have hs2 : W2.heap.size = w1.heap.size + 1 := by rw [hW2]; simp
  have hFn := HFL.out
  have hne3 : ¬ (F = []) := by intro e; rw [e] at hFn; simp at hFn; omega
  have hfc1 := HFC.out.1
  have hlast : (0 : Int) ≤ (F.length : Int) - 1 := by omega
  have hlt1 : (F.length : Int) - 1 ≤ (gc : Int) := by omega
  have htn : ((F.length : Int) - 1).toNat = F.length - 1 := by omega
  have hwr : IntKind.i64.wrap ((F.length : Int) - 1) = (F.length : Int) - 1 := IntWalk.i64_in _ (by have := HFC.out; omega)
  have HFn := Lib.hid hFn
  clear hFn hfc1
  go_upto_region 2 with (fail)
  rw [← hW2]
  clear hW2 p0 p1 q0 q1 q2 q3 q4 q5 q6
  have HST2 := Lib.hid (show StepSt w W.heap.size w1.heap.size (.slice fa fn fc) (.slice ia m ic) bx by' bz fl co false 0 (.slice ga F.length gc) (.slice ja I.length jc) F.length I.length (valRow F) (I.map (Value.int .i64)) ⟨bx, by', bz⟩ fl co W2 from ⟨HA2.out, HP2.out, HR2.out, HO2.out, HF2.out, HI2.out, HB2.out⟩)
  obtain ⟨p0, p1⟩ := HP2.out.cells
  obtain ⟨q0, q1, q2, q3, q4, q5, q6⟩ := HA2.out.cells
  obtain ⟨o0, o1, o2, o3, o4, o5, o6⟩ := HO2.out.cells
  have f0 := HO2.out.free 0
  have HW := Lib.hid hsz1
  have HC2 := Lib.hid (show W.heap.size ≤ w1.heap.size from hs1)
  obtain ⟨s0, s1, s2, s3, s4, s5, s6⟩ := HR2.out.cells
  have e0 := HR2.out.free 0
  have e1 := HR2.out.free 1
  have e2 := HR2.out.free 2
  have e3 := HR2.out.free 3
  have e4 := HR2.out.free 4
  have e5 := HR2.out.free 5
  have e6 := HR2.out.free 6
  have hd3 : w1.heap.size ≠ w.heap.size + 1 + 1 := by omega
  have hd2 : w.heap.size + 1 + 1 ≠ w1.heap.size := by omega
  clear HA2 HP2 HR2 HO2 HF2 HI2 HB2 hs2
  have hfn0 : ¬ (fn = 0) := by omega
  have hwr2 : IntKind.i64.wrap ((fn : Int) + (m : Int)) = (fn : Int) + (m : Int) := IntWalk.i64_in _ (by have := (Agg.sOk_parts HOK.out).2.1; have := HFL.out; have := HIL.out; simp [Agg.S.size] at *; omega)
  have hfn1 : ¬ ((fn : Int) = 0) := by omega
  have hne0 : ¬ ((fn : Int) + (m : Int) = 0) := by omega
  have hne1 : ¬ (fn + m = 0) := by omega
  have hne2 : ¬ ((F.length : Int) = 0) := by have := HFn.out; omega
  have HNF := Lib.hid (show ∀ g, (Value.slice ga F.length gc).ownBlock = some g → g ≠ w1.heap.size from fun g hg => by have := HGF.out g hg; omega)
  have HNI := Lib.hid (show ∀ g, (Value.slice ja I.length jc).ownBlock = some g → g ≠ w1.heap.size from fun g hg => by have := HGI.out g hg; omega)
  have HST9 := Lib.hid (HST2.out.shorter (k := F.length - 1) HW.out HC2.out HNF.out HNI.out (by omega) (by have := HFn.out; omega))
  go_wp2_with fail
  refine bodyPost_ret (by simp [results, Tryz.results44, go_sem, *]; try rfl) rfl ?_
  exact HST9.out.done (F' := F.take (F.length - 1)) HW.out (by rw [List.length_take]; omega) rfl (valRow_take F _) rfl _ _ _ _ _ _ _
end Go.Proofs.YticoalgnkddapaaGreat
