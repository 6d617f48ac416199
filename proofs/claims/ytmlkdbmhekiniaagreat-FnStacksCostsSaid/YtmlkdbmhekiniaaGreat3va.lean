/-
  Two stacks as the exact laws mark and hold them; an answer in a variable of its own.
-/
import Derived.Test.YtmlkdbmhekiniaaGreatQb
import Derived.Test.YtmlkdbmhekiniaaGreatSd
import Derived.Test.YtmlkdbmhekiniaaGreatSc
namespace Go.Proofs.YtmlkdbmhekiniaaGreat
set_option linter.unusedSimpArgs false
set_option linter.unusedVariables false
open Go.RowKit
theorem OwnV.touch {W X : World} {lo hi lo' hi' n : Nat} {v : Value} {l : List Agg.V} (h : OwnV W lo' hi' v n l) (ht : Touch lo hi W X) (hd : hi' ≤ lo ∨ hi ≤ lo') : OwnV X lo' hi' v n l := by
  obtain ⟨h1, h2, h3, h4⟩ := h
  exact ⟨own_touch h1 ht (fun g hg => by have := h4 g hg; have := (h1.lt g hg).1; omega), h2, Nat.le_trans h3 ht.2.2.2.1, h4⟩
theorem StkOwn.touch {W X : World} {lo hi lo' hi' : Nat} {v : Value} {s : Agg.S} (h : StkOwn W lo' hi' v s) (ht : Touch lo hi W X) (hd : hi' ≤ lo ∨ hi ≤ lo') : StkOwn X lo' hi' v s := by
  obtain ⟨fv, iv, hv, h1, h2⟩ := h
  exact ⟨fv, iv, hv, h1.touch ht hd, h2.touch ht hd⟩
/-- Marked stacks. -/
def markS (k : Int) (s : Agg.S) : Agg.S := ⟨seqV k s.front.length, seq (k + 3 * s.front.length) s.items.length, s.back, s.flips, s.cost⟩
def markN (s : Agg.S) : Int := 3 * (s.front.length : Int) + (s.items.length : Int)
set_option maxHeartbeats 2000000 in
theorem markStacks_own {lo hi : Nat} {v : Value} {s : Agg.S} (w : World) (k : Int) (h : StkOwn w lo hi v s) (hk0 : 0 ≤ k) (hk1 : k ≤ 1000) (hn : s.front.length + s.items.length ≤ 1048576) :
    Calls Tryz.prog 45 #[v, .int .i64 k] w fun e w' => e = .returned (.int .i64 (k + markN s)) ∧ StkOwn w' lo hi v (markS k s) ∧ Touch lo hi w w' := by
  rw [show k + markN s = k + 3 * (s.front.length : Int) + (s.items.length : Int) from by unfold markN; omega]
  obtain ⟨fv, iv, rfl, h1, h2⟩ := h
  obtain ⟨fa, fc, rfl⟩ := e_ownsRow_slice h1.1
  obtain ⟨ia, ic, rfl⟩ := e_ownsRow_slice h2.1
  have hlo := h1.2.1
  have hhi := h1.2.2.1
  have hb0 : Below w.heap.size w (w.alloc (.cells #[.slice fa s.front.length fc, .slice ia s.items.length ic, .int .i64 s.back.x, .int .i64 s.back.y, .int .i64 s.back.z, .int .i64 s.flips, .int .i64 s.cost] 59)) := (Below.refl _ _).alloc (Nat.le_refl _) _
  have HX := Lib.hid (Box7.new w 59 (.slice fa s.front.length fc) (.slice ia s.items.length ic) (.int .i64 s.back.x) (.int .i64 s.back.y) (.int .i64 s.back.z) (.int .i64 s.flips) (.int .i64 s.cost))
  have H1 := Lib.hid (h1.below hb0)
  have H2 := Lib.hid (h2.below hb0)
  have HT := Lib.hid ((Touch.refl lo hi w).call hb0)
  have HM1 := Lib.hid (fun w h => markValueS_own w k (lo := lo) (hi := hi) (n := s.front.length) (v := .slice fa s.front.length fc) (l := s.front) h hk0 (by omega) (by omega))
  have HM2 := Lib.hid (fun w h => markIntS_big w (k + 3 * (s.front.length : Int)) (lo := lo) (hi := hi) (n := s.items.length) (v := .slice ia s.items.length ic) (l := s.items) h (by omega) (by omega) (by omega))
  have HLH := Lib.hid (show lo ≤ hi ∧ hi ≤ w.heap.size from ⟨hlo, hhi⟩)
  clear h1 h2 hb0 hlo hhi hn
  go_enter Tryz.func45, Tryz.ntmps45
  go_wp2_with fail
  refine (HM1.out _ H1.out).mono ?_
  rintro e w1 ⟨rfl, r1, hg1⟩
  have hne1 : (Value.slice fa s.front.length fc).ownBlock ≠ some w.heap.size := fun e => by have := H1.out.2.2.2 _ e; have := HLH.out.2; omega
  have HX1 := Lib.hid (show Box7 w1 w.heap.size 59 (.slice fa s.front.length fc) (.slice ia s.items.length ic) (.int .i64 s.back.x) (.int .i64 s.back.y) (.int .i64 s.back.z) (.int .i64 s.flips) (.int .i64 s.cost) from HX.out.grown hg1 hne1)
  have HT1 := Lib.hid (HT.out.trans (Touch.of hg1 (fun g hg => ⟨(H1.out.1.lt g hg).1, H1.out.2.2.2 g hg⟩)))
  have hap := rows_apart H2.out.1 H1.out.1 (by decide)
  have HR2 := Lib.hid (show OwnR w1 lo hi (.slice ia s.items.length ic) s.items.length s.items from ⟨H2.out.1.kept hg1 hap, H2.out.2.1, Nat.le_trans H2.out.2.2.1 hg1.size, H2.out.2.2.2⟩)
  have HR1 := Lib.hid r1
  clear r1 hg1 hne1 hap
  obtain ⟨q0, q1, q2, q3, q4, q5, q6⟩ := HX1.out.cells
  go_wp2_with fail
  refine (HM2.out _ HR2.out).mono ?_
  rintro e w2 ⟨rfl, r2, hg2⟩
  have hap := rows_apart HR1.out.1 HR2.out.1 (by decide)
  have HT2 := Lib.hid (HT1.out.trans (Touch.of hg2 (fun g hg => ⟨(HR2.out.1.lt g hg).1, HR2.out.2.2.2 g hg⟩)))
  have HV1 := Lib.hid (show OwnV w2 lo hi (.slice fa s.front.length fc) s.front.length (seqV k s.front.length) from ⟨HR1.out.1.kept hg2 hap, HR1.out.2.1, Nat.le_trans HR1.out.2.2.1 hg2.size, HR1.out.2.2.2⟩)
  have HV2 := Lib.hid r2
  clear r2 hg2 hap
  go_wp2_with fail
  go_returns
  refine ⟨rfl, ⟨_, _, rfl, ?_, ?_⟩, HT2.out⟩
  · have := HV1.out; simpa [markS, seqV_length] using this
  · have := HV2.out; simpa [markS, seq_length] using this
set_option maxHeartbeats 2000000 in
theorem heldStacks_own {lo hi : Nat} {v : Value} {s : Agg.S} (w : World) (k : Int) (h : StkOwn w lo hi v (markS k s)) (hk0 : 0 ≤ k) (hk1 : k ≤ 1000) (hn : s.front.length + s.items.length ≤ 1048576) :
    Calls Tryz.prog 46 #[v, .int .i64 k] w fun e w' => e = .returned (.int .i64 (k + markN s)) ∧ Below w.heap.size w w' := by
  rw [show k + markN s = k + 3 * (s.front.length : Int) + (s.items.length : Int) from by unfold markN; omega]
  obtain ⟨fv, iv, rfl, h1, h2⟩ := h
  simp only [markS, seqV_length, seq_length] at h1 h2
  obtain ⟨fa, fc, rfl⟩ := e_ownsRow_slice h1.1
  obtain ⟨ia, ic, rfl⟩ := e_ownsRow_slice h2.1
  have hb0 : Below w.heap.size w (w.alloc (.cells #[.slice fa s.front.length fc, .slice ia s.items.length ic, .int .i64 s.back.x, .int .i64 s.back.y, .int .i64 s.back.z, .int .i64 s.flips, .int .i64 s.cost] 59)) := (Below.refl _ _).alloc (Nat.le_refl _) _
  have HX := Lib.hid (Box7.new w 59 (.slice fa s.front.length fc) (.slice ia s.items.length ic) (.int .i64 s.back.x) (.int .i64 s.back.y) (.int .i64 s.back.z) (.int .i64 s.flips) (.int .i64 s.cost))
  have H1 := Lib.hid (h1.below hb0)
  have H2 := Lib.hid (h2.below hb0)
  have HB := Lib.hid hb0
  have HM1 := Lib.hid (fun w h => heldValueS_own w k (lo := lo) (hi := hi) (n := s.front.length) (v := .slice fa s.front.length fc) h hk0 (by omega) (by omega))
  have HM2 := Lib.hid (fun w h => heldIntS_big w (k + 3 * (s.front.length : Int)) (lo := lo) (hi := hi) (n := s.items.length) (v := .slice ia s.items.length ic) h (by omega) (by omega) (by omega))
  have hneg : ¬ (k + 3 * (s.front.length : Int) < 0) := by omega
  have hneg2 : ¬ (k + 3 * (s.front.length : Int) + (s.items.length : Int) < 0) := by omega
  clear h1 h2 hb0 hn
  go_enter Tryz.func46, Tryz.ntmps46
  go_wp2_with fail
  refine (HM1.out _ H1.out).mono ?_
  rintro e w1 ⟨rfl, hb1⟩
  have HX1 := Lib.hid (HX.out.call hb1)
  have HR2 := Lib.hid (H2.out.below hb1)
  have HB1 := Lib.hid (HB.out.trans (hb1.mono HB.out.size))
  obtain ⟨q0, q1, q2, q3, q4, q5, q6⟩ := HX1.out.cells
  clear hb1
  go_wp2_with fail
  refine (HM2.out _ HR2.out).mono ?_
  rintro e w2 ⟨rfl, hb2⟩
  have HB2 := Lib.hid (HB1.out.trans (hb2.mono HB1.out.size))
  clear hb2
  go_wp2_with fail
  go_returns
  exact ⟨rfl, HB2.out⟩
/-- An answer in a variable of its own, between two numbers; its rows lie elsewhere between them. -/
def StkAns (lb ub : Nat) (X : World) (c : Nat) (s : Agg.S) : Prop :=
  ∃ (lo hi : Nat) (fa : Option Addr) (fc : Nat) (ia : Option Addr) (ic : Nat), lb ≤ lo ∧ hi ≤ ub ∧ lb ≤ c ∧ c < ub ∧ (c < lo ∨ hi ≤ c) ∧ ub ≤ X.heap.size ∧ Box7 X c 59 (.slice fa s.front.length fc) (.slice ia s.items.length ic) (.int .i64 s.back.x) (.int .i64 s.back.y) (.int .i64 s.back.z) (.int .i64 s.flips) (.int .i64 s.cost) ∧ StkOwn X lo hi (.agg #[.slice fa s.front.length fc, .slice ia s.items.length ic, .int .i64 s.back.x, .int .i64 s.back.y, .int .i64 s.back.z, .int .i64 s.flips, .int .i64 s.cost]) s
theorem StkAns.new {lb : Nat} {Y : World} {lo hi : Nat} {fa : Option Addr} {fc : Nat} {ia : Option Addr} {ic : Nat} {s : Agg.S} (hl : lb ≤ lo) (hlo : lo ≤ hi) (hh : hi ≤ Y.heap.size) (ho : StkOwn Y lo hi (.agg #[.slice fa s.front.length fc, .slice ia s.items.length ic, .int .i64 s.back.x, .int .i64 s.back.y, .int .i64 s.back.z, .int .i64 s.flips, .int .i64 s.cost]) s) : StkAns lb (Y.alloc (.cells #[.slice fa s.front.length fc, .slice ia s.items.length ic, .int .i64 s.back.x, .int .i64 s.back.y, .int .i64 s.back.z, .int .i64 s.flips, .int .i64 s.cost] 59)).heap.size (Y.alloc (.cells #[.slice fa s.front.length fc, .slice ia s.items.length ic, .int .i64 s.back.x, .int .i64 s.back.y, .int .i64 s.back.z, .int .i64 s.flips, .int .i64 s.cost] 59)) Y.heap.size s :=
  ⟨lo, hi, fa, fc, ia, ic, hl, by simp; omega, by omega, by simp, .inr hh, Nat.le_refl _, Box7.new _ _ _ _ _ _ _ _ _, ho.below ((Below.refl _ _).alloc (Nat.le_refl _) _)⟩
theorem StkAns.set {lb : Nat} {X : World} {lo hi c : Nat} {fa : Option Addr} {fc : Nat} {ia : Option Addr} {ic : Nat} {s : Agg.S} {u0 u1 u2 u3 u4 u5 u6 : Value} (hc : lb ≤ c) (hcl : c < lo) (hh : hi ≤ X.heap.size) (hb : Box7 X c 59 u0 u1 u2 u3 u4 u5 u6) (ho : StkOwn X lo hi (.agg #[.slice fa s.front.length fc, .slice ia s.items.length ic, .int .i64 s.back.x, .int .i64 s.back.y, .int .i64 s.back.z, .int .i64 s.flips, .int .i64 s.cost]) s) :
    StkAns lb (((((((X.setCell ⟨c, 0, none⟩ (.slice fa s.front.length fc)).setCell ⟨c, 1, none⟩ (.slice ia s.items.length ic)).setCell ⟨c, 2, none⟩ (.int .i64 s.back.x)).setCell ⟨c, 3, none⟩ (.int .i64 s.back.y)).setCell ⟨c, 4, none⟩ (.int .i64 s.back.z)).setCell ⟨c, 5, none⟩ (.int .i64 s.flips)).setCell ⟨c, 6, none⟩ (.int .i64 s.cost)).heap.size (((((((X.setCell ⟨c, 0, none⟩ (.slice fa s.front.length fc)).setCell ⟨c, 1, none⟩ (.slice ia s.items.length ic)).setCell ⟨c, 2, none⟩ (.int .i64 s.back.x)).setCell ⟨c, 3, none⟩ (.int .i64 s.back.y)).setCell ⟨c, 4, none⟩ (.int .i64 s.back.z)).setCell ⟨c, 5, none⟩ (.int .i64 s.flips)).setCell ⟨c, 6, none⟩ (.int .i64 s.cost)) c s :=
  ⟨lo, hi, fa, fc, ia, ic, by omega, by rw [size_sets7]; exact hh, hc, by rw [size_sets7]; exact hb.lt, .inl hcl, Nat.le_refl _, ((((((hb.set0 _).set1 _).set2 _).set3 _).set4 _).set5 _).set6 _, ho.set7 (.inl hcl) _ _ _ _ _ _ _⟩
theorem StkAns.touch {X Y : World} {c lo hi lb ub : Nat} {s : Agg.S} (h : StkAns lb ub X c s) (ht : Touch lo hi X Y) (hw : hi ≤ lb ∨ ub ≤ lo) : StkAns lb ub Y c s := by
  obtain ⟨l, g, fa, fc, ia, ic, h1, h2, h3, h4, h5, h6, h7, h8⟩ := h
  exact ⟨l, g, fa, fc, ia, ic, h1, h2, h3, h4, h5, Nat.le_trans h6 ht.2.2.2.1, (ht.2.2.2.2 c h7.lt (by omega)).trans h7, h8.touch ht (by omega)⟩
theorem StkAns.call {X Y : World} {c lb ub : Nat} {s : Agg.S} (h : StkAns lb ub X c s) (hb : Below X.heap.size X Y) : StkAns lb ub Y c s :=
  h.touch (lo := ub) (hi := ub) ((Touch.refl _ _ X).call hb) (.inr (Nat.le_refl _))
end Go.Proofs.YtmlkdbmhekiniaaGreat
