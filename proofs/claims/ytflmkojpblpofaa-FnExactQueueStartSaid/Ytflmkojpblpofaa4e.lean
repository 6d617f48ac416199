/-
  Queues as the exact laws take, copy and compare them.
-/
import Derived.Test.Ytflmkojpblpofaa3e
import Derived.Test.Ytflmkojpblpofaa4m
import Derived.Deep.DeepCutAuto
namespace Go.Proofs.Ytflmkojpblpofaa
set_option linter.unusedSimpArgs false
set_option linter.unusedVariables false
open Go.RowKit
/-- A queue whose two rows are the call's own. -/
def QueOwn (w : World) (lo hi : Nat) (v : Value) (q : Agg.Q) : Prop :=
  ∃ iv fv, v = .agg #[iv, fv, .int .i64 q.l, .int .i64 q.r, .int .i64 q.a, .int .i64 q.b, .int .i64 q.cost] ∧ OwnR w lo hi iv q.items.length q.items ∧ OwnV w lo hi fv q.aggs.length q.aggs
theorem QueOwn.kept {w w' : World} {lo hi : Nat} {v : Value} {q : Agg.Q} {row : Option Nat} (h : QueOwn w lo hi v q) (hg : w.grownBy w' row) (hr : ∀ j, row = some j → j < lo ∨ hi ≤ j) : QueOwn w' lo hi v q := by
  obtain ⟨iv, fv, hv, h1, h2⟩ := h
  exact ⟨iv, fv, hv, h1.kept hg hr, h2.kept hg hr⟩
theorem QueOwn.below {w w' : World} {lo hi : Nat} {v : Value} {q : Agg.Q} (h : QueOwn w lo hi v q) (hb : Below w.heap.size w w') : QueOwn w' lo hi v q :=
  h.kept (row := none) (Below.grownNone hb _) (fun j e => by cases e)
/-- As an argument: its slices written out, and what they read as. -/
theorem QueOwn.read {w : World} {lo hi : Nat} {v : Value} {q : Agg.Q} (h : QueOwn w lo hi v q) : ∃ ia ic fa fc, v = .agg #[.slice ia q.items.length ic, .slice fa q.aggs.length fc, .int .i64 q.l, .int .i64 q.r, .int .i64 q.a, .int .i64 q.b, .int .i64 q.cost] ∧ Nums .i64 w ia q.items.length ic q.items ∧ Vals w fa q.aggs.length fc q.aggs := by
  obtain ⟨iv, fv, rfl, h1, h2⟩ := h
  obtain ⟨ia, ic, rfl, hI, -⟩ := h1.nums
  obtain ⟨fa, fc, rfl, hF⟩ := h2.vals
  exact ⟨ia, ic, fa, fc, rfl, hI, hF⟩
/-- A queue is made anew. -/
def MadeQue (q : Agg.Q) (w : World) (e : Ending) (w' : World) : Prop := ∃ v, e = .returned v ∧ QueOwn w' w.heap.size w'.heap.size v q ∧ Below w.heap.size w w'
theorem que_nil (w : World) : QueOwn w w.heap.size w.heap.size (.agg #[.slice none 0 0, .slice none 0 0, .int .i64 0, .int .i64 0, .int .i64 0, .int .i64 0, .int .i64 0]) Agg.zeroQ :=
  ⟨_, _, rfl, ⟨World.ownsRow_nil _ _ _ _, Nat.le_refl _, Nat.le_refl _, fun g hg => by simp [Value.ownBlock] at hg⟩, ⟨World.ownsRow_nil _ _ _ _, Nat.le_refl _, Nat.le_refl _, fun g hg => by simp [Value.ownBlock] at hg⟩⟩
theorem e_ownsRow_set {w : World} {base e size n d o : Nat} {v u : Value} {xs : List Value} (h : w.ownsRow base e size v n xs) (hd : d < base) : (w.setCell ⟨d, o, none⟩ u).ownsRow base e size v n xs := by
  refine h.kept (row := some d) ⟨rfl, rfl, rfl, by simp [World.setCell], fun k hk hne => Below.heap_setCell _ _ _ _ (fun e => hne (by rw [e]))⟩ ?_
  cases hv : v.ownBlock with
  | none => exact .inl rfl
  | some g => exact .inr (fun e => by have := (h.lt g hv).1; cases e; omega)
theorem szVq_any (a : Option Addr) (n cap : Nat) (left : Int) (w : World) (hn : n ≤ 9223372036854775807) (h0 : 0 ≤ left) (h1 : left ≤ 1048576) :
    Calls Try.prog 23 #[.slice a n cap, .int .i64 left] w fun e w' => e = .returned (.int .i64 (if left < n then -1 else left - n)) ∧ w = w' := by
  by_cases h : left < (n : Int)
  · rw [if_pos h]
    have h2 : left - (n : Int) < 0 := by omega
    go_enter Try.func23, Try.ntmps23
    go_wp2
    go_returns
    exact ⟨rfl, rfl⟩
  · rw [if_neg h]
    have h2 : ¬ (left - (n : Int) < 0) := by omega
    go_enter Try.func23, Try.ntmps23
    go_wp2
    go_returns
    exact ⟨rfl, rfl⟩
theorem szQueue_any (ia : Option Addr) (m ic : Nat) (fa : Option Addr) (fn fc : Nat) (pl pr pa pb co : Int) (w : World) (hm : m ≤ 9223372036854775807) (hn : fn ≤ 9223372036854775807) :
    Calls Try.prog 10 #[.agg #[.slice ia m ic, .slice fa fn fc, .int .i64 pl, .int .i64 pr, .int .i64 pa, .int .i64 pb, .int .i64 co], .int .i64 1048576] w fun e w' => e = .returned (.int .i64 (if m + fn ≤ 1048576 then 1048576 - (m : Int) - (fn : Int) else -1)) ∧ Below w.heap.size w w' := by
  have hS := fun w => szIntS_any ia m ic 1048576 w hm (by omega) (by omega)
  by_cases h : (1048576 : Int) < (m : Int)
  · rw [if_neg (show ¬ m + fn ≤ 1048576 by omega)]
    rw [if_pos h] at hS
    have HS := Lib.hid hS
    clear hS
    go_enter Try.func10, Try.ntmps10
    go_wp2_with fail
    refine (HS.out _).mono ?_
    rintro e w1 ⟨rfl, rfl⟩
    go_wp2_with fail
    go_returns
    exact ⟨rfl, (by first | (go_grown; done) | (refine below_drewN ?_ _; go_grown; done) | (refine (below_drewN _ ?_); go_grown; done))⟩
  · rw [if_neg h] at hS
    have HS := Lib.hid hS
    have h0 : 0 ≤ 1048576 - (m : Int) := by omega
    have h0' : ¬ (1048576 - (m : Int) < 0) := by omega
    have hT := fun w => szVq_any fa fn fc (1048576 - (m : Int)) w hn h0 (by omega)
    by_cases h2 : 1048576 - (m : Int) < (fn : Int)
    · rw [if_neg (show ¬ m + fn ≤ 1048576 by omega)]
      rw [if_pos h2] at hT
      have HT := Lib.hid hT
      clear hS hT
      go_enter Try.func10, Try.ntmps10
      go_wp2_with fail
      refine (HS.out _).mono ?_
      rintro e w1 ⟨rfl, rfl⟩
      go_wp2_with fail
      refine (HT.out _).mono ?_
      rintro e w1 ⟨rfl, rfl⟩
      go_wp2_with fail
      go_returns
      exact ⟨rfl, (by first | (go_grown; done) | (refine below_drewN ?_ _; go_grown; done) | (refine (below_drewN _ ?_); go_grown; done))⟩
    · rw [if_pos (show m + fn ≤ 1048576 by omega)]
      rw [if_neg h2] at hT
      have HT := Lib.hid hT
      clear hS hT
      have h3 : ¬ (1048576 - (m : Int) - (fn : Int) < 0) := by omega
      go_enter Try.func10, Try.ntmps10
      go_wp2_with fail
      refine (HS.out _).mono ?_
      rintro e w1 ⟨rfl, rfl⟩
      go_wp2_with fail
      refine (HT.out _).mono ?_
      rintro e w1 ⟨rfl, rfl⟩
      go_wp2_with fail
      go_returns
      exact ⟨rfl, (by first | (go_grown; done) | (refine below_drewN ?_ _; go_grown; done) | (refine (below_drewN _ ?_); go_grown; done))⟩
set_option maxRecDepth 8000 in
set_option maxHeartbeats 4000000 in
theorem toQueue_own (ia : Option Addr) (m ic : Nat) (fa : Option Addr) (fn fc : Nat) (pl pr pa pb co : Int) (F : List Agg.V) (I : List Int) (w : World) (hF : Vals w fa fn fc F) (hI : Nums .i64 w ia m ic I) (h1 : fn ≤ 1048576) (h2 : m ≤ 1048576) :
    Calls Try.prog 12 #[.agg #[.slice ia m ic, .slice fa fn fc, .int .i64 pl, .int .i64 pr, .int .i64 pa, .int .i64 pb, .int .i64 co]] w (MadeQue ⟨I, F, pl, pr, pa, pb, co⟩ w) := by
  have HFL := Lib.hid (show F.length = fn from hF.1)
  have HIL := Lib.hid (show I.length = m from hI.1)
  have HF := Lib.hid hF
  have HI := Lib.hid hI
  obtain ⟨W, hW⟩ : ∃ W, W = (((w.alloc (.cells #[.slice ia m ic, .slice fa fn fc, .int .i64 pl, .int .i64 pr, .int .i64 pa, .int .i64 pb, .int .i64 co] 33)).alloc (.cells #[.slice none 0 0, .slice none 0 0, .int .i64 0, .int .i64 0, .int .i64 0, .int .i64 0, .int .i64 0] 25)).alloc (.cells #[.slice none 0 0, .slice none 0 0, .int .i64 0, .int .i64 0, .int .i64 0, .int .i64 0, .int .i64 0] 25)) := ⟨_, rfl⟩
  have HA := Lib.hid (show Box7 W w.heap.size 33 (.slice ia m ic) (.slice fa fn fc) (.int .i64 pl) (.int .i64 pr) (.int .i64 pa) (.int .i64 pb) (.int .i64 co) from by rw [hW]; exact ((Box7.new w _ _ _ _ _ _ _ _).alloc _).alloc _)
  have HR := Lib.hid (show Box7 W (w.heap.size + 1) 25 (.slice none 0 0) (.slice none 0 0) (.int .i64 0) (.int .i64 0) (.int .i64 0) (.int .i64 0) (.int .i64 0) from by rw [hW]; exact (Box7.new1 (Y := w.alloc _) _ _ _ _ _ _ _ _ (by simp)).alloc _)
  have HO := Lib.hid (show Box7 W (w.heap.size + 2) 25 (.slice none 0 0) (.slice none 0 0) (.int .i64 0) (.int .i64 0) (.int .i64 0) (.int .i64 0) (.int .i64 0) from by rw [hW]; exact Box7.new1 (Y := (w.alloc _).alloc _) _ _ _ _ _ _ _ _ (by simp))
  have HB := Lib.hid (show Below w.heap.size w W from by rw [hW]; exact (((Below.refl _ _).alloc (Nat.le_refl _) _).alloc (by simp) _).alloc (by simp; omega) _)
  have hsz : W.heap.size = w.heap.size + 3 := by rw [hW]; simp
  have HSZ := Lib.hid hsz
  clear hF hI
  have hbase : w.heap.size + 2 < W.heap.size := by rw [hsz]; omega
  have HBS := Lib.hid hbase
  clear hsz HSZ hbase
  go_enter Try.func12, Try.ntmps12
  go_wp2_with fail
  rw [← hW]
  clear hW
  refine (toIntS_own _ _ _ I _ (HI.out.below HB.out) h2).mono ?_
  rintro e w1 ⟨v1, rfl, ho1, hb1⟩
  obtain ⟨a1, c1, rfl⟩ := e_ownsRow_slice ho1.1
  have HA1 := Lib.hid (HA.out.call hb1)
  have HR1 := Lib.hid (HR.out.call hb1)
  have HO1 := Lib.hid (HO.out.call hb1)
  have HB1 := Lib.hid (HB.out.trans (hb1.mono HB.out.size))
  have HJ1 := Lib.hid (owns_lower ho1.1 (Nat.le_refl W.heap.size))
  have HZ1 := Lib.hid hb1.size
  have hz1 : w.heap.size + 2 < w1.heap.size := HO1.out.lt
  have hz1' : w.heap.size < w1.heap.size := by omega
  obtain ⟨q0, q1, q2, q3, q4, q5, q6⟩ := HA1.out.cells
  obtain ⟨p0, p1, p2, p3, p4, p5, p6⟩ := HO1.out.cells
  have g1 := HO1.out.free
  clear hb1 ho1 HA HR HO HB
  go_wp2_with fail
  obtain ⟨X1, hX1⟩ : ∃ X1, X1 = w1.setCell ⟨w.heap.size + 2, 0, none⟩ (.slice a1 m c1) := ⟨_, rfl⟩
  have HB2 := Lib.hid (show Below w.heap.size w X1 from by rw [hX1]; exact HB1.out.setCell (by simp) _)
  have HA2 := Lib.hid (show Box7 X1 w.heap.size 33 (.slice ia m ic) (.slice fa fn fc) (.int .i64 pl) (.int .i64 pr) (.int .i64 pa) (.int .i64 pb) (.int .i64 co) from by rw [hX1]; exact HA1.out.other (by omega) _ _)
  have HR2 := Lib.hid (show Box7 X1 (w.heap.size + 1) 25 (.slice none 0 0) (.slice none 0 0) (.int .i64 0) (.int .i64 0) (.int .i64 0) (.int .i64 0) (.int .i64 0) from by rw [hX1]; exact HR1.out.other (by omega) _ _)
  have HO2 := Lib.hid (show Box7 X1 (w.heap.size + 2) 25 (.slice a1 m c1) (.slice none 0 0) (.int .i64 0) (.int .i64 0) (.int .i64 0) (.int .i64 0) (.int .i64 0) from by rw [hX1]; exact HO1.out.set0 _)
  have HJ2 := Lib.hid (show X1.ownsRow W.heap.size 3 1 (.slice a1 m c1) m (I.map (Value.int .i64)) from by rw [hX1]; exact e_ownsRow_set HJ1.out HBS.out)
  have HZ2 := Lib.hid (show W.heap.size ≤ X1.heap.size from by rw [hX1, size_set]; exact HZ1.out)
  rw [← hX1]
  clear hX1 HB1 HA1 HR1 HO1 HJ1 HZ1 q0 q1 q2 q3 q4 q5 q6 p0 p1 p2 p3 p4 p5 p6 g1 hz1 hz1'
  refine (toValueS_own _ _ _ F _ (HF.out.below HB2.out) h1).mono ?_
  rintro e w2 ⟨v2, rfl, ho2, hb2⟩
  obtain ⟨a2, c2, rfl⟩ := e_ownsRow_slice ho2.1
  have HA3 := Lib.hid (HA2.out.call hb2)
  have HR3 := Lib.hid (HR2.out.call hb2)
  have HO3 := Lib.hid (HO2.out.call hb2)
  have HB3 := Lib.hid (HB2.out.trans (hb2.mono HB2.out.size))
  have HJ3 := Lib.hid (HJ2.out.kept (Below.grownNone hb2 none) (by cases hv : (Value.slice a1 m c1).ownBlock <;> simp))
  have HG3 := Lib.hid (owns_lower ho2.1 HZ2.out)
  have hz2 : w.heap.size + 2 < w2.heap.size := HO3.out.lt
  have hz2' : w.heap.size < w2.heap.size := by omega
  obtain ⟨q0, q1, q2, q3, q4, q5, q6⟩ := HA3.out.cells
  obtain ⟨p0, p1, p2, p3, p4, p5, p6⟩ := HO3.out.cells
  have g2 := HO3.out.free
  clear hb2 ho2 HA2 HR2 HO2 HB2 HJ2
  go_upto_region 7 with (fail)
  obtain ⟨X2, hX2⟩ : ∃ X2, X2 = (((w2.setCell ⟨w.heap.size + 2, 1, none⟩ (.slice a2 fn c2)).setCell ⟨w.heap.size + 2, 2, none⟩ (.int .i64 pl)).setCell ⟨w.heap.size + 2, 3, none⟩ (.int .i64 pr)).setCell ⟨w.heap.size + 2, 4, none⟩ (.int .i64 pa) := ⟨_, rfl⟩
  have HB4 := Lib.hid (show Below w.heap.size w X2 from by rw [hX2]; exact (((HB3.out.setCell (by simp) _).setCell (by simp) _).setCell (by simp) _).setCell (by simp) _)
  have HA4 := Lib.hid (show Box7 X2 w.heap.size 33 (.slice ia m ic) (.slice fa fn fc) (.int .i64 pl) (.int .i64 pr) (.int .i64 pa) (.int .i64 pb) (.int .i64 co) from by rw [hX2]; exact (((HA3.out.other (by omega) _ _).other (by omega) _ _).other (by omega) _ _).other (by omega) _ _)
  have HR4 := Lib.hid (show Box7 X2 (w.heap.size + 1) 25 (.slice none 0 0) (.slice none 0 0) (.int .i64 0) (.int .i64 0) (.int .i64 0) (.int .i64 0) (.int .i64 0) from by rw [hX2]; exact (((HR3.out.other (by omega) _ _).other (by omega) _ _).other (by omega) _ _).other (by omega) _ _)
  have HO4 := Lib.hid (show Box7 X2 (w.heap.size + 2) 25 (.slice a1 m c1) (.slice a2 fn c2) (.int .i64 pl) (.int .i64 pr) (.int .i64 pa) (.int .i64 0) (.int .i64 0) from by rw [hX2]; exact (((HO3.out.set1 _).set2 _).set3 _).set4 _)
  have HJ4 := Lib.hid (show X2.ownsRow W.heap.size 3 1 (.slice a1 m c1) m (I.map (Value.int .i64)) from by rw [hX2]; exact e_ownsRow_set (e_ownsRow_set (e_ownsRow_set (e_ownsRow_set HJ3.out HBS.out) HBS.out) HBS.out) HBS.out)
  have HG4 := Lib.hid (show X2.ownsRow W.heap.size 48 3 (.slice a2 fn c2) fn (valRow F) from by rw [hX2]; exact e_ownsRow_set (e_ownsRow_set (e_ownsRow_set (e_ownsRow_set HG3.out HBS.out) HBS.out) HBS.out) HBS.out)
  rw [← hX2]
  clear hX2 HB3 HA3 HR3 HO3 HJ3 HG3 q0 q1 q2 q3 q4 q5 q6 p0 p1 p2 p3 p4 p5 p6 g2 hz2 hz2'
  obtain ⟨q0, q1, q2, q3, q4, q5, q6⟩ := HA4.out.cells
  obtain ⟨p0, p1, p2, p3, p4, p5, p6⟩ := HO4.out.cells
  have g2 := HO4.out.free
  go_upto_region 9 with (fail)
  obtain ⟨X3, hX3⟩ : ∃ X3, X3 = (X2.setCell ⟨w.heap.size + 2, 5, none⟩ (.int .i64 pb)).setCell ⟨w.heap.size + 2, 6, none⟩ (.int .i64 co) := ⟨_, rfl⟩
  have HB5 := Lib.hid (show Below w.heap.size w X3 from by rw [hX3]; exact (HB4.out.setCell (by simp) _).setCell (by simp) _)
  have HR5 := Lib.hid (show Box7 X3 (w.heap.size + 1) 25 (.slice none 0 0) (.slice none 0 0) (.int .i64 0) (.int .i64 0) (.int .i64 0) (.int .i64 0) (.int .i64 0) from by rw [hX3]; exact (HR4.out.other (by omega) _ _).other (by omega) _ _)
  have HO5 := Lib.hid (show Box7 X3 (w.heap.size + 2) 25 (.slice a1 m c1) (.slice a2 fn c2) (.int .i64 pl) (.int .i64 pr) (.int .i64 pa) (.int .i64 pb) (.int .i64 co) from by rw [hX3]; exact (HO4.out.set5 _).set6 _)
  have HJ5 := Lib.hid (show X3.ownsRow W.heap.size 3 1 (.slice a1 m c1) m (I.map (Value.int .i64)) from by rw [hX3]; exact e_ownsRow_set (e_ownsRow_set HJ4.out HBS.out) HBS.out)
  have HG5 := Lib.hid (show X3.ownsRow W.heap.size 48 3 (.slice a2 fn c2) fn (valRow F) from by rw [hX3]; exact e_ownsRow_set (e_ownsRow_set HG4.out HBS.out) HBS.out)
  rw [← hX3]
  clear hX3 HB4 HA4 HR4 HO4 HJ4 HG4 q0 q1 q2 q3 q4 q5 q6 p0 p1 p2 p3 p4 p5 p6 g2
  obtain ⟨p0, p1, p2, p3, p4, p5, p6⟩ := HO5.out.cells
  obtain ⟨r0, r1, r2, r3, r4, r5, r6⟩ := HR5.out.cells
  have g3 := HR5.out.free
  go_wp2_with fail
  refine bodyPost_ret (by simp [results, Try.results12, go_sem, *]; try rfl) rfl ?_
  have hf := HFL.out
  have hi2 := HIL.out
  subst hf
  subst hi2
  have hbl : w.heap.size + 1 < W.heap.size := by have := HBS.out; omega
  have hWW : Below w.heap.size w (((((((X3.setCell ⟨w.heap.size + 1, 0, none⟩ (.slice a1 I.length c1)).setCell ⟨w.heap.size + 1, 1, none⟩ (.slice a2 F.length c2)).setCell ⟨w.heap.size + 1, 2, none⟩ (.int .i64 pl)).setCell ⟨w.heap.size + 1, 3, none⟩ (.int .i64 pr)).setCell ⟨w.heap.size + 1, 4, none⟩ (.int .i64 pa)).setCell ⟨w.heap.size + 1, 5, none⟩ (.int .i64 pb)).setCell ⟨w.heap.size + 1, 6, none⟩ (.int .i64 co)) := ((((((HB5.out.setCell (by simp) _).setCell (by simp) _).setCell (by simp) _).setCell (by simp) _).setCell (by simp) _).setCell (by simp) _).setCell (by simp) _
  have hlow : w.heap.size ≤ W.heap.size := by omega
  refine ⟨_, rfl, ⟨_, _, rfl, ⟨owns_lower ?_ hlow, hWW.size, Nat.le_refl _, fun g hg => ?_⟩, ⟨owns_lower ?_ hlow, hWW.size, Nat.le_refl _, fun g hg => ?_⟩⟩, hWW⟩
  · exact e_ownsRow_set (e_ownsRow_set (e_ownsRow_set (e_ownsRow_set (e_ownsRow_set (e_ownsRow_set (e_ownsRow_set HJ5.out hbl) hbl) hbl) hbl) hbl) hbl) hbl
  · exact ((e_ownsRow_set (e_ownsRow_set (e_ownsRow_set (e_ownsRow_set (e_ownsRow_set (e_ownsRow_set (e_ownsRow_set HJ5.out hbl) hbl) hbl) hbl) hbl) hbl) hbl).lt g hg).2
  · exact e_ownsRow_set (e_ownsRow_set (e_ownsRow_set (e_ownsRow_set (e_ownsRow_set (e_ownsRow_set (e_ownsRow_set HG5.out hbl) hbl) hbl) hbl) hbl) hbl) hbl
  · exact ((e_ownsRow_set (e_ownsRow_set (e_ownsRow_set (e_ownsRow_set (e_ownsRow_set (e_ownsRow_set (e_ownsRow_set HG5.out hbl) hbl) hbl) hbl) hbl) hbl) hbl).lt g hg).2
set_option maxRecDepth 8000 in
set_option maxHeartbeats 4000000 in
theorem eqQueue_own {lo hi lo' hi' : Nat} {v v' : Value} {s : Agg.Q} (w : World) (h : QueOwn w lo hi v s) (h' : QueOwn w lo' hi' v' s) :
    Calls Try.prog 7 #[v, v'] w fun e w' => e = .returned (.bool true) ∧ Below w.heap.size w w' := by
  obtain ⟨ia, ic, fa, fc, rfl, hI, hF⟩ := h.read
  obtain ⟨ia', ic', fa', fc', rfl, hI', hF'⟩ := h'.read
  obtain ⟨I, F, pl, pr, pa, pb, co⟩ := s
  simp only at hF hI hF' hI'
  have HF := Lib.hid hF
  have HI := Lib.hid hI
  have HF' := Lib.hid hF'
  have HI' := Lib.hid hI'
  clear h h' hF hI hF' hI'
  obtain ⟨fn, hfn⟩ : ∃ fn, fn = F.length := ⟨_, rfl⟩
  obtain ⟨m, hm⟩ : ∃ m, m = I.length := ⟨_, rfl⟩
  rw [← hfn] at HF HF'
  rw [← hm] at HI HI'
  simp only [← hfn, ← hm]
  have HFN := Lib.hid hfn
  have HM := Lib.hid hm
  clear hfn hm
  obtain ⟨W, hW⟩ : ∃ W, W = ((w.alloc (.cells #[.slice ia m ic, .slice fa fn fc, .int .i64 pl, .int .i64 pr, .int .i64 pa, .int .i64 pb, .int .i64 co] 25)).alloc (.cells #[.slice ia' m ic', .slice fa' fn fc', .int .i64 pl, .int .i64 pr, .int .i64 pa, .int .i64 pb, .int .i64 co] 25)) := ⟨_, rfl⟩
  have HA := Lib.hid (show Box7 W w.heap.size 25 (.slice ia m ic) (.slice fa fn fc) (.int .i64 pl) (.int .i64 pr) (.int .i64 pa) (.int .i64 pb) (.int .i64 co) from by rw [hW]; exact (Box7.new w _ _ _ _ _ _ _ _).alloc _)
  have HR := Lib.hid (show Box7 W (w.heap.size + 1) 25 (.slice ia' m ic') (.slice fa' fn fc') (.int .i64 pl) (.int .i64 pr) (.int .i64 pa) (.int .i64 pb) (.int .i64 co) from by rw [hW]; exact Box7.new1 (Y := w.alloc _) _ _ _ _ _ _ _ _ (by simp))
  have HB := Lib.hid (show Below w.heap.size w W from by rw [hW]; exact ((Below.refl _ _).alloc (Nat.le_refl _) _).alloc (by simp) _)
  go_enter Try.func7, Try.ntmps7
  go_wp2_with fail
  rw [← hW]
  clear hW
  refine (eqIntS_same _ _ _ _ _ _ I _ (HI.out.below HB.out) (HI'.out.below HB.out)).mono ?_
  rintro e w1 ⟨rfl, hb1⟩
  have HA1 := Lib.hid (HA.out.call hb1)
  have HR1 := Lib.hid (HR.out.call hb1)
  have HB1 := Lib.hid (HB.out.trans (hb1.mono HB.out.size))
  obtain ⟨q0, q1, q2, q3, q4, q5, q6⟩ := HA1.out.cells
  obtain ⟨r0, r1, r2, r3, r4, r5, r6⟩ := HR1.out.cells
  clear hb1 HA HR HB
  go_wp2_with fail
  refine (eqValueS_same _ _ _ _ _ _ F _ (HF.out.below HB1.out) (HF'.out.below HB1.out)).mono ?_
  rintro e w2 ⟨rfl, hb2⟩
  have HA2 := Lib.hid (HA1.out.call hb2)
  have HR2 := Lib.hid (HR1.out.call hb2)
  have HB2 := Lib.hid (HB1.out.trans (hb2.mono HB1.out.size))
  clear hb2 HA1 HR1 HB1 q0 q1 q2 q3 q4 q5 q6 r0 r1 r2 r3 r4 r5 r6
  obtain ⟨q0, q1, q2, q3, q4, q5, q6⟩ := HA2.out.cells
  obtain ⟨r0, r1, r2, r3, r4, r5, r6⟩ := HR2.out.cells
  go_wp2_with fail
  go_returns
  exact ⟨rfl, HB2.out⟩
end Go.Proofs.Ytflmkojpblpofaa
