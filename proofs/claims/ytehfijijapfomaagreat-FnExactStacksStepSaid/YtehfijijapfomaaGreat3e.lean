/-
  Two stacks as the exact laws take, copy, compare, mark and hold them.
-/
import Derived.Test.YtehfijijapfomaaGreatRw
import Derived.Test.YtehfijijapfomaaGreatVs
import Derived.Test.YtehfijijapfomaaGreat2x
import Derived.Deep.DeepMust
namespace Go.Proofs.YtehfijijapfomaaGreat
set_option linter.unusedSimpArgs false
set_option linter.unusedVariables false
open Go.RowKit
theorem szIntS_any (a : Option Addr) (n cap : Nat) (left : Int) (w : World) (hn : n ≤ 9223372036854775807) (h0 : 0 ≤ left) (h1 : left ≤ 1048576) :
    Calls Tryz.prog 33 #[.slice a n cap, .int .i64 left] w fun e w' => e = .returned (.int .i64 (if left < n then -1 else left - n)) ∧ w = w' := by
  by_cases h : left < (n : Int)
  · rw [if_pos h]
    have h2 : left - (n : Int) < 0 := by omega
    go_enter Tryz.func33, Tryz.ntmps33
    go_wp2
    go_returns
    exact ⟨rfl, rfl⟩
  · rw [if_neg h]
    have h2 : ¬ (left - (n : Int) < 0) := by omega
    go_enter Tryz.func33, Tryz.ntmps33
    go_wp2
    go_returns
    exact ⟨rfl, rfl⟩
theorem szV_any (a : Option Addr) (n cap : Nat) (left : Int) (w : World) (hn : n ≤ 9223372036854775807) (h0 : 0 ≤ left) (h1 : left ≤ 1048576) :
    Calls Tryz.prog 52 #[.slice a n cap, .int .i64 left] w fun e w' => e = .returned (.int .i64 (if left < n then -1 else left - n)) ∧ w = w' := by
  by_cases h : left < (n : Int)
  · rw [if_pos h]
    have h2 : left - (n : Int) < 0 := by omega
    go_enter Tryz.func52, Tryz.ntmps52
    go_wp2
    go_returns
    exact ⟨rfl, rfl⟩
  · rw [if_neg h]
    have h2 : ¬ (left - (n : Int) < 0) := by omega
    go_enter Tryz.func52, Tryz.ntmps52
    go_wp2
    go_returns
    exact ⟨rfl, rfl⟩
theorem szStacks_any (fa : Option Addr) (fn fc : Nat) (ia : Option Addr) (m ic : Nat) (bx by' bz fl co : Int) (w : World) (hn : fn ≤ 9223372036854775807) (hm : m ≤ 9223372036854775807) :
    Calls Tryz.prog 24 #[.agg #[.slice fa fn fc, .slice ia m ic, .int .i64 bx, .int .i64 by', .int .i64 bz, .int .i64 fl, .int .i64 co], .int .i64 1048576] w fun e w' => e = .returned (.int .i64 (if fn + m ≤ 1048576 then 1048576 - (fn : Int) - (m : Int) else -1)) ∧ Below w.heap.size w w' := by
  have hS := fun w => szV_any fa fn fc 1048576 w hn (by omega) (by omega)
  by_cases h : (1048576 : Int) < (fn : Int)
  · rw [if_neg (show ¬ fn + m ≤ 1048576 by omega)]
    rw [if_pos h] at hS
    have HS := Lib.hid hS
    clear hS
    go_enter Tryz.func24, Tryz.ntmps24
    go_wp2_with fail
    refine (HS.out _).mono ?_
    rintro e w1 ⟨rfl, rfl⟩
    go_wp2_with fail
    go_returns
    exact ⟨rfl, (by first | (go_grown; done) | (refine below_drewN ?_ _; go_grown; done) | (refine (below_drewN _ ?_); go_grown; done))⟩
  · rw [if_neg h] at hS
    have HS := Lib.hid hS
    have h0 : 0 ≤ 1048576 - (fn : Int) := by omega
    have h0' : ¬ (1048576 - (fn : Int) < 0) := by omega
    have hT := fun w => szIntS_any ia m ic (1048576 - (fn : Int)) w hm h0 (by omega)
    by_cases h2 : 1048576 - (fn : Int) < (m : Int)
    · rw [if_neg (show ¬ fn + m ≤ 1048576 by omega)]
      rw [if_pos h2] at hT
      have HT := Lib.hid hT
      clear hS hT
      go_enter Tryz.func24, Tryz.ntmps24
      go_wp2_with fail
      refine (HS.out _).mono ?_
      rintro e w1 ⟨rfl, rfl⟩
      go_wp2_with fail
      refine (HT.out _).mono ?_
      rintro e w1 ⟨rfl, rfl⟩
      go_wp2_with fail
      go_returns
      exact ⟨rfl, (by first | (go_grown; done) | (refine below_drewN ?_ _; go_grown; done) | (refine (below_drewN _ ?_); go_grown; done))⟩
    · rw [if_pos (show fn + m ≤ 1048576 by omega)]
      rw [if_neg h2] at hT
      have HT := Lib.hid hT
      clear hS hT
      have h3 : ¬ (1048576 - (fn : Int) - (m : Int) < 0) := by omega
      go_enter Tryz.func24, Tryz.ntmps24
      go_wp2_with fail
      refine (HS.out _).mono ?_
      rintro e w1 ⟨rfl, rfl⟩
      go_wp2_with fail
      refine (HT.out _).mono ?_
      rintro e w1 ⟨rfl, rfl⟩
      go_wp2_with fail
      go_returns
      exact ⟨rfl, (by first | (go_grown; done) | (refine below_drewN ?_ _; go_grown; done) | (refine (below_drewN _ ?_); go_grown; done))⟩
/-- Stacks are made anew. -/
def MadeStacks (s : Agg.S) (w : World) (e : Ending) (w' : World) : Prop := ∃ v, e = .returned v ∧ StkOwn w' w.heap.size w'.heap.size v s ∧ Below w.heap.size w w'
theorem e_ownsRow_slice {w : World} {base e size n : Nat} {v : Value} {xs : List Value} (h : w.ownsRow base e size v n xs) : ∃ a c, v = .slice a n c := by
  rcases h.2 with ⟨rfl, rfl⟩ | ⟨g, cap, cur, rfl, -⟩
  · exact ⟨none, 0, rfl⟩
  · exact ⟨_, cap, rfl⟩
theorem OwnV.set {w : World} {lo hi n d o : Nat} {v u : Value} {l : List Agg.V} (h : OwnV w lo hi v n l) (hd : d < lo ∨ hi ≤ d) : OwnV (w.setCell ⟨d, o, none⟩ u) lo hi v n l :=
  h.kept (row := some d) ⟨rfl, rfl, rfl, by simp [World.setCell], fun k hk hne => Below.heap_setCell _ _ _ _ (fun e => hne (by rw [e]))⟩ (fun j e => by cases e; exact hd)
theorem OwnR.set {w : World} {lo hi n d o : Nat} {v u : Value} {l : List Int} (h : OwnR w lo hi v n l) (hd : d < lo ∨ hi ≤ d) : OwnR (w.setCell ⟨d, o, none⟩ u) lo hi v n l :=
  h.kept (row := some d) ⟨rfl, rfl, rfl, by simp [World.setCell], fun k hk hne => Below.heap_setCell _ _ _ _ (fun e => hne (by rw [e]))⟩ (fun j e => by cases e; exact hd)
theorem OwnV.wide {w : World} {lo hi lo' hi' n : Nat} {v : Value} {l : List Agg.V} (h : OwnV w lo hi v n l) (h1 : lo' ≤ lo) (h2 : hi ≤ hi') (h3 : hi' ≤ w.heap.size) : OwnV w lo' hi' v n l :=
  ⟨owns_lower h.1 h1, by have := h.2.1; omega, h3, fun g hg => Nat.lt_of_lt_of_le (h.2.2.2 g hg) h2⟩
theorem OwnR.wide {w : World} {lo hi lo' hi' n : Nat} {v : Value} {l : List Int} (h : OwnR w lo hi v n l) (h1 : lo' ≤ lo) (h2 : hi ≤ hi') (h3 : hi' ≤ w.heap.size) : OwnR w lo' hi' v n l :=
  ⟨owns_lower h.1 h1, by have := h.2.1; omega, h3, fun g hg => Nat.lt_of_lt_of_le (h.2.2.2 g hg) h2⟩
theorem size_set (w : World) (p : Addr) (u : Value) : (w.setCell p u).heap.size = w.heap.size := by simp [World.setCell]
set_option maxRecDepth 8000 in
set_option maxHeartbeats 4000000 in
theorem toStacks_own (fa : Option Addr) (fn fc : Nat) (ia : Option Addr) (m ic : Nat) (bx by' bz fl co : Int) (F : List Agg.V) (I : List Int) (w : World) (hF : Vals w fa fn fc F) (hI : Nums .i64 w ia m ic I) (h1 : fn ≤ 1048576) (h2 : m ≤ 1048576) :
    Calls Tryz.prog 26 #[.agg #[.slice fa fn fc, .slice ia m ic, .int .i64 bx, .int .i64 by', .int .i64 bz, .int .i64 fl, .int .i64 co]] w (MadeStacks ⟨F, I, ⟨bx, by', bz⟩, fl, co⟩ w) := by
  have HFL := Lib.hid (show F.length = fn from hF.1)
  have HIL := Lib.hid (show I.length = m from hI.1)
  have HF := Lib.hid hF
  have HI := Lib.hid hI
  obtain ⟨W, hW⟩ : ∃ W, W = (((w.alloc (.cells #[.slice fa fn fc, .slice ia m ic, .int .i64 bx, .int .i64 by', .int .i64 bz, .int .i64 fl, .int .i64 co] 54)).alloc (.cells #[.slice none 0 0, .slice none 0 0, .int .i64 0, .int .i64 0, .int .i64 0, .int .i64 0, .int .i64 0] 58)).alloc (.cells #[.slice none 0 0, .slice none 0 0, .int .i64 0, .int .i64 0, .int .i64 0, .int .i64 0, .int .i64 0] 58)) := ⟨_, rfl⟩
  have HA := Lib.hid (show Box7 W w.heap.size 54 (.slice fa fn fc) (.slice ia m ic) (.int .i64 bx) (.int .i64 by') (.int .i64 bz) (.int .i64 fl) (.int .i64 co) from by rw [hW]; exact ((Box7.new w _ _ _ _ _ _ _ _).alloc _).alloc _)
  have HR := Lib.hid (show Box7 W (w.heap.size + 1) 58 (.slice none 0 0) (.slice none 0 0) (.int .i64 0) (.int .i64 0) (.int .i64 0) (.int .i64 0) (.int .i64 0) from by rw [hW]; exact (Box7.new1 (Y := w.alloc _) _ _ _ _ _ _ _ _ (by simp)).alloc _)
  have HO := Lib.hid (show Box7 W (w.heap.size + 2) 58 (.slice none 0 0) (.slice none 0 0) (.int .i64 0) (.int .i64 0) (.int .i64 0) (.int .i64 0) (.int .i64 0) from by rw [hW]; exact Box7.new1 (Y := (w.alloc _).alloc _) _ _ _ _ _ _ _ _ (by simp))
  have HB := Lib.hid (show Below w.heap.size w W from by rw [hW]; exact (((Below.refl _ _).alloc (Nat.le_refl _) _).alloc (by simp) _).alloc (by simp; omega) _)
  have hsz : W.heap.size = w.heap.size + 3 := by rw [hW]; simp
  have HSZ := Lib.hid hsz
  clear hF hI
  go_enter Tryz.func26, Tryz.ntmps26
  go_wp2_with fail
  rw [← hW]
  clear hW hsz
  refine (toValueS_own _ _ _ F _ (HF.out.below HB.out) h1).mono ?_
  rintro e w1 ⟨v1, rfl, ho1, hb1⟩
  have hs1 := hb1.size
  obtain ⟨a1, c1, rfl⟩ := e_ownsRow_slice ho1.1
  have HA1 := Lib.hid (HA.out.call hb1)
  have HR1 := Lib.hid (HR.out.call hb1)
  have HO1 := Lib.hid (HO.out.call hb1)
  have HB1 := Lib.hid (HB.out.trans (hb1.mono HB.out.size))
  have HF1 := Lib.hid ho1
  have hz1 : w.heap.size + 2 < w1.heap.size := HO1.out.lt
  have hz1' : w.heap.size < w1.heap.size := by omega
  obtain ⟨q0, q1, q2, q3, q4, q5, q6⟩ := HA1.out.cells
  obtain ⟨p0, p1, p2, p3, p4, p5, p6⟩ := HO1.out.cells
  have g1 := HO1.out.free
  clear hb1 ho1 HA HR HO
  go_wp2_with fail
  have HB1' := Lib.hid (HB1.out.setCell (p := ⟨w.heap.size + 2, 0, none⟩) (by simp) (.slice a1 fn c1))
  have HF1' := Lib.hid (HF1.out.set (d := w.heap.size + 2) (o := 0) (u := .slice a1 fn c1) (by have := HSZ.out; omega))
  have HA1' := Lib.hid (HA1.out.other (d := w.heap.size + 2) (by omega) 0 (.slice a1 fn c1))
  have HR1' := Lib.hid (HR1.out.other (d := w.heap.size + 2) (by omega) 0 (.slice a1 fn c1))
  have HO1' := Lib.hid (HO1.out.set0 (.slice a1 fn c1))
  clear q0 q1 q2 q3 q4 q5 q6 p0 p1 p2 p3 p4 p5 p6 g1
  obtain ⟨X1, hX1⟩ : ∃ X1, X1 = w1.setCell ⟨w.heap.size + 2, 0, none⟩ (.slice a1 fn c1) := ⟨_, rfl⟩
  have hxs : X1.heap.size = w1.heap.size := by rw [hX1]; exact size_set _ _ _
  rw [← hX1] at HB1' HF1' HA1' HR1' HO1' ⊢
  have HXS := Lib.hid hxs
  clear hX1 hxs HB1 HF1 HA1 HR1 HO1
  refine (toIntS_own _ _ _ I _ (HI.out.below HB1'.out) h2).mono ?_
  rintro e w2 ⟨v2, rfl, ho2, hb2⟩
  obtain ⟨a2, c2, rfl⟩ := e_ownsRow_slice ho2.1
  have hs2 := hb2.size
  have HA2 := Lib.hid (HA1'.out.call hb2)
  have HR2 := Lib.hid (HR1'.out.call hb2)
  have HO2 := Lib.hid (HO1'.out.call hb2)
  have HB2 := Lib.hid (HB1'.out.trans (hb2.mono HB1'.out.size))
  have HF2 := Lib.hid (HF1'.out.below hb2)
  have HI2 := Lib.hid ho2
  have hz2 : w.heap.size + 2 < w2.heap.size := HO2.out.lt
  have hz2' : w.heap.size < w2.heap.size := by omega
  have hz3 : w.heap.size + 1 < w2.heap.size := by omega
  obtain ⟨q0, q1, q2, q3, q4, q5, q6⟩ := HA2.out.cells
  obtain ⟨p0, p1, p2, p3, p4, p5, p6⟩ := HO2.out.cells
  have g2 := HO2.out.free
  clear hb2 ho2 HA1' HR1' HO1' HB1' HF1'
  go_wp2_with fail
  refine (toValue_any bx by' bz _).mono ?_
  rintro e w3 ⟨rfl, hb3⟩
  have HA3 := Lib.hid ((HA2.out.other (d := w.heap.size + 2) (by omega) 1 (.slice a2 m c2)).call hb3)
  have HR3 := Lib.hid ((HR2.out.other (d := w.heap.size + 2) (by omega) 1 (.slice a2 m c2)).call hb3)
  have HO3 := Lib.hid ((HO2.out.set1 (.slice a2 m c2)).call hb3)
  have HB3 := Lib.hid ((HB2.out.setCell (p := ⟨w.heap.size + 2, 1, none⟩) (by simp) (.slice a2 m c2)).trans (hb3.mono (by rw [size_set]; exact HB2.out.size)))
  have HF3 := Lib.hid ((HF2.out.set (d := w.heap.size + 2) (o := 1) (u := .slice a2 m c2) (by have := HSZ.out; omega)).below hb3)
  have HI3 := Lib.hid ((HI2.out.set (d := w.heap.size + 2) (o := 1) (u := .slice a2 m c2) (by have := HSZ.out; have := HXS.out; omega)).below hb3)
  have hs3 := hb3.size
  rw [size_set] at hs3
  clear q0 q1 q2 q3 q4 q5 q6 p0 p1 p2 p3 p4 p5 p6 g2 hb3 HA2 HR2 HO2 HB2 HF2 HI2
  obtain ⟨q0, q1, q2, q3, q4, q5, q6⟩ := HA3.out.cells
  obtain ⟨p0, p1, p2, p3, p4, p5, p6⟩ := HO3.out.cells
  obtain ⟨r0, r1, r2, r3, r4, r5, r6⟩ := HR3.out.cells
  have g3 := HO3.out.free
  have g4 := HR3.out.free
  have hz4 : w.heap.size + 2 < w3.heap.size := by omega
  go_wp2_with fail
  refine bodyPost_ret (by simp [results, Tryz.results26, go_sem, *]; try rfl) rfl ?_
  have hf := HFL.out
  have hi2 := HIL.out
  subst hf
  subst hi2
  have hlo := HSZ.out
  have hxs := HXS.out
  have hWW : Below w.heap.size w _ := (((((((((((HB3.out.setCell (p := ⟨w.heap.size + 2, 2, none⟩) (by simp) (.int .i64 bx)).setCell (p := ⟨w.heap.size + 2, 3, none⟩) (by simp) (.int .i64 by')).setCell (p := ⟨w.heap.size + 2, 4, none⟩) (by simp) (.int .i64 bz)).setCell (p := ⟨w.heap.size + 2, 5, none⟩) (by simp) (.int .i64 fl)).setCell (p := ⟨w.heap.size + 2, 6, none⟩) (by simp) (.int .i64 co)).setCell (p := ⟨w.heap.size + 1, 0, none⟩) (by simp) (.slice a1 F.length c1)).setCell (p := ⟨w.heap.size + 1, 1, none⟩) (by simp) (.slice a2 I.length c2)).setCell (p := ⟨w.heap.size + 1, 2, none⟩) (by simp) (.int .i64 bx)).setCell (p := ⟨w.heap.size + 1, 3, none⟩) (by simp) (.int .i64 by')).setCell (p := ⟨w.heap.size + 1, 4, none⟩) (by simp) (.int .i64 bz)).setCell (p := ⟨w.heap.size + 1, 5, none⟩) (by simp) (.int .i64 fl)).setCell (p := ⟨w.heap.size + 1, 6, none⟩) (by simp) (.int .i64 co)
  refine ⟨_, rfl, ⟨_, _, rfl, OwnV.wide (lo := W.heap.size) (hi := w1.heap.size) ?_ (by omega) ?_ (Nat.le_refl _), OwnR.wide (lo := X1.heap.size) (hi := w2.heap.size) ?_ (by omega) ?_ (Nat.le_refl _)⟩, hWW⟩
  · exact ((((((((((((HF3.out.set (d := w.heap.size + 2) (by omega)).set (d := w.heap.size + 2) (by omega)).set (d := w.heap.size + 2) (by omega)).set (d := w.heap.size + 2) (by omega)).set (d := w.heap.size + 2) (by omega)).set (d := w.heap.size + 1) (by omega)).set (d := w.heap.size + 1) (by omega)).set (d := w.heap.size + 1) (by omega)).set (d := w.heap.size + 1) (by omega)).set (d := w.heap.size + 1) (by omega)).set (d := w.heap.size + 1) (by omega)).set (d := w.heap.size + 1) (by omega))
  · simp only [size_set]; omega
  · exact ((((((((((((HI3.out.set (d := w.heap.size + 2) (by omega)).set (d := w.heap.size + 2) (by omega)).set (d := w.heap.size + 2) (by omega)).set (d := w.heap.size + 2) (by omega)).set (d := w.heap.size + 2) (by omega)).set (d := w.heap.size + 1) (by omega)).set (d := w.heap.size + 1) (by omega)).set (d := w.heap.size + 1) (by omega)).set (d := w.heap.size + 1) (by omega)).set (d := w.heap.size + 1) (by omega)).set (d := w.heap.size + 1) (by omega)).set (d := w.heap.size + 1) (by omega))
  · simp only [size_set]; omega
set_option maxRecDepth 8000 in
set_option maxHeartbeats 4000000 in
theorem eqStacks_own {lo hi lo' hi' : Nat} {v v' : Value} {s : Agg.S} (w : World) (h : StkOwn w lo hi v s) (h' : StkOwn w lo' hi' v' s) :
    Calls Tryz.prog 28 #[v, v'] w fun e w' => e = .returned (.bool true) ∧ Below w.heap.size w w' := by
  obtain ⟨fa, fc, ia, ic, rfl, hF, hI⟩ := h.read
  obtain ⟨fa', fc', ia', ic', rfl, hF', hI'⟩ := h'.read
  obtain ⟨F, I, ⟨bx, by', bz⟩, fl, co⟩ := s
  simp only at hF hI hF' hI'
  have HF := Lib.hid hF
  have HI := Lib.hid hI
  have HF' := Lib.hid hF'
  have HI' := Lib.hid hI'
  clear h h' hF hI hF' hI'
  obtain ⟨fn, hfn⟩ : ∃ fn, fn = F.length := ⟨_, rfl⟩
  obtain ⟨m, hm⟩ : ∃ m, m = I.length := ⟨_, rfl⟩
  rw [← hfn] at HF HF'
  rw [← hm] at HI HI'
  simp only [← hfn, ← hm]
  have HFN := Lib.hid hfn
  have HM := Lib.hid hm
  clear hfn hm
  obtain ⟨W, hW⟩ : ∃ W, W = ((w.alloc (.cells #[.slice fa fn fc, .slice ia m ic, .int .i64 bx, .int .i64 by', .int .i64 bz, .int .i64 fl, .int .i64 co] 58)).alloc (.cells #[.slice fa' fn fc', .slice ia' m ic', .int .i64 bx, .int .i64 by', .int .i64 bz, .int .i64 fl, .int .i64 co] 58)) := ⟨_, rfl⟩
  have HA := Lib.hid (show Box7 W w.heap.size 58 (.slice fa fn fc) (.slice ia m ic) (.int .i64 bx) (.int .i64 by') (.int .i64 bz) (.int .i64 fl) (.int .i64 co) from by rw [hW]; exact (Box7.new w _ _ _ _ _ _ _ _).alloc _)
  have HR := Lib.hid (show Box7 W (w.heap.size + 1) 58 (.slice fa' fn fc') (.slice ia' m ic') (.int .i64 bx) (.int .i64 by') (.int .i64 bz) (.int .i64 fl) (.int .i64 co) from by rw [hW]; exact Box7.new1 (Y := w.alloc _) _ _ _ _ _ _ _ _ (by simp))
  have HB := Lib.hid (show Below w.heap.size w W from by rw [hW]; exact ((Below.refl _ _).alloc (Nat.le_refl _) _).alloc (by simp) _)
  go_enter Tryz.func28, Tryz.ntmps28
  go_wp2_with fail
  rw [← hW]
  clear hW
  refine (eqValueS_same _ _ _ _ _ _ F _ (HF.out.below HB.out) (HF'.out.below HB.out)).mono ?_
  rintro e w1 ⟨rfl, hb1⟩
  have HA1 := Lib.hid (HA.out.call hb1)
  have HR1 := Lib.hid (HR.out.call hb1)
  have HB1 := Lib.hid (HB.out.trans (hb1.mono HB.out.size))
  obtain ⟨q0, q1, q2, q3, q4, q5, q6⟩ := HA1.out.cells
  obtain ⟨r0, r1, r2, r3, r4, r5, r6⟩ := HR1.out.cells
  clear hb1 HA HR HB
  go_wp2_with fail
  refine (eqIntS_same _ _ _ _ _ _ I _ (HI.out.below HB1.out) (HI'.out.below HB1.out)).mono ?_
  rintro e w2 ⟨rfl, hb2⟩
  have HA2 := Lib.hid (HA1.out.call hb2)
  have HR2 := Lib.hid (HR1.out.call hb2)
  have HB2 := Lib.hid (HB1.out.trans (hb2.mono HB1.out.size))
  clear hb2 HA1 HR1 HB1 q0 q1 q2 q3 q4 q5 q6 r0 r1 r2 r3 r4 r5 r6
  obtain ⟨q0, q1, q2, q3, q4, q5, q6⟩ := HA2.out.cells
  obtain ⟨r0, r1, r2, r3, r4, r5, r6⟩ := HR2.out.cells
  go_wp2_with fail
  refine (eqValue_same _ _ _ _).mono ?_
  rintro e w3 ⟨rfl, hb3⟩
  have HA3 := Lib.hid (HA2.out.call hb3)
  have HR3 := Lib.hid (HR2.out.call hb3)
  have HB3 := Lib.hid (HB2.out.trans (hb3.mono HB2.out.size))
  clear hb3 HA2 HR2 HB2 q0 q1 q2 q3 q4 q5 q6 r0 r1 r2 r3 r4 r5 r6
  obtain ⟨q0, q1, q2, q3, q4, q5, q6⟩ := HA3.out.cells
  obtain ⟨r0, r1, r2, r3, r4, r5, r6⟩ := HR3.out.cells
  go_wp2_with fail
  go_returns
  exact ⟨rfl, HB3.out⟩
end Go.Proofs.YtehfijijapfomaaGreat
