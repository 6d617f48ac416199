/-
  Stacks and changes of stacks drawn.
-/
import Derived.Test.YticoalgnkddapaaGreat3o
import Derived.Test.YticoalgnkddapaaGreatDq
namespace Go.Proofs.YticoalgnkddapaaGreat
set_option linter.unusedSimpArgs false
set_option linter.unusedVariables false
open Go.RowKit
theorem Box2.free {w : World} {c : Nat} {T : TypeId} {u v : Value} (h : Box2 w c T u v) (o : Nat) : w.frozen? ⟨c, o, none⟩ = false := by
  unfold Box2 at h
  simp [World.frozen?, h]
theorem rd_set {w : World} {B c d o : Nat} {p : Int} {u : Value} (h : Rd w B c p) (h1 : B ≤ d) (h2 : d ≠ c) : Rd (w.setCell ⟨d, o, none⟩ u) B c p :=
  h.kept' (row := some d) ⟨rfl, rfl, rfl, by simp [World.setCell], fun k hk hne => Below.heap_setCell _ _ _ _ (fun e => hne (by rw [e]))⟩ (fun k e => by have := Option.some.inj e; omega)
/-- A change is drawn; the reader is some steps further. -/
def OpDrawn (B c : Nat) (p : Int) (w : World) (e : Ending) (w' : World) : Prop :=
  ∃ (b : Bool) (x p' : Int), e = .returned (.agg #[.bool b, .int .i64 x]) ∧ p ≤ p' ∧ p' ≤ p + 2 ∧ Rd w' B c p' ∧ w.grownBy w' (some c)
set_option maxRecDepth 4000 in
set_option maxHeartbeats 1000000 in
theorem l3Op_any (B c : Nat) (p : Int) (w : World) (h : Rd w B c p) (hp : p ≤ 900000) :
    Calls Tryz.prog 64 #[.pointer (some ⟨c, 0, none⟩)] w (OpDrawn B c p w) := by
  have hlt := h.2.1
  have hBc := h.1
  obtain ⟨W, hW⟩ : ∃ W, W = w.alloc (.cells #[.bool false, .int .i64 0] 43) := ⟨_, rfl⟩
  have HP := Lib.hid (show Box2 W w.heap.size 43 (.bool false) (.int .i64 0) from by rw [hW]; exact Box2.new1 _ _ _ rfl)
  have HR := Lib.hid (show Rd W B c p from by rw [hW]; exact h.kept (World.grownBy_alloc _ _ _))
  have HG := Lib.hid (show w.grownBy W (some c) from by rw [hW]; exact grown_alloc (grown_refl w c) _)
  clear h
  go_enter Tryz.func64, Tryz.ntmps64
  go_wp2_with fail
  rw [← hW]
  clear hW
  refine (pick_any _ B c p _ HR.out (by omega) (by omega)).mono ?_
  rintro e w1 ⟨v, rfl, hv0, hv1, -, hr1, hg1⟩
  have HR1 := Lib.hid hr1
  have HG1 := Lib.hid (grown_trans HG.out hg1)
  have HP1 := Lib.hid (HP.out.grown hg1 (fun e => by have := Option.some.inj e; omega))
  clear hr1 hg1 hv1 HR HG HP
  by_cases hz : v = 0
  · subst hz
    go_wp2_with fail
    refine (num_any w1.heap.size 5 [0, 0, 0, 0, 5] B c (p + 1) _ (HR1.out.kept (World.grownBy_alloc _ _ _)) (by omega) (ListAt.new w1 [0, 0, 0, 0, 5] _) (by have := HR1.out.2.1; omega) (by decide) (by decide)).mono ?_
    rintro e w2 ⟨x, rfl, -, hr2, hg2⟩
    have HR2 := Lib.hid hr2
    have HG2 := Lib.hid (grown_trans (grown_alloc HG1.out _) hg2)
    have HP2 := Lib.hid ((HP1.out.alloc _).grown hg2 (fun e => by have := Option.some.inj e; omega))
    clear hr2 hg2 HR1 HG1 HP1
    obtain ⟨q0, q1⟩ := HP2.out.cells
    have q2 := HP2.out.free
    go_wp2_with fail
    refine bodyPost_ret (by simp [results, Tryz.results64, go_sem, *]; try rfl) rfl ?_
    exact ⟨false, x, p + 1 + 1, rfl, by omega, by omega, rd_set (rd_set HR2.out (by omega) (by omega)) (by omega) (by omega), g_set (g_set HG2.out (Nat.le_refl _)) (Nat.le_refl _)⟩
  · go_wp2_with fail
    refine (num_any w1.heap.size 6 [3, 7, 96, 0, 20, 97] B c (p + 1) _ (HR1.out.kept (World.grownBy_alloc _ _ _)) (by omega) (ListAt.new w1 [3, 7, 96, 0, 20, 97] _) (by have := HR1.out.2.1; omega) (by decide) (by decide)).mono ?_
    rintro e w2 ⟨x, rfl, -, hr2, hg2⟩
    have HR2 := Lib.hid hr2
    have HG2 := Lib.hid (grown_trans (grown_alloc HG1.out _) hg2)
    have HP2 := Lib.hid ((HP1.out.alloc _).grown hg2 (fun e => by have := Option.some.inj e; omega))
    clear hr2 hg2 HR1 HG1 HP1
    obtain ⟨q0, q1⟩ := HP2.out.cells
    have q2 := HP2.out.free
    go_wp2_with fail
    refine bodyPost_ret (by simp [results, Tryz.results64, go_sem, *]; try rfl) rfl ?_
    exact ⟨true, x, p + 1 + 1, rfl, by omega, by omega, rd_set (rd_set HR2.out (by omega) (by omega)) (by omega) (by omega), g_set (g_set HG2.out (Nat.le_refl _)) (Nat.le_refl _)⟩
theorem rd_sets7 {w : World} {B c d : Nat} {p : Int} (h : Rd w B c p) (h1 : B ≤ d) (h2 : d ≠ c) (u0 u1 u2 u3 u4 u5 u6 : Value) : Rd (((((((w.setCell ⟨d, 0, none⟩ u0).setCell ⟨d, 1, none⟩ u1).setCell ⟨d, 2, none⟩ u2).setCell ⟨d, 3, none⟩ u3).setCell ⟨d, 4, none⟩ u4).setCell ⟨d, 5, none⟩ u5).setCell ⟨d, 6, none⟩ u6) B c p :=
  rd_set (rd_set (rd_set (rd_set (rd_set (rd_set (rd_set h h1 h2) h1 h2) h1 h2) h1 h2) h1 h2) h1 h2) h1 h2
theorem g_sets7 {w wr : World} {f0 : Option Nat} {d : Nat} (h : w.grownBy wr f0) (hd : w.heap.size ≤ d) (u0 u1 u2 u3 u4 u5 u6 : Value) : w.grownBy (((((((wr.setCell ⟨d, 0, none⟩ u0).setCell ⟨d, 1, none⟩ u1).setCell ⟨d, 2, none⟩ u2).setCell ⟨d, 3, none⟩ u3).setCell ⟨d, 4, none⟩ u4).setCell ⟨d, 5, none⟩ u5).setCell ⟨d, 6, none⟩ u6) f0 :=
  g_set (g_set (g_set (g_set (g_set (g_set (g_set h hd) hd) hd) hd) hd) hd) hd
/-- Stacks are drawn, in new memory; the reader is some steps further. -/
def StkDrawn (B c : Nat) (p : Int) (w : World) (e : Ending) (w' : World) : Prop :=
  ∃ (v : Value) (s : Agg.S) (p' : Int), e = .returned v ∧ StkOwn w' w.heap.size w'.heap.size v s ∧ (s.front.length ≤ 60 ∧ s.items.length ≤ 60) ∧ p ≤ p' ∧ p' ≤ p + 310 ∧ Rd w' B c p' ∧ w.grownBy w' (some c)
theorem StkDrawn.fin {B c : Nat} {p p' : Int} {w wf : World} {lo hi : Nat} {v : Value} {s : Agg.S} (hg : w.grownBy wf (some c)) (hr : Rd wf B c p') (hBc : B ≤ c) (hc : c < w.heap.size) (ho : StkOwn wf lo hi v s) (hhi : hi ≤ wf.heap.size) (hlo : w.heap.size < lo) (hs : s.front.length ≤ 60 ∧ s.items.length ≤ 60) (hp : p ≤ p') (hq : p' ≤ p + 310) (u0 u1 u2 u3 u4 u5 u6 : Value) :
    StkDrawn B c p w (.returned v) (((((((wf.setCell ⟨w.heap.size, 0, none⟩ u0).setCell ⟨w.heap.size, 1, none⟩ u1).setCell ⟨w.heap.size, 2, none⟩ u2).setCell ⟨w.heap.size, 3, none⟩ u3).setCell ⟨w.heap.size, 4, none⟩ u4).setCell ⟨w.heap.size, 5, none⟩ u5).setCell ⟨w.heap.size, 6, none⟩ u6) :=
  ⟨v, s, p', rfl, (ho.set7 (.inl hlo) _ _ _ _ _ _ _).wide (by omega) (by rw [size_sets7]; exact hhi) (Nat.le_refl _), hs, hp, hq, rd_sets7 hr (by omega) (by omega) _ _ _ _ _ _ _, g_sets7 hg (Nat.le_refl _) _ _ _ _ _ _ _⟩
theorem StkOwn.set1 {wr : World} {lo hi c o : Nat} {u v : Value} {s : Agg.S} (h : StkOwn wr lo hi v s) (hd : c < lo ∨ hi ≤ c) : StkOwn (wr.setCell ⟨c, o, none⟩ u) lo hi v s := by
  obtain ⟨fv, iv, hv, h1, h2⟩ := h
  exact ⟨fv, iv, hv, h1.set hd, h2.set hd⟩
theorem StkOwn.backX {wr : World} {lo hi : Nat} {fv iv u3 u4 u5 u6 : Value} {X : Int} {s : Agg.S} (h : StkOwn wr lo hi (.agg #[fv, iv, .int .i64 X, u3, u4, u5, u6]) s) (x : Int) : StkOwn wr lo hi (.agg #[fv, iv, .int .i64 x, u3, u4, u5, u6]) ⟨s.front, s.items, ⟨x, s.back.y, s.back.z⟩, s.flips, s.cost⟩ := by
  obtain ⟨fv', iv', hv, h1, h2⟩ := h
  simp only [Value.agg.injEq, Array.mk.injEq, List.cons.injEq] at hv
  obtain ⟨rfl, rfl, -, rfl, rfl, rfl, rfl, -⟩ := hv
  exact ⟨_, _, rfl, h1, h2⟩
theorem StkOwn.flipsX {wr : World} {lo hi : Nat} {fv iv u2 u3 u4 u6 : Value} {X : Int} {s : Agg.S} (h : StkOwn wr lo hi (.agg #[fv, iv, u2, u3, u4, .int .i64 X, u6]) s) (x : Int) : StkOwn wr lo hi (.agg #[fv, iv, u2, u3, u4, .int .i64 x, u6]) ⟨s.front, s.items, s.back, x, s.cost⟩ := by
  obtain ⟨fv', iv', hv, h1, h2⟩ := h
  simp only [Value.agg.injEq, Array.mk.injEq, List.cons.injEq] at hv
  obtain ⟨rfl, rfl, rfl, rfl, rfl, -, rfl, -⟩ := hv
  exact ⟨_, _, rfl, h1, h2⟩
theorem g_drew {w wr : World} {f0 : Option Nat} (h : w.grownBy wr f0) : w.grownBy wr.drew f0 := ⟨h.os, h.tape, h.output, h.size, h.block⟩
theorem Box7.grownD {w w' : World} {c : Nat} {T : TypeId} {v0 v1 v2 v3 v4 v5 v6 : Value} {row : Option Nat} (h : Box7 w c T v0 v1 v2 v3 v4 v5 v6) (hg : w.drew.grownBy w' row) (hr : row ≠ some c) : Box7 w' c T v0 v1 v2 v3 v4 v5 v6 :=
  Box7.grown (w := w.drew) h hg hr
theorem StkOwn.keptD {w w' : World} {lo hi : Nat} {v : Value} {s : Agg.S} {row : Option Nat} (h : StkOwn w lo hi v s) (hg : w.drew.grownBy w' row) (hr : ∀ j, row = some j → j < lo ∨ hi ≤ j) : StkOwn w' lo hi v s :=
  StkOwn.kept (w := w.drew) h hg hr
theorem set1_far {W : World} {c d o o' : Nat} {u : Value} (h : c ≠ d) : (W.setCell ⟨d, o', none⟩ u).cell? ⟨c, o, none⟩ = W.cell? ⟨c, o, none⟩ :=
  World.cell?_of_block (Below.heap_setCell _ _ _ _ (by simpa using h))
theorem StkOwn.frontX {w : World} {lo hi g fc : Nat} {iv u2 u3 u4 u5 u6 : Value} {s : Agg.S} {V0 : Agg.V} {F0 : List Agg.V} (h : StkOwn w lo hi (.agg #[.slice (some ⟨g, 0, none⟩) s.front.length fc, iv, u2, u3, u4, u5, u6]) s) (hs : s.front = V0 :: F0) : w.cell? ⟨g, 0, none⟩ = some (.int .i64 V0.x) := by
  have h1 := h.rows.1.1.cellAt 0 (by rw [hs]; simp only [List.length_cons]; omega)
  rw [hs] at h1
  exact h1
theorem StkOwn.headX {wr : World} {lo hi g fc : Nat} {iv u2 u3 u4 u5 u6 : Value} {s : Agg.S} {V0 : Agg.V} {F0 : List Agg.V} (h : StkOwn wr lo hi (.agg #[.slice (some ⟨g, 0, none⟩) s.front.length fc, iv, u2, u3, u4, u5, u6]) s) (hs : s.front = V0 :: F0) (x : Int) :
    StkOwn (wr.setCell ⟨g, 0, none⟩ (.int .i64 x)) lo hi (.agg #[.slice (some ⟨g, 0, none⟩) s.front.length fc, iv, u2, u3, u4, u5, u6]) ⟨⟨x, V0.y, V0.z⟩ :: F0, s.items, s.back, s.flips, s.cost⟩ := by
  obtain ⟨fv', iv', hv, h1, h2⟩ := h
  simp only [Value.agg.injEq, Array.mk.injEq, List.cons.injEq] at hv
  obtain ⟨rfl, rfl, rfl, rfl, rfl, rfl, rfl, -⟩ := hv
  have hst := (h1.1.stored 0 (Value.int .i64 x)).1
  have hrow : (valRow s.front).set 0 (Value.int .i64 x) = valRow (⟨x, V0.y, V0.z⟩ :: F0) := by rw [hs]; rfl
  have hlen : s.front.length = ((⟨x, V0.y, V0.z⟩ :: F0 : List Agg.V)).length := by rw [hs]; rfl
  have hsz : (wr.setCell ⟨g, 0, none⟩ (.int .i64 x)).heap.size = wr.heap.size := by simp [World.setCell]
  rw [hrow] at hst
  refine ⟨_, _, rfl, ⟨?_, h1.2.1, by rw [hsz]; exact h1.2.2.1, h1.2.2.2⟩, ⟨own_set_ne h2.1 (fun g' hg' e => ?_), h2.2.1, by rw [hsz]; exact h2.2.2.1, h2.2.2.2⟩⟩
  · rw [← hlen]; exact hst
  · subst e
    obtain ⟨cur, hc⟩ := row_block h1.1 rfl
    obtain ⟨cur', hc'⟩ := row_block h2.1 hg'
    rw [hc] at hc'
    simp only [Option.some.injEq, Obj.cells.injEq] at hc'
    exact absurd hc'.2.1 (by decide)
theorem Agg.run_small (k : Int) (l : List (Bool × Int)) : (Agg.runS k l).front.length ≤ 60 ∧ (Agg.runS k l).items.length ≤ 60 := by
  cases h : Agg.runOk k l
  · rw [Agg.runS, h]
    exact ⟨by simp [Agg.zeroS], by simp [Agg.zeroS]⟩
  · have h' := h
    simp only [Agg.runOk, Bool.and_eq_true] at h'
    obtain ⟨hk, hops⟩ := h'
    simp only [Agg.opsOk, Bool.and_eq_true, decide_eq_true_eq] at hops
    obtain ⟨⟨-, -⟩, hfit⟩ := hops
    rw [Agg.runS, h, if_pos rfl]
    have h0 := (Agg.stands_at hk l.length hfit).size
    have h1 := Agg.win_len l.length hfit
    simp only [Agg.S.size] at h0
    omega
set_option maxRecDepth 8000 in
set_option maxHeartbeats 2000000 in
theorem l3Draw_any (k : Int) (B c : Nat) (p : Int) (w : World) (h : Rd w B c p) (hp : p ≤ 890000) :
    Calls Tryz.prog 62 #[.pointer (some ⟨c, 0, none⟩), .int .i64 k] w (StkDrawn B c p w) := by
  have hlt := h.2.1
  have hBc := h.1
  obtain ⟨W, hW⟩ : ∃ W, W = w.alloc (.cells #[.slice none 0 0, .slice none 0 0, .int .i64 0, .int .i64 0, .int .i64 0, .int .i64 0, .int .i64 0] 31) := ⟨_, rfl⟩
  have HP := Lib.hid (show Box7 W w.heap.size 31 (.slice none 0 0) (.slice none 0 0) (.int .i64 0) (.int .i64 0) (.int .i64 0) (.int .i64 0) (.int .i64 0) from by rw [hW]; exact Box7.new w _ _ _ _ _ _ _ _)
  have HR := Lib.hid (show Rd W B c p from by rw [hW]; exact h.kept (World.grownBy_alloc _ _ _))
  have HG := Lib.hid (show w.grownBy W (some c) from by rw [hW]; exact grown_alloc (grown_refl w c) _)
  have HLA := Lib.hid (show ListAt (W.alloc (.cells #[.int .i64 12, .int .i64 20, .int .i64 4] 3)) (w.heap.size + 1) [12, 20, 4] from by
    have e : w.heap.size + 1 = W.heap.size := by rw [hW]; simp
    rw [e]; exact ListAt.new W [12, 20, 4] 3)
  have hWs : c < W.heap.size ∧ w.heap.size < W.heap.size := ⟨HR.out.2.1, HP.out.lt⟩
  clear h
  go_enter Tryz.func62, Tryz.ntmps62
  go_wp2_with fail
  rw [← hW]
  clear hW
  refine (num_any (w.heap.size + 1) 3 [12, 20, 4] B c p _ (HR.out.kept (World.grownBy_alloc _ _ _)) (by omega) HLA.out (by omega) (by decide) (by decide)).mono ?_
  rintro e w1 ⟨m, rfl, hm, hr1, hg1⟩
  obtain ⟨mm, rfl, hmm⟩ : ∃ mm : Nat, m = (mm : Int) ∧ mm ≤ 20 := by
    simp at hm
    rcases hm with rfl | rfl | rfl
    · exact ⟨12, rfl, by omega⟩
    · exact ⟨20, rfl, by omega⟩
    · exact ⟨4, rfl, by omega⟩
  have HR1 := Lib.hid hr1
  have HG1 := Lib.hid (grown_trans (grown_alloc HG.out _) hg1)
  have HP1 := Lib.hid ((HP.out.alloc _).grown hg1 (fun e => by have := Option.some.inj e; omega))
  clear hr1 hg1 HR HG HP hm
  go_wp2_with fail
  refine (l2Draw_any mm B c (p + 1) _ HR1.out (by omega) (by omega)).mono ?_
  rintro e w2 ⟨v2, n2, l2, p2, rfl, ho2, hn2, hp2, hq2, hr2, hg2⟩
  have HR2 := Lib.hid hr2
  have HG2 := Lib.hid (grown_trans HG1.out hg2)
  have HP2 := Lib.hid (HP1.out.grown hg2 (fun e => by have := Option.some.inj e; omega))
  obtain ⟨a2, c2, rfl, hops2⟩ := (OwnO.made ho2 hg2.size).ops
  have HOPS := Lib.hid hops2
  clear hr2 hg2 ho2 hops2 HR1 HG1 HP1
  have hsm := Agg.run_small k l2
  have hrun := s_stacksRun_any k a2 n2 c2 l2 w2 HOPS.out
  obtain ⟨RB, hRB⟩ : ∃ RB, RB = Agg.runOk k l2 := ⟨_, rfl⟩
  obtain ⟨RS, hRS⟩ : ∃ RS, RS = Agg.runS k l2 := ⟨_, rfl⟩
  obtain ⟨RN, hRN⟩ : ∃ RN, RN = Agg.runN k l2 := ⟨_, rfl⟩
  rw [← hRB, ← hRS, ← hRN] at hrun
  rw [← hRS] at hsm
  have HRUN := Lib.hid hrun
  clear hrun hRB hRS hRN
  go_wp2_with fail
  refine HRUN.out.mono ?_
  rintro e w3 ⟨v3, u3, n3, rfl, hs3, -, hb3⟩
  have HR3 := Lib.hid (HR2.out.kept (Below.grownNone hb3 none))
  have HG3 := Lib.hid (g_call HG2.out hb3)
  have HP3 := Lib.hid (HP2.out.call hb3)
  have hz2 : w.heap.size < w2.heap.size := HP2.out.lt
  have hz3 := hb3.size
  obtain ⟨fa, fc, ia, ic, rfl, -, -⟩ := hs3.read
  have HS3 := Lib.hid hs3
  clear hb3 hs3 HRUN HOPS HR2 HG2 HP2
  obtain ⟨W4, hW4⟩ : ∃ W4, W4 = w3.alloc (.cells #[.slice fa RS.front.length fc, .slice ia RS.items.length ic, .int .i64 RS.back.x, .int .i64 RS.back.y, .int .i64 RS.back.z, .int .i64 RS.flips, .int .i64 RS.cost] 31) := ⟨_, rfl⟩
  have hbn : Below w3.heap.size w3 W4 := by rw [hW4]; exact (Below.refl _ _).alloc (Nat.le_refl _) _
  have HX4 := Lib.hid (show Box7 W4 w3.heap.size 31 (.slice fa RS.front.length fc) (.slice ia RS.items.length ic) (.int .i64 RS.back.x) (.int .i64 RS.back.y) (.int .i64 RS.back.z) (.int .i64 RS.flips) (.int .i64 RS.cost) from by rw [hW4]; exact Box7.new w3 _ _ _ _ _ _ _ _)
  have HR4 := Lib.hid (HR3.out.kept (Below.grownNone hbn none))
  have HG4 := Lib.hid (g_call HG3.out hbn)
  have HP4 := Lib.hid (HP3.out.call hbn)
  have HS4 := Lib.hid (HS3.out.below hbn)
  have hz4 := hbn.size
  clear hbn HR3 HG3 HP3 HS3
  go_upto_region 2 with (fail)
  rw [← hW4]
  clear hW4
  obtain ⟨sv, hsv⟩ : ∃ sv, sv = w3.heap.size := ⟨_, rfl⟩
  rw [← hsv] at HX4 HS4 hz4 hz3 ⊢
  clear hsv
  cases RB
  · obtain ⟨q0, q1, q2, q3, q4, q5, q6⟩ := HX4.out.cells
    obtain ⟨r0, r1, r2, r3, r4, r5, r6⟩ := HP4.out.cells
    have r7 := HP4.out.free
    go_wp2_with fail
    refine bodyPost_ret (by simp [results, Tryz.results62, go_sem, *]; try rfl) rfl ?_
    exact StkDrawn.fin HG4.out HR4.out hBc hlt HS4.out hz4 hz2 hsm (by omega) (by omega) _ _ _ _ _ _ _
  · go_wp2_with fail
    refine (pick_any _ B c p2 _ HR4.out (by omega) (by omega)).mono ?_
    rintro e w5 ⟨y, rfl, hy0, hy1, -, hr5, hg5⟩
    have HR5 := Lib.hid hr5
    have HG5 := Lib.hid (grown_trans HG4.out hg5)
    have hsvc : sv ≠ c := by omega
    have HX5 := Lib.hid (HX4.out.grown hg5 (fun e => by have := Option.some.inj e; omega))
    have HP5 := Lib.hid (HP4.out.grown hg5 (fun e => by have := Option.some.inj e; omega))
    have HS5 := Lib.hid (HS4.out.kept hg5 (fun j e => .inl (by have := Option.some.inj e; omega)))
    have hz5 := hg5.size
    clear hr5 hg5 hy1 HR4 HG4 HX4 HP4 HS4
    by_cases h0 : y = 0
    · subst h0
      obtain ⟨q0, q1, q2, q3, q4, q5, q6⟩ := HX5.out.cells
      go_wp2_with fail
      refine (num_any w5.heap.size 3 [5, 97, -1] B c (p2 + 1) _ (HR5.out.kept (World.grownBy_alloc _ _ _)) (by omega) (ListAt.new w5 [5, 97, -1] _) (by have := HR5.out.2.1; omega) (by decide) (by decide)).mono ?_
      rintro e w6 ⟨x, rfl, -, hr6, hg6⟩
      have HR6 := Lib.hid (rd_set (o := 2) (u := .int .i64 x) hr6 (show B ≤ sv by omega) hsvc)
      have HG6 := Lib.hid (g_set (d := sv) (o := 2) (u := .int .i64 x) (grown_trans (grown_alloc HG5.out _) hg6) (by omega))
      have HX6a := Lib.hid ((HX5.out.alloc _).grown hg6 (fun e => by have := Option.some.inj e; omega))
      have HX6 := Lib.hid (HX6a.out.set2 (.int .i64 x))
      have HP6 := Lib.hid (((HP5.out.alloc _).grown hg6 (fun e => by have := Option.some.inj e; omega)).other (d := sv) (by omega) 2 (.int .i64 x))
      have HS6 := Lib.hid ((((HS5.out.below ((Below.refl w5.heap.size w5).alloc (Nat.le_refl _) _)).kept hg6 (fun j e => .inl (by have := Option.some.inj e; omega))).set1 (c := sv) (o := 2) (u := .int .i64 x) (.inr (Nat.le_refl _))).backX x)
      have hz6 : sv ≤ w6.heap.size := by have := hg6.size; simp at this; omega
      clear hr6 hg6 HR5 HG5 HX5 HP5 HS5 q0 q1 q2 q3 q4 q5 q6
      obtain ⟨q0, q1, q2, q3, q4, q5, q6⟩ := HX6a.out.cells
      have q7 := HX6a.out.free
      obtain ⟨W7, hW7⟩ : ∃ W7, W7 = w6.setCell ⟨sv, 2, none⟩ (.int .i64 x) := ⟨_, rfl⟩
      have hz7 : sv ≤ W7.heap.size := by rw [hW7]; simpa [World.setCell] using hz6
      rw [← hW7] at HR6 HG6 HX6 HP6 HS6
      go_upto_region 12 with (fail)
      rw [← hW7]
      clear hW7 q0 q1 q2 q3 q4 q5 q6 q7 HX6a
      obtain ⟨q0, q1, q2, q3, q4, q5, q6⟩ := HX6.out.cells
      obtain ⟨r0, r1, r2, r3, r4, r5, r6⟩ := HP6.out.cells
      have r7 := HP6.out.free
      go_wp2_with fail
      refine bodyPost_ret (by simp [results, Tryz.results62, go_sem, *]; try rfl) rfl ?_
      exact StkDrawn.fin HG6.out HR6.out hBc hlt HS6.out hz7 hz2 hsm (by omega) (by omega) _ _ _ _ _ _ _
    · by_cases h1 : y = 1
      · subst h1
        by_cases hn0 : RS.front.length = 0
        · have hnl : ¬ ((0 : Int) < (RS.front.length : Int)) := by omega
          clear hn0
          obtain ⟨q0, q1, q2, q3, q4, q5, q6⟩ := HX5.out.cells
          obtain ⟨r0, r1, r2, r3, r4, r5, r6⟩ := HP5.out.cells
          have r7 := HP5.out.free
          go_wp2_with fail
          refine bodyPost_ret (by simp [results, Tryz.results62, go_sem, *]; try rfl) rfl ?_
          exact StkDrawn.fin HG5.out HR5.out hBc hlt HS5.out (by omega) hz2 hsm (by omega) (by omega) _ _ _ _ _ _ _
        · have hnp : (0 : Int) < (RS.front.length : Int) := by omega
          obtain ⟨g, cc, e1, hg1, hg2, hcc, hnc⟩ := b_own_some HS5.out.rows.1.1 (by omega)
          simp only [Value.slice.injEq] at e1
          obtain ⟨rfl, -, rfl⟩ := e1
          have hgs : g < sv := HS5.out.rows.1.2.2.2 g rfl
          have hnlen : RS.front.length ≤ 9223372036854775807 := by omega
          obtain ⟨V0, F0, hF0⟩ : ∃ V0 F0, RS.front = V0 :: F0 := by
            cases hf : RS.front with
            | nil => rw [hf] at hn0; exact absurd rfl hn0
            | cons a b => exact ⟨a, b, rfl⟩
          have HF0 := Lib.hid hF0
          have hbn := (Below.refl w5.heap.size w5).alloc (Nat.le_refl _) (.cells #[.int .i64 97, .int .i64 5, .int .i64 (-1)] 3)
          have HRA := Lib.hid (HR5.out.kept (World.grownBy_alloc w5 (.cells #[.int .i64 97, .int .i64 5, .int .i64 (-1)] 3) none))
          have HLA := Lib.hid (ListAt.new w5 [97, 5, -1] 3)
          have HGA := Lib.hid (g_drew (g_call HG5.out hbn))
          have HXA := Lib.hid (HX5.out.call hbn)
          have HPA := Lib.hid (HP5.out.call hbn)
          have HSA := Lib.hid (HS5.out.below hbn)
          have hcl5 : w5.cell? ⟨g, 0, none⟩ = some (.int .i64 V0.x) := (HS5.out.rows.1.1.cellAt 0 (by omega)).trans (by rw [hF0]; rfl)
          have hclA : (w5.alloc (.cells #[.int .i64 97, .int .i64 5, .int .i64 (-1)] 3)).cell? ⟨g, 0, none⟩ = some (.int .i64 V0.x) := (HSA.out.rows.1.1.cellAt 0 (by omega)).trans (by rw [hF0]; rfl)
          obtain ⟨q0, q1, q2, q3, q4, q5, q6⟩ := HX5.out.cells
          obtain ⟨t0, t1, t2, t3, t4, t5, t6⟩ := HXA.out.cells
          have hwc : w5.heap.size ≠ c := by omega
          clear hbn hF0
          go_wp2_with fail
          go_region_held3 (fun w' => w'.cell? ⟨sv, 0, none⟩ = some (.slice (some ⟨g, 0, none⟩) RS.front.length fc)) (first | (rw [set1_far (by omega)]; assumption) | assumption | go_keep)
            ((go_at_call 73; refine (num_any w5.heap.size 3 [97, 5, -1] B c (p2 + 1) (World.drew (w5.alloc (.cells #[.int .i64 97, .int .i64 5, .int .i64 (-1)] 3))) (show Rd (World.drew (w5.alloc (.cells #[.int .i64 97, .int .i64 5, .int .i64 (-1)] 3))) B c (p2 + 1) from HRA.out) (by omega) (show ListAt (World.drew (w5.alloc (.cells #[.int .i64 97, .int .i64 5, .int .i64 (-1)] 3))) w5.heap.size [97, 5, -1] from HLA.out) hwc (by decide) (by decide)).mono ?_; rintro e w6 ⟨x, rfl, -, hr6, hg6⟩; have HR6 := Lib.hid hr6; have HG6 := Lib.hid (grown_trans HGA.out hg6); have HX6 := Lib.hid (HXA.out.grownD hg6 (fun e => by have := Option.some.inj e; omega)); have HP6 := Lib.hid (HPA.out.grownD hg6 (fun e => by have := Option.some.inj e; omega)); have HS6 := Lib.hid (HSA.out.keptD hg6 (fun j e => .inl (by have := Option.some.inj e; omega))); have HZ6 := Lib.hid hg6.size; have hfr := HS6.out.rows.1.1.frozenAt 0; have hcl6 := HS6.out.frontX HF0.out; obtain ⟨o0, o1, o2, o3, o4, o5, o6⟩ := HX6.out.cells; clear hr6 hg6))
          obtain ⟨W7, hW7⟩ : ∃ W7, W7 = w6.setCell ⟨g, 0, none⟩ (.int .i64 x) := ⟨_, rfl⟩
          have HX7 := Lib.hid (HX6.out.other (d := g) (by omega) 0 (.int .i64 x))
          have HP7 := Lib.hid (HP6.out.other (d := g) (by omega) 0 (.int .i64 x))
          have HR7 := Lib.hid (rd_set (o := 0) (u := .int .i64 x) HR6.out (show B ≤ g by omega) (show g ≠ c by omega))
          have HG7 := Lib.hid (g_set (d := g) (o := 0) (u := .int .i64 x) HG6.out (by omega))
          have HS7 := Lib.hid (HS6.out.headX HF0.out x)
          have hz7 : sv ≤ W7.heap.size := by have := HZ6.out; rw [hW7]; simp [World.setCell, World.drew] at this ⊢; omega
          have hsm7 : (⟨x, V0.y, V0.z⟩ :: F0 : List Agg.V).length ≤ 60 ∧ RS.items.length ≤ 60 := by
            have := hsm.1; rw [HF0.out] at this; exact ⟨by simpa using this, hsm.2⟩
          rw [← hW7] at HX7 HP7 HR7 HG7 HS7 ⊢
          clear hW7 q0 q1 q2 q3 q4 q5 q6 t0 t1 t2 t3 t4 t5 t6 o0 o1 o2 o3 o4 o5 o6 hcl5 hclA hcl6 hfr HX6 HP6 HR6 HG6 HS6
          obtain ⟨q0, q1, q2, q3, q4, q5, q6⟩ := HX7.out.cells
          obtain ⟨r0, r1, r2, r3, r4, r5, r6⟩ := HP7.out.cells
          have r7 := HP7.out.free
          go_wp2_with fail
          refine bodyPost_ret (by simp [results, Tryz.results62, go_sem, *]; try rfl) rfl ?_
          exact StkDrawn.fin HG7.out HR7.out hBc hlt HS7.out hz7 hz2 hsm7 (by omega) (by omega) _ _ _ _ _ _ _
      · by_cases h2 : y = 2
        · subst h2
          obtain ⟨q0, q1, q2, q3, q4, q5, q6⟩ := HX5.out.cells
          go_wp2_with fail
          refine (num_any w5.heap.size 3 [-1, 1000001, 900001] B c (p2 + 1) _ (HR5.out.kept (World.grownBy_alloc _ _ _)) (by omega) (ListAt.new w5 [-1, 1000001, 900001] _) (by have := HR5.out.2.1; omega) (by decide) (by decide)).mono ?_
          rintro e w6 ⟨x, rfl, -, hr6, hg6⟩
          have HR6 := Lib.hid (rd_set (o := 5) (u := .int .i64 x) hr6 (show B ≤ sv by omega) hsvc)
          have HG6 := Lib.hid (g_set (d := sv) (o := 5) (u := .int .i64 x) (grown_trans (grown_alloc HG5.out _) hg6) (by omega))
          have HX6a := Lib.hid ((HX5.out.alloc _).grown hg6 (fun e => by have := Option.some.inj e; omega))
          have HX6 := Lib.hid (HX6a.out.set5 (.int .i64 x))
          have HP6 := Lib.hid (((HP5.out.alloc _).grown hg6 (fun e => by have := Option.some.inj e; omega)).other (d := sv) (by omega) 5 (.int .i64 x))
          have HS6 := Lib.hid ((((HS5.out.below ((Below.refl w5.heap.size w5).alloc (Nat.le_refl _) _)).kept hg6 (fun j e => .inl (by have := Option.some.inj e; omega))).set1 (c := sv) (o := 5) (u := .int .i64 x) (.inr (Nat.le_refl _))).flipsX x)
          have hz6 : sv ≤ w6.heap.size := by have := hg6.size; simp at this; omega
          clear hr6 hg6 HR5 HG5 HX5 HP5 HS5 q0 q1 q2 q3 q4 q5 q6
          obtain ⟨q0, q1, q2, q3, q4, q5, q6⟩ := HX6a.out.cells
          have q7 := HX6a.out.free
          obtain ⟨W7, hW7⟩ : ∃ W7, W7 = w6.setCell ⟨sv, 5, none⟩ (.int .i64 x) := ⟨_, rfl⟩
          have hz7 : sv ≤ W7.heap.size := by rw [hW7]; simpa [World.setCell] using hz6
          rw [← hW7] at HR6 HG6 HX6 HP6 HS6
          go_upto_region 12 with (fail)
          rw [← hW7]
          clear hW7 q0 q1 q2 q3 q4 q5 q6 q7 HX6a
          obtain ⟨q0, q1, q2, q3, q4, q5, q6⟩ := HX6.out.cells
          obtain ⟨r0, r1, r2, r3, r4, r5, r6⟩ := HP6.out.cells
          have r7 := HP6.out.free
          go_wp2_with fail
          refine bodyPost_ret (by simp [results, Tryz.results62, go_sem, *]; try rfl) rfl ?_
          exact StkDrawn.fin HG6.out HR6.out hBc hlt HS6.out hz7 hz2 hsm (by omega) (by omega) _ _ _ _ _ _ _
        · obtain ⟨q0, q1, q2, q3, q4, q5, q6⟩ := HX5.out.cells
          obtain ⟨r0, r1, r2, r3, r4, r5, r6⟩ := HP5.out.cells
          have r7 := HP5.out.free
          go_wp2_with fail
          refine bodyPost_ret (by simp [results, Tryz.results62, go_sem, *]; try rfl) rfl ?_
          exact StkDrawn.fin HG5.out HR5.out hBc hlt HS5.out (by omega) hz2 hsm (by omega) (by omega) _ _ _ _ _ _ _
end Go.Proofs.YticoalgnkddapaaGreat
