/-
  The arguments of a step of a window with an inverse, as the model draws them.
-/
import Derived.Test.YtmlkdbmhekiniaaGreatQd
import Derived.Deep.RegionLaw
namespace Go.Proofs.YtmlkdbmhekiniaaGreat
set_option linter.unusedSimpArgs false
set_option linter.unusedVariables false
open Go.RowKit
theorem g_set6 {w wr : World} {f0 : Option Nat} {d o : Nat} {u : Value} (h : w.grownBy wr f0) (hd : w.heap.size ≤ d) : w.grownBy (wr.setCell ⟨d, o, none⟩ u) f0 := by
  obtain ⟨h1, h2, h3, h4, h5⟩ := h
  exact ⟨h1, h2, h3, by simpa [World.setCell] using h4, fun k hk hne => (Below.heap_setCell _ _ _ _ (by simp only; omega)).trans (h5 k hk hne)⟩
theorem Box2q.free {w : World} {c : Nat} {T : TypeId} {u v : Value} (h : Box2q w c T u v) (o : Nat) : w.frozen? ⟨c, o, none⟩ = false := by
  unfold Box2q at h
  simp [World.frozen?, h]
theorem rd_set6 {w : World} {B c d o : Nat} {p : Int} {u : Value} (h : Rd w B c p) (h1 : B ≤ d) (h2 : d ≠ c) : Rd (w.setCell ⟨d, o, none⟩ u) B c p :=
  h.kept' (row := some d) ⟨rfl, rfl, rfl, by simp [World.setCell], fun k hk hne => Below.heap_setCell _ _ _ _ (fun e => hne (by rw [e]))⟩ (fun k e => by have := Option.some.inj e; omega)
/-- A change is drawn; the reader is some steps further. -/
def OpDrawn6 (B c : Nat) (p : Int) (w : World) (e : Ending) (w' : World) : Prop :=
  ∃ (b : Bool) (x p' : Int), e = .returned (.agg #[.bool b, .int .i64 x]) ∧ p ≤ p' ∧ p' ≤ p + 2 ∧ Rd w' B c p' ∧ w.grownBy w' (some c)
set_option maxRecDepth 4000 in
set_option maxHeartbeats 1000000 in
theorem l3Op_6 (B c : Nat) (p : Int) (w : World) (h : Rd w B c p) (hp : p ≤ 900000) :
    Calls Tryz.prog 56 #[.pointer (some ⟨c, 0, none⟩)] w (OpDrawn6 B c p w) := by
  have hlt := h.2.1
  have hBc := h.1
  obtain ⟨W, hW⟩ : ∃ W, W = w.alloc (.cells #[.bool false, .int .i64 0] 29) := ⟨_, rfl⟩
  have HP := Lib.hid (show Box2q W w.heap.size 29 (.bool false) (.int .i64 0) from by rw [hW]; exact Box2q.new1 _ _ _ rfl)
  have HR := Lib.hid (show Rd W B c p from by rw [hW]; exact h.kept (World.grownBy_alloc _ _ _))
  have HG := Lib.hid (show w.grownBy W (some c) from by rw [hW]; exact grown_alloc (grown_refl w c) _)
  clear h
  go_enter Tryz.func56, Tryz.ntmps56
  go_wp2_with fail
  rw [← hW]
  clear hW
  refine (pick_any _ B c p _ HR.out (by omega) (by omega)).mono ?_
  rintro e w1 ⟨v, rfl, hv0, hv1, -, hr1, hg1⟩
  have HR1 := Lib.hid hr1
  have HG1 := Lib.hid (grown_trans HG.out hg1)
  have HP1 := Lib.hid (HP.out.grown hg1 (fun e => by have := Option.some.inj e; omega))
  clear hr1 hg1 hv1 HR HG HP
  by_cases hz : v = 0
  · subst hz
    go_wp2_with fail
    refine (num_any w1.heap.size 5 [0, 0, 0, 0, 5] B c (p + 1) _ (HR1.out.kept (World.grownBy_alloc _ _ _)) (by omega) (ListAt.new w1 [0, 0, 0, 0, 5] _) (by have := HR1.out.2.1; omega) (by decide) (by decide)).mono ?_
    rintro e w2 ⟨x, rfl, -, hr2, hg2⟩
    have HR2 := Lib.hid hr2
    have HG2 := Lib.hid (grown_trans (grown_alloc HG1.out _) hg2)
    have HP2 := Lib.hid ((HP1.out.alloc _).grown hg2 (fun e => by have := Option.some.inj e; omega))
    clear hr2 hg2 HR1 HG1 HP1
    obtain ⟨q0, q1⟩ := HP2.out.cells
    have q2 := HP2.out.free
    go_wp2_with fail
    refine bodyPost_ret (by simp [results, Tryz.results56, go_sem, *]; try rfl) rfl ?_
    exact ⟨false, x, p + 1 + 1, rfl, by omega, by omega, rd_set6 (rd_set6 HR2.out (by omega) (by omega)) (by omega) (by omega), g_set6 (g_set6 HG2.out (Nat.le_refl _)) (Nat.le_refl _)⟩
  · go_wp2_with fail
    refine (num_any w1.heap.size 6 [3, 7, 96, 0, 20, 97] B c (p + 1) _ (HR1.out.kept (World.grownBy_alloc _ _ _)) (by omega) (ListAt.new w1 [3, 7, 96, 0, 20, 97] _) (by have := HR1.out.2.1; omega) (by decide) (by decide)).mono ?_
    rintro e w2 ⟨x, rfl, -, hr2, hg2⟩
    have HR2 := Lib.hid hr2
    have HG2 := Lib.hid (grown_trans (grown_alloc HG1.out _) hg2)
    have HP2 := Lib.hid ((HP1.out.alloc _).grown hg2 (fun e => by have := Option.some.inj e; omega))
    clear hr2 hg2 HR1 HG1 HP1
    obtain ⟨q0, q1⟩ := HP2.out.cells
    have q2 := HP2.out.free
    go_wp2_with fail
    refine bodyPost_ret (by simp [results, Tryz.results56, go_sem, *]; try rfl) rfl ?_
    exact ⟨true, x, p + 1 + 1, rfl, by omega, by omega, rd_set6 (rd_set6 HR2.out (by omega) (by omega)) (by omega) (by omega), g_set6 (g_set6 HG2.out (Nat.le_refl _)) (Nat.le_refl _)⟩
theorem bytes_below6 {w w' : World} {a : Option Addr} {n cap : Nat} {l : List Int} (h : Bytes w a n cap l) (hb : Below w.heap.size w w') : Bytes w' a n cap l := by
  obtain ⟨h1, h2, h3⟩ := h
  refine ⟨h1, h2, ?_⟩
  rcases h3 with h3 | ⟨b, off, ha, hlt, hc⟩
  · exact .inl h3
  · exact .inr ⟨b, off, ha, Nat.lt_of_lt_of_le hlt hb.size, fun i hi => ⟨(hb.cell (p := ⟨b, off + i, none⟩) hlt).trans (hc i hi).1, (hc i hi).2⟩⟩
/-- A kind, a window with an inverse and a change are drawn, in new memory. -/
def IvCase (w : World) (e : Ending) (w' : World) : Prop :=
  ∃ (k : Int) (v : Value) (s : Agg.Iv) (b : Bool) (x : Int), e = .returned (.tuple #[.int .i64 k, v, .agg #[.bool b, .int .i64 x]]) ∧ IvOwn w' w.heap.size w'.heap.size v s ∧ s.items.length ≤ 61 ∧ Below w.heap.size w w'
/-- The variables of a case under way. -/
structure IvCaseSt (w : World) (B c sv lo : Nat) (v0 : Value) (x y z : Int) (n : Nat) (I : List Int) (p : Int) (wr : World) : Prop where
  x : Box4 wr sv 27 v0 (.int .i64 x) (.int .i64 y) (.int .i64 z)
  z : Box4 wr w.heap.size 27 (.slice none 0 0) (.int .i64 0) (.int .i64 0) (.int .i64 0)
  q : Box2q wr (w.heap.size + 1) 29 (.bool false) (.int .i64 0)
  r : Rd wr B c p
  o : wr.ownsRow lo 3 1 v0 n (I.map (Value.int .i64))
  d : ∀ g, v0.ownBlock = some g → g ≠ sv
  b : Below w.heap.size w wr
theorem IvCaseSt.step {w : World} {B c sv lo : Nat} {v0 : Value} {x y z : Int} {n : Nat} {I : List Int} {p p' : Int} {wr w2 : World} (h : IvCaseSt w B c sv lo v0 x y z n I p wr) (hr : Rd w2 B c p') (hg : wr.grownBy w2 (some c)) (h1 : w.heap.size + 1 < c) (h2 : c < lo) (h3 : c ≠ sv) : IvCaseSt w B c sv lo v0 x y z n I p' w2 :=
  ⟨h.x.grown hg (fun e => by have := Option.some.inj e; omega), h.z.grown hg (fun e => by have := Option.some.inj e; omega), h.q.grown hg (fun e => by have := Option.some.inj e; omega), hr, h.o.kept hg (by cases hv : v0.ownBlock with | none => exact .inl rfl | some g => exact .inr (fun e => by have := (h.o.lt g hv).1; have := Option.some.inj e; omega)), h.d, h.b.grown hg h.b.size (fun j e => by have := Option.some.inj e; omega)⟩
theorem IvCaseSt.stepD {w : World} {B c sv lo : Nat} {v0 : Value} {x y z : Int} {n : Nat} {I : List Int} {p p' : Int} {wr w2 : World} (h : IvCaseSt w B c sv lo v0 x y z n I p wr) (hr : Rd w2 B c p') (hg : wr.drew.grownBy w2 (some c)) (h1 : w.heap.size + 1 < c) (h2 : c < lo) (h3 : c ≠ sv) : IvCaseSt w B c sv lo v0 x y z n I p' w2 :=
  IvCaseSt.step (wr := wr.drew) ⟨h.x, h.z, h.q, h.r, h.o, h.d, h.b.drew⟩ hr hg h1 h2 h3
theorem IvCaseSt.alloc {w : World} {B c sv lo : Nat} {v0 : Value} {x y z : Int} {n : Nat} {I : List Int} {p : Int} {wr : World} (h : IvCaseSt w B c sv lo v0 x y z n I p wr) (ob : Obj) : IvCaseSt w B c sv lo v0 x y z n I p (wr.alloc ob) :=
  ⟨h.x.alloc _, h.z.alloc _, h.q.alloc _, h.r.kept (World.grownBy_alloc _ _ _), h.o.alloc _, h.d, h.b.alloc h.b.size _⟩
theorem IvCaseSt.setX {w : World} {B c sv lo : Nat} {v0 : Value} {x y z : Int} {n : Nat} {I : List Int} {p : Int} {wr : World} (h : IvCaseSt w B c sv lo v0 x y z n I p wr) (h1 : w.heap.size + 1 < sv) (h2 : B ≤ sv) (h3 : c ≠ sv) (x' : Int) : IvCaseSt w B c sv lo v0 x' y z n I p (wr.setCell ⟨sv, 1, none⟩ (.int .i64 x')) :=
  ⟨h.x.set1 _, h.z.other (by omega) _ _, h.q.other (by omega) _ _, rd_set6 h.r h2 (fun e => h3 e.symm), own_set_ne6 h.o h.d, h.d, h.b.setCell (p := ⟨sv, 1, none⟩) (show w.heap.size ≤ sv by omega) _⟩
theorem step_append_where6 {P : Program} {ops : Array Oper} {o : Oper} {a : Act} {w : World} {K : Act → World → Prop} {Q : Exit → Act → World → Prop} {E : Prop}
    (hg : o.guard = none) (s x : Operand) (t : TypeId) (hop : o.op = Op.call { callee := Callee.builtin Builtin.append, args := #[s, x], argTypes := #[t, t] })
    (base : Nat) (e : TypeId) (i : TypeInfo) (z : Value) (size bytes : Nat) (h1 : P.underlying t = some (.slice e)) (h2 : P.info? e = some i) (h3 : i.zero = some z) (h4 : i.size = size) (h5 : i.bytes = bytes) (h6 : z.cells.size = size) (h7 : 0 < size)
    (v : Value) (n : Nat) (xs : List Value) (hs : a.eval s = v) (hown : w.ownsRow base e size v n xs)
    (ad : Addr) (m c : Nat) (news : List Value) (hx : a.eval x = .slice (some ad) m c) (hn : news.length = m * size) (hc : ∀ j u, news[j]? = some u → w.cell? (ad.add j) = some u) (h1c : ∀ u ∈ news, u.oneCell' = true)
    (b1 : n + m ≤ maxLen) (b2 : (n + m) * bytes ≤ 140737488355328) (hbase : base ≤ w.heap.size)
    (hK : ∀ v' w', w'.ownsRow base e size v' (n + m) (xs ++ news) → w.grownBy w' v.ownBlock → (v'.ownBlock = v.ownBlock ∨ ∃ g, v'.ownBlock = some g ∧ w.heap.size ≤ g) → K (a.put o.dst v') w') :
    if Region.wanted o (yielded ops a.tmps) = true then Oper.wp P o a w K Q else E := by
  have hw : Region.wanted o (yielded ops a.tmps) = true := by simp [Region.wanted, hg]
  rw [if_pos hw]
  obtain ⟨v', w', hrun, q2, q3, q4⟩ := append_where w base t o.type e i z size bytes h1 h2 h3 h4 h5 h6 h7 v n xs hown ad m c news hn hc h1c b1 b2 hbase
  exact Lib.wp_append_run w s x t t hop v _ hs hx v' w' hrun (hK v' w' q2 q3 q4)
theorem IvCaseSt.appended {w : World} {B c sv lo : Nat} {v0 v' : Value} {x y z : Int} {n : Nat} {I J : List Int} {p : Int} {wr w2 : World} (h : IvCaseSt w B c sv lo v0 x y z n I p wr) (h2 : w.heap.size + 1 < c) (h3 : c < lo) (h4 : lo ≤ sv) (hBc : B ≤ c) {n' : Nat}
    (ho : w2.ownsRow lo 3 1 v' n' (J.map (Value.int .i64))) (hg : wr.grownBy w2 v0.ownBlock) (hw : v'.ownBlock = v0.ownBlock ∨ ∃ g, v'.ownBlock = some g ∧ wr.heap.size ≤ g) :
    IvCaseSt w B c sv lo v' x y z n' J p (w2.setCell ⟨sv, 0, none⟩ v') ∧ (∀ g, v'.ownBlock = some g → g ≠ sv) := by
  have hl : ∀ g, v0.ownBlock = some g → lo ≤ g := fun g e => (h.o.lt g e).1
  have hd' : ∀ g, v'.ownBlock = some g → g ≠ sv := by
    intro g e
    rcases hw with hw | ⟨g', e', hle⟩
    · exact h.d g (hw ▸ e)
    · rw [e'] at e; have := Option.some.inj e; have := h.x.lt; omega
  have hc := h.r.2.1
  have hn : ∀ d, d < lo → ∀ j, v0.ownBlock = some j → j ≠ d := fun d hd j e => by have := hl j e; omega
  have hs := hg.size
  refine ⟨⟨(h.x.grown hg (fun e => h.d _ e rfl)).set0 _, (h.z.grown hg (fun e => hn _ (by omega) _ e rfl)).other (by have := h.x.lt; omega) _ _, (h.q.grown hg (fun e => hn _ (by omega) _ e rfl)).other (by omega) _ _, rd_set6 (h.r.kept' hg (fun k e => by have := hl k e; omega)) (by omega) (by omega), own_set_ne6 ho hd', hd', (h.b.grown hg h.b.size (fun j e => by have := hl j e; omega)).setCell (p := ⟨sv, 0, none⟩) (show w.heap.size ≤ sv by omega) _⟩, hd'⟩
set_option maxRecDepth 8000 in
set_option maxHeartbeats 4000000 in
theorem drawInverseStep_any (a : Option Addr) (n cap : Nat) (l : List Int) (w : World) (h : Bytes w a n cap l) :
    Calls Tryz.prog 13 #[.slice a n cap] w (IvCase w) := by
  obtain ⟨W, hW⟩ : ∃ W, W = (w.alloc (.cells #[.slice none 0 0, .int .i64 0, .int .i64 0, .int .i64 0] 27)).alloc (.cells #[.bool false, .int .i64 0] 29) := ⟨_, rfl⟩
  have HP := Lib.hid (show Box4 W w.heap.size 27 (.slice none 0 0) (.int .i64 0) (.int .i64 0) (.int .i64 0) from by rw [hW]; exact (Box4.new w _ _ _ _ _).alloc _)
  have HQ := Lib.hid (show Box2q W (w.heap.size + 1) 29 (.bool false) (.int .i64 0) from by rw [hW]; exact Box2q.new1 _ _ _ (by simp))
  have HB := Lib.hid (show Below w.heap.size w W from by rw [hW]; exact ((Below.refl _ _).alloc (Nat.le_refl _) _).alloc (by simp) _)
  have HY := Lib.hid (show Bytes W a n cap l from bytes_below6 h HB.out)
  have hWs : w.heap.size + 1 < W.heap.size := HQ.out.lt
  clear h
  go_enter Tryz.func13, Tryz.ntmps13
  go_wp2_with fail
  rw [← hW]
  clear hW
  refine (open_any _ _ _ l _ HY.out).mono ?_
  rintro e w1 ⟨c, rfl, hr1, hb1⟩
  have HR1 := Lib.hid hr1
  have hc1 := hr1.1
  have hc2 := hr1.2.1
  have HP1 := Lib.hid (HP.out.call hb1)
  have HQ1 := Lib.hid (HQ.out.call hb1)
  have HB1 := Lib.hid (HB.out.trans (hb1.mono HB.out.size))
  clear hr1 hb1 HP HQ HB HY
  go_wp2_with fail
  refine (l6Kind_any w1.heap.size 4 [8, 1, 7, 2] _ c 0 _ (HR1.out.kept (World.grownBy_alloc _ _ _)) (by omega) (ListAt.new w1 [8, 1, 7, 2] _) (by omega) (by decide) (by decide)).mono ?_
  rintro e w3 ⟨k, p3, rfl, -, hp3, hq3, hr3, hg3⟩
  have HR3 := Lib.hid hr3
  have HP3 := Lib.hid ((HP1.out.alloc _).grown hg3 (fun e => by have := Option.some.inj e; omega))
  have HQ3 := Lib.hid ((HQ1.out.alloc _).grown hg3 (fun e => by have := Option.some.inj e; omega))
  have HB3 := Lib.hid ((HB1.out.alloc HB1.out.size _).grown hg3 (by have := HB1.out.size; simp; omega) (fun j e => by have := Option.some.inj e; omega))
  have hc3 : c < w3.heap.size := hr3.2.1
  clear hr3 hg3 HR1 HP1 HQ1 HB1
  go_wp2_with fail
  refine (num_any w3.heap.size 3 [10, 4, 16] _ c p3 _ (HR3.out.kept (World.grownBy_alloc _ _ _)) (by omega) (ListAt.new w3 [10, 4, 16] _) (by omega) (by decide) (by decide)).mono ?_
  rintro e w4 ⟨m, rfl, hm, hr4, hg4⟩
  obtain ⟨mm, rfl, hmm⟩ : ∃ mm : Nat, m = (mm : Int) ∧ mm ≤ 30 := by
    simp at hm
    rcases hm with rfl | rfl | rfl
    · exact ⟨10, rfl, by omega⟩
    · exact ⟨4, rfl, by omega⟩
    · exact ⟨16, rfl, by omega⟩
  have HR4 := Lib.hid hr4
  have HP4 := Lib.hid ((HP3.out.alloc _).grown hg4 (fun e => by have := Option.some.inj e; omega))
  have HQ4 := Lib.hid ((HQ3.out.alloc _).grown hg4 (fun e => by have := Option.some.inj e; omega))
  have HB4 := Lib.hid ((HB3.out.alloc HB3.out.size _).grown hg4 (by have := HB3.out.size; simp; omega) (fun j e => by have := Option.some.inj e; omega))
  have hc4 : c < w4.heap.size := hr4.2.1
  clear hr4 hg4 HR3 HP3 HQ3 HB3 hm
  go_wp2_with fail
  refine (l2Draw_any mm _ c (p3 + 1) _ HR4.out (by omega) (by omega)).mono ?_
  rintro e w5 ⟨v5, n5, l5, p5, rfl, ho5, hn5, hp5, hq5, hr5, hg5⟩
  have HR5 := Lib.hid hr5
  have hz5 := hg5.size
  have hO5 : OwnO w5 w4.heap.size w5.heap.size v5 n5 l5 := ⟨ho5, hg5.size, Nat.le_refl _, fun g hg => (ho5.lt g hg).2⟩
  obtain ⟨oa, oc, rfl, hOp⟩ := hO5.ops
  have HN := Lib.hid hOp
  have HP5 := Lib.hid (HP4.out.grown hg5 (fun e => by have := Option.some.inj e; omega))
  have HQ5 := Lib.hid (HQ4.out.grown hg5 (fun e => by have := Option.some.inj e; omega))
  have HB5 := Lib.hid (HB4.out.grown hg5 HB4.out.size (fun j e => by have := Option.some.inj e; omega))
  clear hr5 hg5 ho5 hO5 hOp HR4 HP4 HQ4 HB4
  have hbd := (Agg.ivRun_bound k l5).1
  have h1 := fun w h => s_inverseRun_any k oa n5 oc l5 w h
  obtain ⟨⟨SI, ⟨X, Y, Z⟩⟩, hS⟩ : ∃ S, S = Agg.ivRunS k l5 := ⟨_, rfl⟩
  rw [← hS] at h1 hbd
  simp only at hbd
  have H1 := Lib.hid h1
  clear h1 hS
  go_wp2_with fail
  refine (H1.out _ HN.out).mono ?_
  rintro e w6 ⟨v6, u6, n6, rfl, r6, -, hb6⟩
  obtain ⟨iv, rfl, hiv⟩ := r6
  obtain ⟨ia, ic, rfl, hI, -⟩ := hiv.nums
  simp only at hI hiv
  have hz6 := hb6.size
  obtain ⟨W7, hW7⟩ : ∃ W7, W7 = w6.alloc (.cells #[.slice ia SI.length ic, .int .i64 X, .int .i64 Y, .int .i64 Z] 27) := ⟨_, rfl⟩
  have hbn : Below w6.heap.size w6 W7 := by rw [hW7]; exact (Below.refl _ _).alloc (Nat.le_refl _) _
  have hb57 := hb6.trans (hbn.mono hb6.size)
  have HST := Lib.hid (show IvCaseSt w W.heap.size c w6.heap.size w5.heap.size (.slice ia SI.length ic) X Y Z SI.length SI p5 W7 from
    ⟨by rw [hW7]; exact Box4.new w6 _ _ _ _ _, HP5.out.call hb57, HQ5.out.call hb57, HR5.out.kept (Below.grownNone hb57 none), hiv.1.kept (Below.grownNone hbn none) (by cases hv : (Value.slice ia SI.length ic).ownBlock <;> simp), fun g hg => by have := hiv.2.2.2 g hg; omega, HB5.out.trans (hb57.mono HB5.out.size)⟩)
  clear hbn hb57 HR5 HP5 HQ5 HB5 hiv hI H1 HN hb6
  go_upto_region 4 with (fail)
  rw [← hW7]
  clear hW7
  obtain ⟨sv, hsv⟩ : ∃ sv, sv = w6.heap.size := ⟨_, rfl⟩
  obtain ⟨lo, hlo⟩ : ∃ lo, lo = w5.heap.size := ⟨_, rfl⟩
  obtain ⟨B, hB⟩ : ∃ B, B = W.heap.size := ⟨_, rfl⟩
  rw [← hsv, ← hlo, ← hB] at HST
  rw [← hsv, ← hlo] at hz6
  rw [← hlo] at hz5
  rw [← hB] at hc1 hWs
  rw [← hsv]
  clear hsv hlo hB
  have hc3 : c < lo := by omega
  have hcs : c ≠ sv := by omega
  have hwc : w.heap.size + 1 < c := by omega
  go_wp2_with fail
  refine (pick_any 16 B c p5 _ HST.out.r (by omega) (by omega)).mono ?_
  rintro e w8 ⟨x8, rfl, hx0, -, -, hr8, hg8⟩
  have HST8 := Lib.hid (HST.out.step hr8 hg8 hwc hc3 hcs)
  clear hr8 hg8 HST
  by_cases h0 : x8 = 0
  · subst h0
    go_wp2_with fail
    refine (num_any w8.heap.size 3 [5, 97, -1] B c (p5 + 1) _ (HST8.out.r.kept (World.grownBy_alloc _ _ _)) (by omega) (ListAt.new w8 [5, 97, -1] _) (by have := HST8.out.r.2.1; omega) (by decide) (by decide)).mono ?_
    rintro e w9 ⟨x9, rfl, -, hr9, hg9⟩
    have HST9 := Lib.hid ((HST8.out.alloc _).step hr9 hg9 hwc hc3 hcs)
    clear hr9 hg9 HST8
    obtain ⟨q0, q1, q2, q3⟩ := HST9.out.x.cells
    have q7 := HST9.out.x.free
    obtain ⟨X', hX'⟩ : ∃ X', X' = x9 := ⟨_, rfl⟩
    rw [← hX']
    clear hX'
    have HST8 := Lib.hid (HST9.out.setX (by omega) (by omega) hcs X')
    go_upto_region 9 with (fail)
    clear q0 q1 q2 q3 q7 HST9
    obtain ⟨w8, hw8⟩ : ∃ w8, w8 = w9.setCell ⟨sv, 1, none⟩ (.int .i64 X') := ⟨_, rfl⟩
    rw [← hw8] at HST8 ⊢
    clear hw8
    obtain ⟨q0, q1, q2, q3⟩ := HST8.out.x.cells
    obtain ⟨r0, r1, r2, r3⟩ := HST8.out.z.cells
    have r7 := HST8.out.z.free
    obtain ⟨y0, y1⟩ := HST8.out.q.cells
    have y7 := HST8.out.q.free
    go_region_with (go_at_call 56; refine (l3Op_6 B c _ (World.drew w8) (show Rd (World.drew w8) B c _ from HST8.out.r) (by omega)).mono ?_; rintro e w9 ⟨b9, x9, p9, rfl, hp9, hq9, hr9, hg9⟩; have HST9 := Lib.hid (HST8.out.stepD hr9 hg9 hwc hc3 hcs); obtain ⟨t0, t1, t2, t3⟩ := HST9.out.x.cells; obtain ⟨u0, u1, u2, u3⟩ := HST9.out.z.cells; have u7 := HST9.out.z.free; obtain ⟨y2, y3⟩ := HST9.out.q.cells; have y8 := HST9.out.q.free; clear hr9 hg9)
    all_goals
      have hxs := HST9.out.x.lt
      clear q0 q1 q2 q3 t0 t1 t2 t3 r0 r1 r2 r3 r7 y0 y1 y7
      go_wp2_with fail
      refine bodyPost_ret (by simp [results, Tryz.results13, go_sem, *]; try rfl) rfl ?_
      have hf0 := fun g hg => show g ≠ w.heap.size from by have := (HST9.out.o.lt g hg).1; omega
      have hf1 := fun g hg => show g ≠ w.heap.size + 1 from by have := (HST9.out.o.lt g hg).1; omega
      have hbb := ((sets4 HST9.out.b (Nat.le_refl _) (.slice ia SI.length ic) (.int .i64 X') (.int .i64 Y) (.int .i64 Z)).setCell (p := ⟨w.heap.size + 1, 0, none⟩) (Nat.le_succ _) (.bool b9)).setCell (p := ⟨w.heap.size + 1, 1, none⟩) (Nat.le_succ _) (.int .i64 x9)
      exact ⟨k, _, ⟨SI, ⟨X', Y, Z⟩⟩, b9, x9, rfl, ⟨_, rfl, OwnR.of6 (own_set_ne6 (own_set_ne6 (own_sets4 HST9.out.o hf0 _ _ _ _) hf1) hf1) (by omega) hbb.size⟩, show SI.length ≤ 61 by omega, hbb⟩
  · by_cases h1 : x8 = 1
    · subst h1
      obtain ⟨i0, hi0, hz0, hz1, hz2⟩ := info_parts infoInt
      have hsl : sv < w8.heap.size := HST8.out.x.lt
      obtain ⟨q0, q1, q2, q3⟩ := HST8.out.x.cells
      go_upto_region 8 with (fail)
      go_region_law (first
        | (go_simp; go_at_call 54; refine (num_any w8.heap.size 2 [97, 3] B c (p5 + 1) (World.drew (w8.alloc (.cells #[.int .i64 97, .int .i64 3] 3))) (show Rd (w8.alloc (.cells #[.int .i64 97, .int .i64 3] 3)) B c (p5 + 1) from HST8.out.r.kept (World.grownBy_alloc _ _ _)) (by omega) (show ListAt (w8.alloc (.cells #[.int .i64 97, .int .i64 3] 3)) w8.heap.size [97, 3] from ListAt.new w8 [97, 3] _) (by omega) (by decide) (by decide)).mono ?_; rintro e w9 ⟨x9, rfl, -, hr9, hg9⟩; have hs9 := hg9.size; have HST9 := Lib.hid ((HST8.out.alloc (.cells #[.int .i64 97, .int .i64 3] 3)).stepD hr9 hg9 hwc hc3 hcs); obtain ⟨t0, t1, t2, t3⟩ := HST9.out.x.cells; obtain ⟨p0, p1, p2, p3⟩ := (HST9.out.x.alloc (.cells #[.int .i64 x9] 3)).cells; clear hr9 hg9)
        | (refine step_append_where6 (by rfl) (.tmp 38) (.tmp 42) 23 (by rfl) lo 3 i0 (.int .i64 0) 1 8 Tryz.underlying23 hi0 hz0 hz1 hz2 rfl (by decide) (.slice ia SI.length ic) SI.length (SI.map (Value.int .i64)) (by rfl) (HST9.out.o.alloc _) ⟨w9.heap.size, 0, none⟩ 1 1 [.int .i64 x9] (by rfl) (by rfl) (cell_one_new _ _ _) (ints_oneCell .i64 [x9]) (by unfold maxLen; omega) (by omega) (by have := HST9.out.x.lt; simp; omega) ?_; intro v10 w10 hown10 hgrow10 hwhere10; obtain ⟨ja, jc, rfl⟩ := p_slice hown10; have HO10 := Lib.hid hown10; have HG10 := Lib.hid hgrow10; have HW10 := Lib.hid hwhere10; obtain ⟨s0, s1, s2, s3⟩ := ((HST9.out.x.alloc (.cells #[.int .i64 x9] 3)).grown hgrow10 (fun e => HST9.out.d _ e rfl)).cells; have s7 := ((HST9.out.x.alloc (.cells #[.int .i64 x9] 3)).grown hgrow10 (fun e => HST9.out.d _ e rfl)).free; clear hown10 hgrow10 hwhere10))
      all_goals
        obtain ⟨HST, HD⟩ := HST9.out.alloc (.cells #[.int .i64 x9] 3) |>.appended (J := SI ++ [x9]) hwc hc3 hz6 hc1 (by rw [List.map_append]; exact HO10.out) HG10.out HW10.out
        have HST8 := Lib.hid HST
        clear HST HD HST9 HO10 HG10 HW10 q0 q1 q2 q3 t0 t1 t2 t3 p0 p1 p2 p3 s0 s1 s2 s3 s7
        obtain ⟨IL, hIL⟩ : ∃ IL, IL = SI ++ [x9] := ⟨_, rfl⟩
        have hILn : IL.length = SI.length + 1 := by rw [hIL]; simp
        have hIL61 : IL.length ≤ 61 := by omega
        rw [← hIL, ← hILn] at HST8
        rw [← hILn]
        clear hIL hILn
        go_upto_region 9 with (fail)
        obtain ⟨w8, hw8⟩ : ∃ w8', w8' = w10.setCell ⟨sv, 0, none⟩ (.slice ja IL.length jc) := ⟨_, rfl⟩
        rw [← hw8] at HST8 ⊢
        clear hw8
        obtain ⟨q0, q1, q2, q3⟩ := HST8.out.x.cells
        obtain ⟨r0, r1, r2, r3⟩ := HST8.out.z.cells
        have r7 := HST8.out.z.free
        obtain ⟨y0, y1⟩ := HST8.out.q.cells
        have y7 := HST8.out.q.free
        go_region_with (go_at_call 56; refine (l3Op_6 B c _ (World.drew w8) (show Rd (World.drew w8) B c _ from HST8.out.r) (by omega)).mono ?_; rintro e w9 ⟨b9, x9, p9, rfl, hp9, hq9, hr9, hg9⟩; have HST9 := Lib.hid (HST8.out.stepD hr9 hg9 hwc hc3 hcs); obtain ⟨t0, t1, t2, t3⟩ := HST9.out.x.cells; obtain ⟨u0, u1, u2, u3⟩ := HST9.out.z.cells; have u7 := HST9.out.z.free; obtain ⟨y2, y3⟩ := HST9.out.q.cells; have y8 := HST9.out.q.free; clear hr9 hg9)
        all_goals
          have hxs := HST9.out.x.lt
          clear q0 q1 q2 q3 t0 t1 t2 t3 r0 r1 r2 r3 r7 y0 y1 y7
          go_wp2_with fail
          refine bodyPost_ret (by simp [results, Tryz.results13, go_sem, *]; try rfl) rfl ?_
          have hf0 := fun g hg => show g ≠ w.heap.size from by have := (HST9.out.o.lt g hg).1; omega
          have hf1 := fun g hg => show g ≠ w.heap.size + 1 from by have := (HST9.out.o.lt g hg).1; omega
          have hbb := ((sets4 HST9.out.b (Nat.le_refl _) (.slice ja IL.length jc) (.int .i64 X) (.int .i64 Y) (.int .i64 Z)).setCell (p := ⟨w.heap.size + 1, 0, none⟩) (Nat.le_succ _) (.bool b9)).setCell (p := ⟨w.heap.size + 1, 1, none⟩) (Nat.le_succ _) (.int .i64 x9)
          exact ⟨k, _, ⟨IL, ⟨X, Y, Z⟩⟩, b9, x9, rfl, ⟨_, rfl, OwnR.of6 (own_set_ne6 (own_set_ne6 (own_sets4 HST9.out.o hf0 _ _ _ _) hf1) hf1) (by omega) hbb.size⟩, hIL61, hbb⟩
    · obtain ⟨X', rfl⟩ : ∃ X', X' = X := ⟨_, rfl⟩
      go_upto_region 9 with (fail)
      obtain ⟨q0, q1, q2, q3⟩ := HST8.out.x.cells
      obtain ⟨r0, r1, r2, r3⟩ := HST8.out.z.cells
      have r7 := HST8.out.z.free
      obtain ⟨y0, y1⟩ := HST8.out.q.cells
      have y7 := HST8.out.q.free
      go_region_with (go_at_call 56; refine (l3Op_6 B c _ (World.drew w8) (show Rd (World.drew w8) B c _ from HST8.out.r) (by omega)).mono ?_; rintro e w9 ⟨b9, x9, p9, rfl, hp9, hq9, hr9, hg9⟩; have HST9 := Lib.hid (HST8.out.stepD hr9 hg9 hwc hc3 hcs); obtain ⟨t0, t1, t2, t3⟩ := HST9.out.x.cells; obtain ⟨u0, u1, u2, u3⟩ := HST9.out.z.cells; have u7 := HST9.out.z.free; obtain ⟨y2, y3⟩ := HST9.out.q.cells; have y8 := HST9.out.q.free; clear hr9 hg9)
      all_goals
        have hxs := HST9.out.x.lt
        clear q0 q1 q2 q3 t0 t1 t2 t3 r0 r1 r2 r3 r7 y0 y1 y7
        go_wp2_with fail
        refine bodyPost_ret (by simp [results, Tryz.results13, go_sem, *]; try rfl) rfl ?_
        have hf0 := fun g hg => show g ≠ w.heap.size from by have := (HST9.out.o.lt g hg).1; omega
        have hf1 := fun g hg => show g ≠ w.heap.size + 1 from by have := (HST9.out.o.lt g hg).1; omega
        have hbb := ((sets4 HST9.out.b (Nat.le_refl _) (.slice ia SI.length ic) (.int .i64 X') (.int .i64 Y) (.int .i64 Z)).setCell (p := ⟨w.heap.size + 1, 0, none⟩) (Nat.le_succ _) (.bool b9)).setCell (p := ⟨w.heap.size + 1, 1, none⟩) (Nat.le_succ _) (.int .i64 x9)
        exact ⟨k, _, ⟨SI, ⟨X', Y, Z⟩⟩, b9, x9, rfl, ⟨_, rfl, OwnR.of6 (own_set_ne6 (own_set_ne6 (own_sets4 HST9.out.o hf0 _ _ _ _) hf1) hf1) (by omega) hbb.size⟩, show SI.length ≤ 61 by omega, hbb⟩
end Go.Proofs.YtmlkdbmhekiniaaGreat
