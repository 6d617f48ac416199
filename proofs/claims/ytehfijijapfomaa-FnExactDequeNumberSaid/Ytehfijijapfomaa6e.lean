/-
  Windows with an inverse as the exact laws take, copy, compare, mark and hold them; an answer in a variable of its own.
-/
import Derived.Test.Ytehfijijapfomaa6s
import Derived.Test.Ytehfijijapfomaa6b
import Derived.Test.Ytehfijijapfomaa6o
import Derived.Deep.Cut
import Derived.Deep.DeepMust
namespace Go.Proofs.Ytehfijijapfomaa
set_option linter.unusedSimpArgs false
set_option linter.unusedVariables false
open Go.RowKit
theorem e6_slice {w : World} {base e size n : Nat} {v : Value} {xs : List Value} (h : w.ownsRow base e size v n xs) : ∃ a c, v = .slice a n c := by
  rcases h.2 with ⟨rfl, rfl⟩ | ⟨g, cap, cur, rfl, -⟩
  · exact ⟨none, 0, rfl⟩
  · exact ⟨_, cap, rfl⟩
theorem e6_low {w : World} {base e size n d o : Nat} {v u : Value} {xs : List Value} (h : w.ownsRow base e size v n xs) (hd : d < base) : (w.setCell ⟨d, o, none⟩ u).ownsRow base e size v n xs := ownsRow_setCell_below h hd u
theorem e6_size4 {wr : World} {c : Nat} (u0 u1 u2 u3 : Value) : ((((wr.setCell ⟨c, 0, none⟩ u0).setCell ⟨c, 1, none⟩ u1).setCell ⟨c, 2, none⟩ u2).setCell ⟨c, 3, none⟩ u3).heap.size = wr.heap.size := by simp [World.setCell]
theorem e6_below4 {w wr : World} {c d : Nat} (h : Below d w wr) (hd : d ≤ c) (u0 u1 u2 u3 : Value) :
    Below d w ((((wr.setCell ⟨c, 0, none⟩ u0).setCell ⟨c, 1, none⟩ u1).setCell ⟨c, 2, none⟩ u2).setCell ⟨c, 3, none⟩ u3) := (((h.setCell hd u0).setCell hd u1).setCell hd u2).setCell hd u3
theorem OwnR.set1 {w : World} {lo hi n d o : Nat} {v u : Value} {l : List Int} (h : OwnR w lo hi v n l) (hd : d < lo ∨ hi ≤ d) : OwnR (w.setCell ⟨d, o, none⟩ u) lo hi v n l :=
  h.kept (row := some d) ⟨rfl, rfl, rfl, by simp [World.setCell], fun k hk hne => Below.heap_setCell _ _ _ _ (fun e => hne (by rw [e]))⟩ (fun j e => by cases e; exact hd)
theorem szIntS_6 (a : Option Addr) (n cap : Nat) (w : World) (hn : n ≤ 9223372036854775807) :
    Calls Try.prog 39 #[.slice a n cap, .int .i64 1048576] w fun e w' => e = .returned (.int .i64 (if n ≤ 1048576 then 1048576 - (n : Int) else -1)) ∧ w = w' := by
  by_cases h : n ≤ 1048576
  · rw [if_pos h]
    have h2 : ¬ ((1048576 : Int) - (n : Int) < 0) := by omega
    go_enter Try.func39, Try.ntmps39
    go_wp2
    go_returns
    exact ⟨rfl, rfl⟩
  · rw [if_neg h]
    have h2 : (1048576 : Int) - (n : Int) < 0 := by omega
    go_enter Try.func39, Try.ntmps39
    go_wp2
    go_returns
    exact ⟨rfl, rfl⟩
theorem szInverse_any (ia : Option Addr) (m ic : Nat) (ax ay az : Int) (w : World) (hm : m ≤ 9223372036854775807) :
    Calls Try.prog 9 #[.agg #[.slice ia m ic, .int .i64 ax, .int .i64 ay, .int .i64 az], .int .i64 1048576] w fun e w' => e = .returned (.int .i64 (if m ≤ 1048576 then 1048576 - (m : Int) else -1)) ∧ Below w.heap.size w w' := by
  have hT := fun w => szIntS_6 ia m ic w hm
  by_cases h : m ≤ 1048576
  · rw [if_pos h] at hT ⊢
    have HT := Lib.hid hT
    clear hT
    have h3 : ¬ (1048576 - (m : Int) < 0) := by omega
    go_enter Try.func9, Try.ntmps9
    go_wp2_with fail
    refine (HT.out _).mono ?_
    rintro e w1 ⟨rfl, rfl⟩
    go_wp2_with fail
    go_returns
    exact ⟨rfl, (by first | (go_grown; done) | (refine below_drewN ?_ _; go_grown; done) | (refine (below_drewN _ ?_); go_grown; done))⟩
  · rw [if_neg h] at hT ⊢
    have HT := Lib.hid hT
    clear hT
    go_enter Try.func9, Try.ntmps9
    go_wp2_with fail
    refine (HT.out _).mono ?_
    rintro e w1 ⟨rfl, rfl⟩
    go_wp2_with fail
    go_returns
    exact ⟨rfl, (by first | (go_grown; done) | (refine below_drewN ?_ _; go_grown; done) | (refine (below_drewN _ ?_); go_grown; done))⟩
theorem toValue_6 (x y z : Int) (w : World) :
    Calls Try.prog 36 #[.agg #[.int .i64 x, .int .i64 y, .int .i64 z]] w fun e w' => e = .returned (.agg #[.int .i64 x, .int .i64 y, .int .i64 z]) ∧ Below w.heap.size w w' := by
  go_enter Try.func36, Try.ntmps36
  go_wp2
  refine bodyPost_ret (by simp [results, Try.results36, go_sem, *]; try rfl) rfl ?_
  exact ⟨rfl, (by first | (go_grown; done) | (refine below_drewN ?_ _; go_grown; done) | (refine (below_drewN _ ?_); go_grown; done))⟩
theorem eqValue_6 (x y z : Int) (w : World) :
    Calls Try.prog 38 #[.agg #[.int .i64 x, .int .i64 y, .int .i64 z], .agg #[.int .i64 x, .int .i64 y, .int .i64 z]] w fun e w' => e = .returned (.bool true) ∧ Below w.heap.size w w' := by
  go_enter Try.func38, Try.ntmps38
  go_wp2
  go_returns
  exact ⟨rfl, (by first | (go_grown; done) | (refine below_drewN ?_ _; go_grown; done) | (refine (below_drewN _ ?_); go_grown; done))⟩
/-- A window with an inverse is made anew. -/
def MadeIv (s : Agg.Iv) (w : World) (e : Ending) (w' : World) : Prop := ∃ v, e = .returned v ∧ IvOwn w' w.heap.size w'.heap.size v s ∧ Below w.heap.size w w'
set_option maxRecDepth 8000 in
set_option maxHeartbeats 4000000 in
theorem toInverse_own (ia : Option Addr) (m ic : Nat) (ax ay az : Int) (I : List Int) (w : World) (hI : Nums .i64 w ia m ic I) (h2 : m ≤ 1048576) :
    Calls Try.prog 11 #[.agg #[.slice ia m ic, .int .i64 ax, .int .i64 ay, .int .i64 az]] w (MadeIv ⟨I, ⟨ax, ay, az⟩⟩ w) := by
  have HIL := Lib.hid (show I.length = m from hI.1)
  have HI := Lib.hid hI
  obtain ⟨W, hW⟩ : ∃ W, W = (((w.alloc (.cells #[.slice ia m ic, .int .i64 ax, .int .i64 ay, .int .i64 az] 26)).alloc (.cells #[.slice none 0 0, .int .i64 0, .int .i64 0, .int .i64 0] 31)).alloc (.cells #[.slice none 0 0, .int .i64 0, .int .i64 0, .int .i64 0] 31)) := ⟨_, rfl⟩
  have HA := Lib.hid (show Box4 W w.heap.size 26 (.slice ia m ic) (.int .i64 ax) (.int .i64 ay) (.int .i64 az) from by rw [hW]; exact ((Box4.new w _ _ _ _ _).alloc _).alloc _)
  have HR := Lib.hid (show Box4 W (w.heap.size + 1) 31 (.slice none 0 0) (.int .i64 0) (.int .i64 0) (.int .i64 0) from by rw [hW]; exact (Box4.new1 (Y := w.alloc _) _ _ _ _ _ (by simp)).alloc _)
  have HO := Lib.hid (show Box4 W (w.heap.size + 2) 31 (.slice none 0 0) (.int .i64 0) (.int .i64 0) (.int .i64 0) from by rw [hW]; exact Box4.new1 (Y := (w.alloc _).alloc _) _ _ _ _ _ (by simp))
  have HB := Lib.hid (show Below w.heap.size w W from by rw [hW]; exact (((Below.refl _ _).alloc (Nat.le_refl _) _).alloc (by simp) _).alloc (by simp; omega) _)
  have hbs : w.heap.size + 2 < W.heap.size := HO.out.lt
  have HBS := Lib.hid hbs
  clear hI hbs
  go_enter Try.func11, Try.ntmps11
  go_wp2_with fail
  rw [← hW]
  clear hW
  refine (toIntS_own _ _ _ I _ (HI.out.below HB.out) h2).mono ?_
  rintro e w1 ⟨v1, rfl, ho1, hb1⟩
  obtain ⟨a1, c1, rfl⟩ := e6_slice ho1.1
  have HA1 := Lib.hid (HA.out.call hb1)
  have HR1 := Lib.hid (HR.out.call hb1)
  have HO1 := Lib.hid (HO.out.call hb1)
  have HB1 := Lib.hid (HB.out.trans (hb1.mono HB.out.size))
  have HJ1 := Lib.hid ho1.1
  obtain ⟨q0, q1, q2, q3⟩ := HA1.out.cells
  obtain ⟨p0, p1, p2, p3⟩ := HO1.out.cells
  have g1 := HO1.out.free
  clear hb1 ho1 HA HR HO HB
  go_wp2_with fail
  obtain ⟨X1, hX1⟩ : ∃ X1, X1 = w1.setCell ⟨w.heap.size + 2, 0, none⟩ (.slice a1 m c1) := ⟨_, rfl⟩
  have HB2 := Lib.hid (show Below w.heap.size w X1 from by rw [hX1]; exact HB1.out.setCell (by simp) _)
  have HR2 := Lib.hid (show Box4 X1 (w.heap.size + 1) 31 (.slice none 0 0) (.int .i64 0) (.int .i64 0) (.int .i64 0) from by rw [hX1]; exact HR1.out.other (by omega) _ _)
  have HO2 := Lib.hid (show Box4 X1 (w.heap.size + 2) 31 (.slice a1 m c1) (.int .i64 0) (.int .i64 0) (.int .i64 0) from by rw [hX1]; exact HO1.out.set0 _)
  have HJ2 := Lib.hid (show X1.ownsRow W.heap.size 3 1 (.slice a1 m c1) m (I.map (Value.int .i64)) from by rw [hX1]; exact e6_low HJ1.out HBS.out)
  rw [← hX1]
  clear hX1 HB1 HA1 HR1 HO1 HJ1 q0 q1 q2 q3 p0 p1 p2 p3 g1
  refine (toValue_6 _ _ _ _).mono ?_
  rintro e w2 ⟨rfl, hb2⟩
  have HR3 := Lib.hid (HR2.out.call hb2)
  have HO3 := Lib.hid (HO2.out.call hb2)
  have HB3 := Lib.hid (HB2.out.trans (hb2.mono HB2.out.size))
  have HJ3 := Lib.hid (HJ2.out.kept (Below.grownNone hb2 none) (Classical.em _))
  clear hb2 HR2 HO2 HB2 HJ2
  obtain ⟨p0, p1, p2, p3⟩ := HO3.out.cells
  have g2 := HO3.out.free
  go_upto_region 4 with (fail)
  obtain ⟨X2, hX2⟩ : ∃ X2, X2 = ((w2.setCell ⟨w.heap.size + 2, 1, none⟩ (.int .i64 ax)).setCell ⟨w.heap.size + 2, 2, none⟩ (.int .i64 ay)).setCell ⟨w.heap.size + 2, 3, none⟩ (.int .i64 az) := ⟨_, rfl⟩
  have HB4 := Lib.hid (show Below w.heap.size w X2 from by rw [hX2]; exact ((HB3.out.setCell (by simp) _).setCell (by simp) _).setCell (by simp) _)
  have HR4 := Lib.hid (show Box4 X2 (w.heap.size + 1) 31 (.slice none 0 0) (.int .i64 0) (.int .i64 0) (.int .i64 0) from by rw [hX2]; exact ((HR3.out.other (by omega) _ _).other (by omega) _ _).other (by omega) _ _)
  have HO4 := Lib.hid (show Box4 X2 (w.heap.size + 2) 31 (.slice a1 m c1) (.int .i64 ax) (.int .i64 ay) (.int .i64 az) from by rw [hX2]; exact ((HO3.out.set1 _).set2 _).set3 _)
  have HJ4 := Lib.hid (show X2.ownsRow W.heap.size 3 1 (.slice a1 m c1) m (I.map (Value.int .i64)) from by rw [hX2]; exact e6_low (e6_low (e6_low HJ3.out HBS.out) HBS.out) HBS.out)
  rw [← hX2]
  clear hX2 HB3 HR3 HO3 HJ3 p0 p1 p2 p3 g2
  obtain ⟨p0, p1, p2, p3⟩ := HO4.out.cells
  obtain ⟨r0, r1, r2, r3⟩ := HR4.out.cells
  have g3 := HR4.out.free
  go_wp2_with fail
  refine bodyPost_ret (by simp [results, Try.results11, go_sem, *]; try rfl) rfl ?_
  have hi2 := HIL.out
  subst hi2
  have hbl : w.heap.size + 1 < W.heap.size := by have := HBS.out; omega
  have hWW := e6_below4 (c := w.heap.size + 1) HB4.out (by omega) (.slice a1 I.length c1) (.int .i64 ax) (.int .i64 ay) (.int .i64 az)
  have hJJ := e6_low (d := w.heap.size + 1) (o := 3) (u := .int .i64 az) (e6_low (d := w.heap.size + 1) (o := 2) (u := .int .i64 ay) (e6_low (d := w.heap.size + 1) (o := 1) (u := .int .i64 ax) (e6_low (d := w.heap.size + 1) (o := 0) (u := .slice a1 I.length c1) HJ4.out hbl) hbl) hbl) hbl
  exact ⟨_, rfl, ⟨_, rfl, ⟨owns_lower hJJ (by omega), hWW.size, Nat.le_refl _, fun g hg => (hJJ.lt g hg).2⟩⟩, hWW⟩
set_option maxRecDepth 8000 in
set_option maxHeartbeats 4000000 in
theorem eqInverse_own {lo hi lo' hi' : Nat} {v v' : Value} {s : Agg.Iv} (w : World) (h : IvOwn w lo hi v s) (h' : IvOwn w lo' hi' v' s) :
    Calls Try.prog 13 #[v, v'] w fun e w' => e = .returned (.bool true) ∧ Below w.heap.size w w' := by
  obtain ⟨ia, ic, rfl, hI⟩ := h.read
  obtain ⟨ia', ic', rfl, hI'⟩ := h'.read
  obtain ⟨I, ax, ay, az⟩ := s
  simp only at hI hI'
  have HI := Lib.hid hI
  have HI' := Lib.hid hI'
  clear h h' hI hI'
  obtain ⟨m, hm⟩ : ∃ m, m = I.length := ⟨_, rfl⟩
  rw [← hm] at HI HI'
  simp only [← hm]
  clear hm
  obtain ⟨W, hW⟩ : ∃ W, W = ((w.alloc (.cells #[.slice ia m ic, .int .i64 ax, .int .i64 ay, .int .i64 az] 31)).alloc (.cells #[.slice ia' m ic', .int .i64 ax, .int .i64 ay, .int .i64 az] 31)) := ⟨_, rfl⟩
  have HA := Lib.hid (show Box4 W w.heap.size 31 (.slice ia m ic) (.int .i64 ax) (.int .i64 ay) (.int .i64 az) from by rw [hW]; exact (Box4.new w _ _ _ _ _).alloc _)
  have HR := Lib.hid (show Box4 W (w.heap.size + 1) 31 (.slice ia' m ic') (.int .i64 ax) (.int .i64 ay) (.int .i64 az) from by rw [hW]; exact Box4.new1 (Y := w.alloc _) _ _ _ _ _ (by simp))
  have HB := Lib.hid (show Below w.heap.size w W from by rw [hW]; exact ((Below.refl _ _).alloc (Nat.le_refl _) _).alloc (by simp) _)
  go_enter Try.func13, Try.ntmps13
  go_wp2_with fail
  rw [← hW]
  clear hW
  refine (eqIntS_same _ _ _ _ _ _ I _ (HI.out.below HB.out) (HI'.out.below HB.out)).mono ?_
  rintro e w1 ⟨rfl, hb1⟩
  have HA1 := Lib.hid (HA.out.call hb1)
  have HR1 := Lib.hid (HR.out.call hb1)
  have HB1 := Lib.hid (HB.out.trans (hb1.mono HB.out.size))
  obtain ⟨q0, q1, q2, q3⟩ := HA1.out.cells
  obtain ⟨r0, r1, r2, r3⟩ := HR1.out.cells
  clear hb1 HA HR HB
  go_wp2_with fail
  refine (eqValue_6 _ _ _ _).mono ?_
  rintro e w2 ⟨rfl, hb2⟩
  have HB2 := Lib.hid (HB1.out.trans (hb2.mono HB1.out.size))
  clear hb2
  go_wp2_with fail
  go_returns
  exact ⟨rfl, HB2.out⟩
theorem IvOwn.touch {W X : World} {lo hi lo' hi' : Nat} {v : Value} {s : Agg.Iv} (h : IvOwn W lo' hi' v s) (ht : Touch lo hi W X) (hd : hi' ≤ lo ∨ hi ≤ lo') : IvOwn X lo' hi' v s := by
  obtain ⟨iv, hv, h2⟩ := h
  exact ⟨iv, hv, h2.touch ht hd⟩
def markIv (k : Int) (s : Agg.Iv) : Agg.Iv := ⟨seq k s.items.length, s.agg⟩
def markNI (s : Agg.Iv) : Int := (s.items.length : Int)
/-- An answer in a variable of its own, between two numbers; its rows lie elsewhere between them. -/
def IvAns (lb ub : Nat) (X : World) (c : Nat) (s : Agg.Iv) : Prop :=
  ∃ (lo hi : Nat) (ia : Option Addr) (ic : Nat), lb ≤ lo ∧ hi ≤ ub ∧ lb ≤ c ∧ c < ub ∧ (c < lo ∨ hi ≤ c) ∧ ub ≤ X.heap.size ∧ Box4 X c 31 (.slice ia s.items.length ic) (.int .i64 s.agg.x) (.int .i64 s.agg.y) (.int .i64 s.agg.z) ∧ IvOwn X lo hi (.agg #[.slice ia s.items.length ic, .int .i64 s.agg.x, .int .i64 s.agg.y, .int .i64 s.agg.z]) s
theorem IvAns.new {lb : Nat} {Y : World} {lo hi : Nat} {ia : Option Addr} {ic : Nat} {s : Agg.Iv} (hl : lb ≤ lo) (hlo : lo ≤ hi) (hh : hi ≤ Y.heap.size) (ho : IvOwn Y lo hi (.agg #[.slice ia s.items.length ic, .int .i64 s.agg.x, .int .i64 s.agg.y, .int .i64 s.agg.z]) s) : IvAns lb (Y.alloc (.cells #[.slice ia s.items.length ic, .int .i64 s.agg.x, .int .i64 s.agg.y, .int .i64 s.agg.z] 31)).heap.size (Y.alloc (.cells #[.slice ia s.items.length ic, .int .i64 s.agg.x, .int .i64 s.agg.y, .int .i64 s.agg.z] 31)) Y.heap.size s :=
  ⟨lo, hi, ia, ic, hl, by simp; omega, by omega, by simp, .inr hh, Nat.le_refl _, Box4.new _ _ _ _ _ _, ho.below ((Below.refl _ _).alloc (Nat.le_refl _) _)⟩
theorem IvAns.set {lb : Nat} {X : World} {lo hi c : Nat} {ia : Option Addr} {ic : Nat} {s : Agg.Iv} {u0 u1 u2 u3 : Value} (hc : lb ≤ c) (hcl : c < lo) (hh : hi ≤ X.heap.size) (hb : Box4 X c 31 u0 u1 u2 u3) (ho : IvOwn X lo hi (.agg #[.slice ia s.items.length ic, .int .i64 s.agg.x, .int .i64 s.agg.y, .int .i64 s.agg.z]) s) :
    IvAns lb (((((X.setCell ⟨c, 0, none⟩ (.slice ia s.items.length ic)).setCell ⟨c, 1, none⟩ (.int .i64 s.agg.x)).setCell ⟨c, 2, none⟩ (.int .i64 s.agg.y)).setCell ⟨c, 3, none⟩ (.int .i64 s.agg.z))).heap.size (((((X.setCell ⟨c, 0, none⟩ (.slice ia s.items.length ic)).setCell ⟨c, 1, none⟩ (.int .i64 s.agg.x)).setCell ⟨c, 2, none⟩ (.int .i64 s.agg.y)).setCell ⟨c, 3, none⟩ (.int .i64 s.agg.z))) c s := by
  refine ⟨lo, hi, ia, ic, by omega, by rw [e6_size4]; exact hh, hc, by rw [e6_size4]; exact hb.lt, .inl hcl, Nat.le_refl _, (((hb.set0 _).set1 _).set2 _).set3 _, ?_⟩
  obtain ⟨iv, hv, h2⟩ := ho
  exact ⟨iv, hv, (((h2.set1 (.inl hcl)).set1 (.inl hcl)).set1 (.inl hcl)).set1 (.inl hcl)⟩
theorem IvAns.touch {X Y : World} {c lo hi lb ub : Nat} {s : Agg.Iv} (h : IvAns lb ub X c s) (ht : Touch lo hi X Y) (hw : hi ≤ lb ∨ ub ≤ lo) : IvAns lb ub Y c s := by
  obtain ⟨l, g, ia, ic, h1, h2, h3, h4, h5, h6, h7, h8⟩ := h
  exact ⟨l, g, ia, ic, h1, h2, h3, h4, h5, Nat.le_trans h6 ht.2.2.2.1, (ht.2.2.2.2 c h7.lt (by omega)).trans h7, h8.touch ht (by omega)⟩
theorem IvAns.call {X Y : World} {c lb ub : Nat} {s : Agg.Iv} (h : IvAns lb ub X c s) (hb : Below X.heap.size X Y) : IvAns lb ub Y c s :=
  h.touch (lo := ub) (hi := ub) ((Touch.refl _ _ X).call hb) (.inr (Nat.le_refl _))
end Go.Proofs.Ytehfijijapfomaa
