import Derived.Test.YtehfijijapfomaaGreatN
import Derived.Test.YtehfijijapfomaaGreatD1
import Derived.Test.YtehfijijapfomaaGreatD2
import Derived.Test.YtehfijijapfomaaGreatD3
import Derived.Test.YtehfijijapfomaaGreatD4
import Derived.Test.YtehfijijapfomaaGreatE1
import Derived.Test.YtehfijijapfomaaGreatE2
import Derived.Test.YtehfijijapfomaaGreatE3
import Derived.Test.YtehfijijapfomaaGreatE4
import Derived.Test.YtehfijijapfomaaGreat6s
import Derived.Test.YtehfijijapfomaaGreat6b
import Derived.Test.YtehfijijapfomaaGreat6o
import Derived.Deep.Cut
import Derived.Deep.DeepMust
import Derived.Test.YtehfijijapfomaaGreat6p
import Derived.Deep.DeepCutAuto
import Derived.Test.YtehfijijapfomaaGreat2c
import Derived.Deep.RegionHeld3
import Derived.Deep.SlicePairs
import Derived.Lib.SmallJoins
import Derived.WalkKit
import Derived.ProofKit
import Derived.OpenShut
/-
  RemoveFirst, in the program and in the model, at every kind and at every number that is none.
-/
namespace Go.Proofs.YtehfijijapfomaaGreat
set_option linter.unusedSimpArgs false
set_option linter.unusedVariables false
open Go.RowKit
set_option maxHeartbeats 1000000 in
theorem s_removeFirst_any (k : Int) (ax ay az bx by' bz : Int) (w : World) :
    Calls Tryz.prog 77 #[.int .i64 k, .agg #[.int .i64 ax, .int .i64 ay, .int .i64 az], .agg #[.int .i64 bx, .int .i64 by', .int .i64 bz]] w fun e w' => e = .returned (.tuple #[.agg #[.int .i64 (Agg.aRest k ⟨ax, ay, az⟩ ⟨bx, by', bz⟩).1.x, .int .i64 (Agg.aRest k ⟨ax, ay, az⟩ ⟨bx, by', bz⟩).1.y, .int .i64 (Agg.aRest k ⟨ax, ay, az⟩ ⟨bx, by', bz⟩).1.z], .bool (Agg.aRest k ⟨ax, ay, az⟩ ⟨bx, by', bz⟩).2]) ∧ Below w.heap.size w w' := by
  cases hk : Agg.isKind k
  · have e : Agg.aRest k ⟨ax, ay, az⟩ ⟨bx, by', bz⟩ = (Agg.zero, false) := by simp [Agg.valid, Agg.aRest, Agg.give, hk]
    rw [e]
    have hk2 := Lib.hid (show ¬ (1 ≤ k ∧ k ≤ 10) by simpa [Agg.isKind] using hk)
    clear e
    have hv : ∀ v, Agg.valid k v = false := fun v => by simp [Agg.valid, hk]
    go_enter Tryz.func77, Tryz.ntmps77
    go_wp2_with (go_at_call 94; refine (s_valueValid_any _ _ _ _ _).mono ?_; rintro e w1 ⟨rfl, hb1⟩; obtain ⟨hc1, hf1⟩ := bcell hb1; obtain ⟨hz0, hz1, hz2⟩ : w.heap.size < w1.heap.size ∧ w.heap.size + 1 < w1.heap.size ∧ w.heap.size + 1 + 1 < w1.heap.size := (by have hzz := hb1.size; (try simp at hzz); omega); have hB1 : Below w.heap.size w w1 := Below.trans (by go_grown) (hb1.mono (by first | (simp; done) | (simp; omega) | omega)); clear hb1)
    refine bodyPost_ret (by simp [results, Tryz.results77, go_sem, *]; try rfl) rfl ?_
    exact ⟨ret_agg_bool rfl rfl rfl rfl, (by first | (go_grown; done) | (refine below_drewN ?_ _; go_grown; done) | (refine (below_drewN _ ?_); go_grown; done))⟩
  · rcases Agg.kinds hk with rfl | rfl | rfl | rfl | rfl | rfl | rfl | rfl | rfl | rfl
    · exact s_removeFirst_1 ax ay az bx by' bz w
    · exact s_removeFirst_2 ax ay az bx by' bz w
    · exact s_removeFirst_3 ax ay az bx by' bz w
    · exact s_removeFirst_4 ax ay az bx by' bz w
    · exact s_removeFirst_5 ax ay az bx by' bz w
    · exact s_removeFirst_6 ax ay az bx by' bz w
    · exact s_removeFirst_7 ax ay az bx by' bz w
    · exact s_removeFirst_8 ax ay az bx by' bz w
    · exact s_removeFirst_9 ax ay az bx by' bz w
    · exact s_removeFirst_10 ax ay az bx by' bz w
end Go.Proofs.YtehfijijapfomaaGreat

/-
  Windows with an inverse as the exact laws take, copy, compare, mark and hold them; an answer in a variable of its own.
-/
namespace Go.Proofs.YtehfijijapfomaaGreat
set_option linter.unusedSimpArgs false
set_option linter.unusedVariables false
open Go.RowKit
theorem e6_slice {w : World} {base e size n : Nat} {v : Value} {xs : List Value} (h : w.ownsRow base e size v n xs) : ∃ a c, v = .slice a n c := by
  rcases h.2 with ⟨rfl, rfl⟩ | ⟨g, cap, cur, rfl, -⟩
  · exact ⟨none, 0, rfl⟩
  · exact ⟨_, cap, rfl⟩
theorem e6_low {w : World} {base e size n d o : Nat} {v u : Value} {xs : List Value} (h : w.ownsRow base e size v n xs) (hd : d < base) : (w.setCell ⟨d, o, none⟩ u).ownsRow base e size v n xs := ownsRow_setCell_below h hd u
theorem e6_size4 {wr : World} {c : Nat} (u0 u1 u2 u3 : Value) : ((((wr.setCell ⟨c, 0, none⟩ u0).setCell ⟨c, 1, none⟩ u1).setCell ⟨c, 2, none⟩ u2).setCell ⟨c, 3, none⟩ u3).heap.size = wr.heap.size := by simp [World.setCell]
theorem e6_below4 {w wr : World} {c d : Nat} (h : Below d w wr) (hd : d ≤ c) (u0 u1 u2 u3 : Value) :
    Below d w ((((wr.setCell ⟨c, 0, none⟩ u0).setCell ⟨c, 1, none⟩ u1).setCell ⟨c, 2, none⟩ u2).setCell ⟨c, 3, none⟩ u3) := (((h.setCell hd u0).setCell hd u1).setCell hd u2).setCell hd u3
theorem OwnR.set1 {w : World} {lo hi n d o : Nat} {v u : Value} {l : List Int} (h : OwnR w lo hi v n l) (hd : d < lo ∨ hi ≤ d) : OwnR (w.setCell ⟨d, o, none⟩ u) lo hi v n l :=
  h.kept (row := some d) ⟨rfl, rfl, rfl, by simp [World.setCell], fun k hk hne => Below.heap_setCell _ _ _ _ (fun e => hne (by rw [e]))⟩ (fun j e => by cases e; exact hd)
theorem szIntS_6 (a : Option Addr) (n cap : Nat) (w : World) (hn : n ≤ 9223372036854775807) :
    Calls Tryz.prog 33 #[.slice a n cap, .int .i64 1048576] w fun e w' => e = .returned (.int .i64 (if n ≤ 1048576 then 1048576 - (n : Int) else -1)) ∧ w = w' := by
  by_cases h : n ≤ 1048576
  · rw [if_pos h]
    have h2 : ¬ ((1048576 : Int) - (n : Int) < 0) := by omega
    go_enter Tryz.func33, Tryz.ntmps33
    go_wp2
    go_returns
    exact ⟨rfl, rfl⟩
  · rw [if_neg h]
    have h2 : (1048576 : Int) - (n : Int) < 0 := by omega
    go_enter Tryz.func33, Tryz.ntmps33
    go_wp2
    go_returns
    exact ⟨rfl, rfl⟩
theorem szInverse_any (ia : Option Addr) (m ic : Nat) (ax ay az : Int) (w : World) (hm : m ≤ 9223372036854775807) :
    Calls Tryz.prog 7 #[.agg #[.slice ia m ic, .int .i64 ax, .int .i64 ay, .int .i64 az], .int .i64 1048576] w fun e w' => e = .returned (.int .i64 (if m ≤ 1048576 then 1048576 - (m : Int) else -1)) ∧ Below w.heap.size w w' := by
  have hT := fun w => szIntS_6 ia m ic w hm
  by_cases h : m ≤ 1048576
  · rw [if_pos h] at hT ⊢
    have HT := Lib.hid hT
    clear hT
    have h3 : ¬ (1048576 - (m : Int) < 0) := by omega
    go_enter Tryz.func7, Tryz.ntmps7
    go_wp2_with fail
    refine (HT.out _).mono ?_
    rintro e w1 ⟨rfl, rfl⟩
    go_wp2_with fail
    go_returns
    exact ⟨rfl, (by first | (go_grown; done) | (refine below_drewN ?_ _; go_grown; done) | (refine (below_drewN _ ?_); go_grown; done))⟩
  · rw [if_neg h] at hT ⊢
    have HT := Lib.hid hT
    clear hT
    go_enter Tryz.func7, Tryz.ntmps7
    go_wp2_with fail
    refine (HT.out _).mono ?_
    rintro e w1 ⟨rfl, rfl⟩
    go_wp2_with fail
    go_returns
    exact ⟨rfl, (by first | (go_grown; done) | (refine below_drewN ?_ _; go_grown; done) | (refine (below_drewN _ ?_); go_grown; done))⟩
theorem toValue_6 (x y z : Int) (w : World) :
    Calls Tryz.prog 37 #[.agg #[.int .i64 x, .int .i64 y, .int .i64 z]] w fun e w' => e = .returned (.agg #[.int .i64 x, .int .i64 y, .int .i64 z]) ∧ Below w.heap.size w w' := by
  go_enter Tryz.func37, Tryz.ntmps37
  go_wp2
  refine bodyPost_ret (by simp [results, Tryz.results37, go_sem, *]; try rfl) rfl ?_
  exact ⟨rfl, (by first | (go_grown; done) | (refine below_drewN ?_ _; go_grown; done) | (refine (below_drewN _ ?_); go_grown; done))⟩
theorem eqValue_6 (x y z : Int) (w : World) :
    Calls Tryz.prog 42 #[.agg #[.int .i64 x, .int .i64 y, .int .i64 z], .agg #[.int .i64 x, .int .i64 y, .int .i64 z]] w fun e w' => e = .returned (.bool true) ∧ Below w.heap.size w w' := by
  go_enter Tryz.func42, Tryz.ntmps42
  go_wp2
  go_returns
  exact ⟨rfl, (by first | (go_grown; done) | (refine below_drewN ?_ _; go_grown; done) | (refine (below_drewN _ ?_); go_grown; done))⟩
/-- A window with an inverse is made anew. -/
def MadeIv (s : Agg.Iv) (w : World) (e : Ending) (w' : World) : Prop := ∃ v, e = .returned v ∧ IvOwn w' w.heap.size w'.heap.size v s ∧ Below w.heap.size w w'
set_option maxRecDepth 8000 in
set_option maxHeartbeats 4000000 in
theorem toInverse_own (ia : Option Addr) (m ic : Nat) (ax ay az : Int) (I : List Int) (w : World) (hI : Nums .i64 w ia m ic I) (h2 : m ≤ 1048576) :
    Calls Tryz.prog 9 #[.agg #[.slice ia m ic, .int .i64 ax, .int .i64 ay, .int .i64 az]] w (MadeIv ⟨I, ⟨ax, ay, az⟩⟩ w) := by
  have HIL := Lib.hid (show I.length = m from hI.1)
  have HI := Lib.hid hI
  obtain ⟨W, hW⟩ : ∃ W, W = (((w.alloc (.cells #[.slice ia m ic, .int .i64 ax, .int .i64 ay, .int .i64 az] 26)).alloc (.cells #[.slice none 0 0, .int .i64 0, .int .i64 0, .int .i64 0] 32)).alloc (.cells #[.slice none 0 0, .int .i64 0, .int .i64 0, .int .i64 0] 32)) := ⟨_, rfl⟩
  have HA := Lib.hid (show Box4 W w.heap.size 26 (.slice ia m ic) (.int .i64 ax) (.int .i64 ay) (.int .i64 az) from by rw [hW]; exact ((Box4.new w _ _ _ _ _).alloc _).alloc _)
  have HR := Lib.hid (show Box4 W (w.heap.size + 1) 32 (.slice none 0 0) (.int .i64 0) (.int .i64 0) (.int .i64 0) from by rw [hW]; exact (Box4.new1 (Y := w.alloc _) _ _ _ _ _ (by simp)).alloc _)
  have HO := Lib.hid (show Box4 W (w.heap.size + 2) 32 (.slice none 0 0) (.int .i64 0) (.int .i64 0) (.int .i64 0) from by rw [hW]; exact Box4.new1 (Y := (w.alloc _).alloc _) _ _ _ _ _ (by simp))
  have HB := Lib.hid (show Below w.heap.size w W from by rw [hW]; exact (((Below.refl _ _).alloc (Nat.le_refl _) _).alloc (by simp) _).alloc (by simp; omega) _)
  have hbs : w.heap.size + 2 < W.heap.size := HO.out.lt
  have HBS := Lib.hid hbs
  clear hI hbs
  go_enter Tryz.func9, Tryz.ntmps9
  go_wp2_with fail
  rw [← hW]
  clear hW
  refine (toIntS_own _ _ _ I _ (HI.out.below HB.out) h2).mono ?_
  rintro e w1 ⟨v1, rfl, ho1, hb1⟩
  obtain ⟨a1, c1, rfl⟩ := e6_slice ho1.1
  have HA1 := Lib.hid (HA.out.call hb1)
  have HR1 := Lib.hid (HR.out.call hb1)
  have HO1 := Lib.hid (HO.out.call hb1)
  have HB1 := Lib.hid (HB.out.trans (hb1.mono HB.out.size))
  have HJ1 := Lib.hid ho1.1
  obtain ⟨q0, q1, q2, q3⟩ := HA1.out.cells
  obtain ⟨p0, p1, p2, p3⟩ := HO1.out.cells
  have g1 := HO1.out.free
  clear hb1 ho1 HA HR HO HB
  go_wp2_with fail
  obtain ⟨X1, hX1⟩ : ∃ X1, X1 = w1.setCell ⟨w.heap.size + 2, 0, none⟩ (.slice a1 m c1) := ⟨_, rfl⟩
  have HB2 := Lib.hid (show Below w.heap.size w X1 from by rw [hX1]; exact HB1.out.setCell (by simp) _)
  have HR2 := Lib.hid (show Box4 X1 (w.heap.size + 1) 32 (.slice none 0 0) (.int .i64 0) (.int .i64 0) (.int .i64 0) from by rw [hX1]; exact HR1.out.other (by omega) _ _)
  have HO2 := Lib.hid (show Box4 X1 (w.heap.size + 2) 32 (.slice a1 m c1) (.int .i64 0) (.int .i64 0) (.int .i64 0) from by rw [hX1]; exact HO1.out.set0 _)
  have HJ2 := Lib.hid (show X1.ownsRow W.heap.size 3 1 (.slice a1 m c1) m (I.map (Value.int .i64)) from by rw [hX1]; exact e6_low HJ1.out HBS.out)
  rw [← hX1]
  clear hX1 HB1 HA1 HR1 HO1 HJ1 q0 q1 q2 q3 p0 p1 p2 p3 g1
  refine (toValue_6 _ _ _ _).mono ?_
  rintro e w2 ⟨rfl, hb2⟩
  have HR3 := Lib.hid (HR2.out.call hb2)
  have HO3 := Lib.hid (HO2.out.call hb2)
  have HB3 := Lib.hid (HB2.out.trans (hb2.mono HB2.out.size))
  have HJ3 := Lib.hid (HJ2.out.kept (Below.grownNone hb2 none) (Classical.em _))
  clear hb2 HR2 HO2 HB2 HJ2
  obtain ⟨p0, p1, p2, p3⟩ := HO3.out.cells
  have g2 := HO3.out.free
  go_upto_region 4 with (fail)
  obtain ⟨X2, hX2⟩ : ∃ X2, X2 = ((w2.setCell ⟨w.heap.size + 2, 1, none⟩ (.int .i64 ax)).setCell ⟨w.heap.size + 2, 2, none⟩ (.int .i64 ay)).setCell ⟨w.heap.size + 2, 3, none⟩ (.int .i64 az) := ⟨_, rfl⟩
  have HB4 := Lib.hid (show Below w.heap.size w X2 from by rw [hX2]; exact ((HB3.out.setCell (by simp) _).setCell (by simp) _).setCell (by simp) _)
  have HR4 := Lib.hid (show Box4 X2 (w.heap.size + 1) 32 (.slice none 0 0) (.int .i64 0) (.int .i64 0) (.int .i64 0) from by rw [hX2]; exact ((HR3.out.other (by omega) _ _).other (by omega) _ _).other (by omega) _ _)
  have HO4 := Lib.hid (show Box4 X2 (w.heap.size + 2) 32 (.slice a1 m c1) (.int .i64 ax) (.int .i64 ay) (.int .i64 az) from by rw [hX2]; exact ((HO3.out.set1 _).set2 _).set3 _)
  have HJ4 := Lib.hid (show X2.ownsRow W.heap.size 3 1 (.slice a1 m c1) m (I.map (Value.int .i64)) from by rw [hX2]; exact e6_low (e6_low (e6_low HJ3.out HBS.out) HBS.out) HBS.out)
  rw [← hX2]
  clear hX2 HB3 HR3 HO3 HJ3 p0 p1 p2 p3 g2
  obtain ⟨p0, p1, p2, p3⟩ := HO4.out.cells
  obtain ⟨r0, r1, r2, r3⟩ := HR4.out.cells
  have g3 := HR4.out.free
  go_wp2_with fail
  refine bodyPost_ret (by simp [results, Tryz.results9, go_sem, *]; try rfl) rfl ?_
  have hi2 := HIL.out
  subst hi2
  have hbl : w.heap.size + 1 < W.heap.size := by have := HBS.out; omega
  have hWW := e6_below4 (c := w.heap.size + 1) HB4.out (by omega) (.slice a1 I.length c1) (.int .i64 ax) (.int .i64 ay) (.int .i64 az)
  have hJJ := e6_low (d := w.heap.size + 1) (o := 3) (u := .int .i64 az) (e6_low (d := w.heap.size + 1) (o := 2) (u := .int .i64 ay) (e6_low (d := w.heap.size + 1) (o := 1) (u := .int .i64 ax) (e6_low (d := w.heap.size + 1) (o := 0) (u := .slice a1 I.length c1) HJ4.out hbl) hbl) hbl) hbl
  exact ⟨_, rfl, ⟨_, rfl, ⟨owns_lower hJJ (by omega), hWW.size, Nat.le_refl _, fun g hg => (hJJ.lt g hg).2⟩⟩, hWW⟩
set_option maxRecDepth 8000 in
set_option maxHeartbeats 4000000 in
theorem eqInverse_own {lo hi lo' hi' : Nat} {v v' : Value} {s : Agg.Iv} (w : World) (h : IvOwn w lo hi v s) (h' : IvOwn w lo' hi' v' s) :
    Calls Tryz.prog 12 #[v, v'] w fun e w' => e = .returned (.bool true) ∧ Below w.heap.size w w' := by
  obtain ⟨ia, ic, rfl, hI⟩ := h.read
  obtain ⟨ia', ic', rfl, hI'⟩ := h'.read
  obtain ⟨I, ax, ay, az⟩ := s
  simp only at hI hI'
  have HI := Lib.hid hI
  have HI' := Lib.hid hI'
  clear h h' hI hI'
  obtain ⟨m, hm⟩ : ∃ m, m = I.length := ⟨_, rfl⟩
  rw [← hm] at HI HI'
  simp only [← hm]
  clear hm
  obtain ⟨W, hW⟩ : ∃ W, W = ((w.alloc (.cells #[.slice ia m ic, .int .i64 ax, .int .i64 ay, .int .i64 az] 32)).alloc (.cells #[.slice ia' m ic', .int .i64 ax, .int .i64 ay, .int .i64 az] 32)) := ⟨_, rfl⟩
  have HA := Lib.hid (show Box4 W w.heap.size 32 (.slice ia m ic) (.int .i64 ax) (.int .i64 ay) (.int .i64 az) from by rw [hW]; exact (Box4.new w _ _ _ _ _).alloc _)
  have HR := Lib.hid (show Box4 W (w.heap.size + 1) 32 (.slice ia' m ic') (.int .i64 ax) (.int .i64 ay) (.int .i64 az) from by rw [hW]; exact Box4.new1 (Y := w.alloc _) _ _ _ _ _ (by simp))
  have HB := Lib.hid (show Below w.heap.size w W from by rw [hW]; exact ((Below.refl _ _).alloc (Nat.le_refl _) _).alloc (by simp) _)
  go_enter Tryz.func12, Tryz.ntmps12
  go_wp2_with fail
  rw [← hW]
  clear hW
  refine (eqIntS_same _ _ _ _ _ _ I _ (HI.out.below HB.out) (HI'.out.below HB.out)).mono ?_
  rintro e w1 ⟨rfl, hb1⟩
  have HA1 := Lib.hid (HA.out.call hb1)
  have HR1 := Lib.hid (HR.out.call hb1)
  have HB1 := Lib.hid (HB.out.trans (hb1.mono HB.out.size))
  obtain ⟨q0, q1, q2, q3⟩ := HA1.out.cells
  obtain ⟨r0, r1, r2, r3⟩ := HR1.out.cells
  clear hb1 HA HR HB
  go_wp2_with fail
  refine (eqValue_6 _ _ _ _).mono ?_
  rintro e w2 ⟨rfl, hb2⟩
  have HB2 := Lib.hid (HB1.out.trans (hb2.mono HB1.out.size))
  clear hb2
  go_wp2_with fail
  go_returns
  exact ⟨rfl, HB2.out⟩
theorem IvOwn.touch {W X : World} {lo hi lo' hi' : Nat} {v : Value} {s : Agg.Iv} (h : IvOwn W lo' hi' v s) (ht : Touch lo hi W X) (hd : hi' ≤ lo ∨ hi ≤ lo') : IvOwn X lo' hi' v s := by
  obtain ⟨iv, hv, h2⟩ := h
  exact ⟨iv, hv, h2.touch ht hd⟩
def markIv (k : Int) (s : Agg.Iv) : Agg.Iv := ⟨seq k s.items.length, s.agg⟩
def markNI (s : Agg.Iv) : Int := (s.items.length : Int)
set_option maxHeartbeats 2000000 in
theorem markInverse_own {lo hi : Nat} {v : Value} {s : Agg.Iv} (w : World) (k : Int) (h : IvOwn w lo hi v s) (hk0 : 0 ≤ k) (hk1 : k ≤ 1000) (hn : s.items.length ≤ 1048576) :
    Calls Tryz.prog 13 #[v, .int .i64 k] w fun e w' => e = .returned (.int .i64 (k + markNI s)) ∧ IvOwn w' lo hi v (markIv k s) ∧ Touch lo hi w w' := by
  rw [show k + markNI s = k + (s.items.length : Int) from rfl]
  obtain ⟨iv, rfl, h2⟩ := h
  obtain ⟨ia, ic, rfl⟩ := e6_slice h2.1
  have hb0 : Below w.heap.size w (w.alloc (.cells #[.slice ia s.items.length ic, .int .i64 s.agg.x, .int .i64 s.agg.y, .int .i64 s.agg.z] 32)) := (Below.refl _ _).alloc (Nat.le_refl _) _
  have H2 := Lib.hid (h2.below hb0)
  have HT := Lib.hid ((Touch.refl lo hi w).call hb0)
  have HM2 := Lib.hid (fun w h => markIntS_big w k (lo := lo) (hi := hi) (n := s.items.length) (v := .slice ia s.items.length ic) (l := s.items) h (by omega) (by omega) (by omega))
  clear h2 hb0 hn
  go_enter Tryz.func13, Tryz.ntmps13
  go_wp2_with fail
  refine (HM2.out _ H2.out).mono ?_
  rintro e w2 ⟨rfl, r2, hg2⟩
  have HT2 := Lib.hid (HT.out.trans (Touch.of hg2 (fun g hg => ⟨(H2.out.1.lt g hg).1, H2.out.2.2.2 g hg⟩)))
  have HV2 := Lib.hid r2
  clear r2 hg2
  go_wp2_with fail
  go_returns
  exact ⟨rfl, ⟨_, rfl, by have := HV2.out; simpa [markIv, seq_length] using this⟩, HT2.out⟩
set_option maxHeartbeats 2000000 in
theorem heldInverse_own {lo hi : Nat} {v : Value} {s : Agg.Iv} (w : World) (k : Int) (h : IvOwn w lo hi v (markIv k s)) (hk0 : 0 ≤ k) (hk1 : k ≤ 1000) (hn : s.items.length ≤ 1048576) :
    Calls Tryz.prog 14 #[v, .int .i64 k] w fun e w' => e = .returned (.int .i64 (k + markNI s)) ∧ Below w.heap.size w w' := by
  rw [show k + markNI s = k + (s.items.length : Int) from rfl]
  obtain ⟨iv, rfl, h2⟩ := h
  simp only [markIv, seq_length] at h2
  obtain ⟨ia, ic, rfl⟩ := e6_slice h2.1
  have hb0 : Below w.heap.size w (w.alloc (.cells #[.slice ia s.items.length ic, .int .i64 s.agg.x, .int .i64 s.agg.y, .int .i64 s.agg.z] 32)) := (Below.refl _ _).alloc (Nat.le_refl _) _
  have H2 := Lib.hid (h2.below hb0)
  have HB := Lib.hid hb0
  have HM2 := Lib.hid (fun w h => heldIntS_big w k (lo := lo) (hi := hi) (n := s.items.length) (v := .slice ia s.items.length ic) h (by omega) (by omega) (by omega))
  have hneg : ¬ (k + (s.items.length : Int) < 0) := by omega
  clear h2 hb0 hn
  go_enter Tryz.func14, Tryz.ntmps14
  go_wp2_with fail
  refine (HM2.out _ H2.out).mono ?_
  rintro e w2 ⟨rfl, hb2⟩
  have HB2 := Lib.hid (HB.out.trans (hb2.mono HB.out.size))
  clear hb2
  go_wp2_with fail
  go_returns
  exact ⟨rfl, HB2.out⟩
/-- An answer in a variable of its own, between two numbers; its rows lie elsewhere between them. -/
def IvAns (lb ub : Nat) (X : World) (c : Nat) (s : Agg.Iv) : Prop :=
  ∃ (lo hi : Nat) (ia : Option Addr) (ic : Nat), lb ≤ lo ∧ hi ≤ ub ∧ lb ≤ c ∧ c < ub ∧ (c < lo ∨ hi ≤ c) ∧ ub ≤ X.heap.size ∧ Box4 X c 32 (.slice ia s.items.length ic) (.int .i64 s.agg.x) (.int .i64 s.agg.y) (.int .i64 s.agg.z) ∧ IvOwn X lo hi (.agg #[.slice ia s.items.length ic, .int .i64 s.agg.x, .int .i64 s.agg.y, .int .i64 s.agg.z]) s
theorem IvAns.new {lb : Nat} {Y : World} {lo hi : Nat} {ia : Option Addr} {ic : Nat} {s : Agg.Iv} (hl : lb ≤ lo) (hlo : lo ≤ hi) (hh : hi ≤ Y.heap.size) (ho : IvOwn Y lo hi (.agg #[.slice ia s.items.length ic, .int .i64 s.agg.x, .int .i64 s.agg.y, .int .i64 s.agg.z]) s) : IvAns lb (Y.alloc (.cells #[.slice ia s.items.length ic, .int .i64 s.agg.x, .int .i64 s.agg.y, .int .i64 s.agg.z] 32)).heap.size (Y.alloc (.cells #[.slice ia s.items.length ic, .int .i64 s.agg.x, .int .i64 s.agg.y, .int .i64 s.agg.z] 32)) Y.heap.size s :=
  ⟨lo, hi, ia, ic, hl, by simp; omega, by omega, by simp, .inr hh, Nat.le_refl _, Box4.new _ _ _ _ _ _, ho.below ((Below.refl _ _).alloc (Nat.le_refl _) _)⟩
theorem IvAns.set {lb : Nat} {X : World} {lo hi c : Nat} {ia : Option Addr} {ic : Nat} {s : Agg.Iv} {u0 u1 u2 u3 : Value} (hc : lb ≤ c) (hcl : c < lo) (hh : hi ≤ X.heap.size) (hb : Box4 X c 32 u0 u1 u2 u3) (ho : IvOwn X lo hi (.agg #[.slice ia s.items.length ic, .int .i64 s.agg.x, .int .i64 s.agg.y, .int .i64 s.agg.z]) s) :
    IvAns lb (((((X.setCell ⟨c, 0, none⟩ (.slice ia s.items.length ic)).setCell ⟨c, 1, none⟩ (.int .i64 s.agg.x)).setCell ⟨c, 2, none⟩ (.int .i64 s.agg.y)).setCell ⟨c, 3, none⟩ (.int .i64 s.agg.z))).heap.size (((((X.setCell ⟨c, 0, none⟩ (.slice ia s.items.length ic)).setCell ⟨c, 1, none⟩ (.int .i64 s.agg.x)).setCell ⟨c, 2, none⟩ (.int .i64 s.agg.y)).setCell ⟨c, 3, none⟩ (.int .i64 s.agg.z))) c s := by
  refine ⟨lo, hi, ia, ic, by omega, by rw [e6_size4]; exact hh, hc, by rw [e6_size4]; exact hb.lt, .inl hcl, Nat.le_refl _, (((hb.set0 _).set1 _).set2 _).set3 _, ?_⟩
  obtain ⟨iv, hv, h2⟩ := ho
  exact ⟨iv, hv, (((h2.set1 (.inl hcl)).set1 (.inl hcl)).set1 (.inl hcl)).set1 (.inl hcl)⟩
theorem IvAns.touch {X Y : World} {c lo hi lb ub : Nat} {s : Agg.Iv} (h : IvAns lb ub X c s) (ht : Touch lo hi X Y) (hw : hi ≤ lb ∨ ub ≤ lo) : IvAns lb ub Y c s := by
  obtain ⟨l, g, ia, ic, h1, h2, h3, h4, h5, h6, h7, h8⟩ := h
  exact ⟨l, g, ia, ic, h1, h2, h3, h4, h5, Nat.le_trans h6 ht.2.2.2.1, (ht.2.2.2.2 c h7.lt (by omega)).trans h7, h8.touch ht (by omega)⟩
theorem IvAns.call {X Y : World} {c lb ub : Nat} {s : Agg.Iv} (h : IvAns lb ub X c s) (hb : Below X.heap.size X Y) : IvAns lb ub Y c s :=
  h.touch (lo := ub) (hi := ub) ((Touch.refl _ _ X).call hb) (.inr (Nat.le_refl _))
end Go.Proofs.YtehfijijapfomaaGreat

/-
  The model's change of an inverse.
-/
namespace Go.Proofs.YtehfijijapfomaaGreat
set_option linter.unusedSimpArgs false
set_option linter.unusedVariables false
open Go.RowKit
theorem OwnR.of6 {w : World} {lo lo' n : Nat} {v : Value} {l : List Int} (h : w.ownsRow lo 3 1 v n (l.map (Value.int .i64))) (hb : lo' ≤ lo) (hs : lo' ≤ w.heap.size) : OwnR w lo' w.heap.size v n l :=
  ⟨owns_lower h hb, hs, Nat.le_refl _, fun g hg => (h.lt g hg).2⟩
theorem own_set_ne6 {w : World} {base e size n d o : Nat} {v u : Value} {xs : List Value} (h : w.ownsRow base e size v n xs) (hd : ∀ g, v.ownBlock = some g → g ≠ d) : (w.setCell ⟨d, o, none⟩ u).ownsRow base e size v n xs := by
  refine h.kept (row := some d) ⟨rfl, rfl, rfl, by simp [World.setCell], fun k hk hne => Below.heap_setCell _ _ _ _ (fun e => hne (by rw [e]))⟩ ?_
  cases hv : v.ownBlock with
  | none => exact .inl rfl
  | some g => exact .inr (fun e => by cases e; exact hd _ hv rfl)
/-- A variable of two cells: its block. -/
def Box2q (w : World) (c : Nat) (T : TypeId) (u v : Value) : Prop := w.heap[c]? = some (.cells #[u, v] T (0, 0))
section
variable {w w' : World} {c d : Nat} {T : TypeId} {u v : Value}
theorem Box2q.new1 {Y : World} {g : Nat} (T : TypeId) (u v : Value) (hg : g = Y.heap.size) : Box2q (Y.alloc (.cells #[u, v] T)) g T u v := by subst hg; exact heap_alloc_new Y _
theorem Box2q.lt (h : Box2q w c T u v) : c < w.heap.size := (Array.getElem?_eq_some_iff.1 h).1
theorem Box2q.call (h : Box2q w c T u v) (hb : Below w.heap.size w w') : Box2q w' c T u v := (hb.block c h.lt).trans h
theorem Box2q.alloc (h : Box2q w c T u v) (o : Obj) : Box2q (w.alloc o) c T u v := h.call ((Below.refl _ _).alloc (Nat.le_refl _) _)
theorem Box2q.grown {row : Option Nat} (h : Box2q w c T u v) (hg : w.grownBy w' row) (hr : row ≠ some c) : Box2q w' c T u v := (hg.block c h.lt (fun e => hr e.symm)).trans h
theorem Box2q.other (h : Box2q w c T u v) (hd : c ≠ d) (o : Nat) (x : Value) : Box2q (w.setCell ⟨d, o, none⟩ x) c T u v := by
  unfold Box2q at *
  rw [Below.heap_setCell _ _ _ _ (by simpa using hd)]
  exact h
theorem Box2q.cells (h : Box2q w c T u v) : w.cell? ⟨c, 0, none⟩ = some u ∧ w.cell? ⟨c, 1, none⟩ = some v := by
  unfold Box2q at h
  constructor <;> simp [World.cell?, h]
end
/-- What the change itself answers. -/
def L6Out (s : Agg.Iv) (w : World) (e : Ending) (w' : World) : Prop :=
  ∃ a c, e = .returned (.tuple #[.agg #[.slice a s.items.length c, .int .i64 s.agg.x, .int .i64 s.agg.y, .int .i64 s.agg.z], .bool true]) ∧ Nums .i64 w' a s.items.length c s.items ∧ Below w.heap.size w w'
theorem nums_tail {w : World} {g off m c : Nat} {y : Int} {J : List Int} (h : Nums .i64 w (some ⟨g, off, none⟩) m c (y :: J)) (hm : 0 < m) : Nums .i64 w (some ⟨g, off + 1, none⟩) (m - 1) (c - 1) J := by
  obtain ⟨h1, h2, h3, h4⟩ := h
  refine ⟨by simp at h1; omega, by omega, by omega, ?_⟩
  rcases h4 with h4 | ⟨b', off', e, hlt, hc⟩
  · omega
  · simp only [Option.some.injEq, Addr.mk.injEq, and_true] at e
    obtain ⟨rfl, rfl⟩ := e
    refine .inr ⟨g, off + 1, rfl, hlt, fun i hi => ?_⟩
    have := hc (i + 1) (by omega)
    rw [show off + 1 + i = off + (i + 1) by omega, this]
    simp
theorem nums_set1 {w : World} {g off n c d o : Nat} {l : List Int} {u : Value} (h : Nums .i64 w (some ⟨g, off, none⟩) n c l) (hd : g ≠ d) : Nums .i64 (w.setCell ⟨d, o, none⟩ u) (some ⟨g, off, none⟩) n c l := by
  obtain ⟨h1, h2, h3, h4⟩ := h
  refine ⟨h1, h2, h3, ?_⟩
  rcases h4 with h4 | ⟨b', off', e, hlt, hc⟩
  · exact .inl h4
  · simp only [Option.some.injEq, Addr.mk.injEq, and_true] at e
    obtain ⟨rfl, rfl⟩ := e
    refine .inr ⟨g, off, rfl, by simpa [World.setCell] using hlt, fun i hi => ?_⟩
    have := hc i hi
    unfold World.cell? at *
    rw [Below.heap_setCell _ _ _ _ (by simpa using hd)]
    exact this
theorem nums_sets4 {w : World} {g off n c d : Nat} {l : List Int} (h : Nums .i64 w (some ⟨g, off, none⟩) n c l) (hd : g ≠ d) (u0 u1 u2 u3 : Value) : Nums .i64 ((((w.setCell ⟨d, 0, none⟩ u0).setCell ⟨d, 1, none⟩ u1).setCell ⟨d, 2, none⟩ u2).setCell ⟨d, 3, none⟩ u3) (some ⟨g, off, none⟩) n c l :=
  nums_set1 (nums_set1 (nums_set1 (nums_set1 h hd) hd) hd) hd
theorem own_nums1 {w : World} {lo n cap : Nat} {a : Option Addr} {l : List Int} (h : w.ownsRow lo 3 1 (.slice a n cap) n (l.map (Value.int .i64))) (hs : lo ≤ w.heap.size) : Nums .i64 w a n cap l := by
  obtain ⟨a', c', e', hN, -⟩ := (OwnR.of6 (lo := lo) (lo' := lo) h (Nat.le_refl _) hs).nums
  simp only [Value.slice.injEq] at e'
  obtain ⟨rfl, -, rfl⟩ := e'
  exact hN
theorem IvJ.store {w X : World} {ia : Option Addr} {m ic : Nat} {ax ay az : Int} {p : Bool} {x : Int} (h : IvJ w (.slice ia m ic) ax ay az p x X) (u0 u1 u2 u3 : Value) :
    ((fun X => (X.cell? ⟨w.heap.size, 0, none⟩ = some (.slice ia m ic) ∧ X.cell? ⟨w.heap.size, 1, none⟩ = some (.int .i64 ax) ∧ X.cell? ⟨w.heap.size, 2, none⟩ = some (.int .i64 ay) ∧ X.cell? ⟨w.heap.size, 3, none⟩ = some (.int .i64 az)) ∧ X.cell? ⟨w.heap.size + 1, 0, none⟩ = some (.bool p) ∧ X.cell? ⟨w.heap.size + 1, 1, none⟩ = some (.int .i64 x))) (((((X.setCell ⟨w.heap.size + 1 + 1, 0, none⟩ u0).setCell ⟨w.heap.size + 1 + 1, 1, none⟩ u1).setCell ⟨w.heap.size + 1 + 1, 2, none⟩ u2).setCell ⟨w.heap.size + 1 + 1, 3, none⟩ u3)) ∧ Box4 (((((X.setCell ⟨w.heap.size + 1 + 1, 0, none⟩ u0).setCell ⟨w.heap.size + 1 + 1, 1, none⟩ u1).setCell ⟨w.heap.size + 1 + 1, 2, none⟩ u2).setCell ⟨w.heap.size + 1 + 1, 3, none⟩ u3)) (w.heap.size + 1 + 1) 32 u0 u1 u2 u3 ∧ Below w.heap.size w (((((X.setCell ⟨w.heap.size + 1 + 1, 0, none⟩ u0).setCell ⟨w.heap.size + 1 + 1, 1, none⟩ u1).setCell ⟨w.heap.size + 1 + 1, 2, none⟩ u2).setCell ⟨w.heap.size + 1 + 1, 3, none⟩ u3)) := by
  have hs := (((h.s.other (d := w.heap.size + 1 + 1) (by omega) 0 u0).other (d := w.heap.size + 1 + 1) (by omega) 1 u1).other (d := w.heap.size + 1 + 1) (by omega) 2 u2).other (d := w.heap.size + 1 + 1) (by omega) 3 u3
  have ho : Box2p (((((X.setCell ⟨w.heap.size + 1 + 1, 0, none⟩ u0).setCell ⟨w.heap.size + 1 + 1, 1, none⟩ u1).setCell ⟨w.heap.size + 1 + 1, 2, none⟩ u2).setCell ⟨w.heap.size + 1 + 1, 3, none⟩ u3)) (w.heap.size + 1) 36 (.bool p) (.int .i64 x) := by
    have := h.o
    unfold Box2p at *
    rw [Below.heap_setCell _ _ _ _ (by simp), Below.heap_setCell _ _ _ _ (by simp), Below.heap_setCell _ _ _ _ (by simp), Below.heap_setCell _ _ _ _ (by simp)]
    exact this
  exact ⟨⟨hs.cells, ho.cells⟩, (((h.r.set0 u0).set1 u1).set2 u2).set3 u3, sets4 h.b (by omega) _ _ _ _⟩
set_option maxRecDepth 8000 in
set_option maxHeartbeats 8000000 in
theorem s_l6Step_push (k : Int) (ia : Option Addr) (m ic : Nat) (ax ay az : Int) (I : List Int) (x : Int) (w : World) (hI : Nums .i64 w ia m ic I) (hst : Agg.ivCan k ⟨I, ⟨ax, ay, az⟩⟩ (true, x) = true) :
    Calls Tryz.prog 35 #[.int .i64 k, .agg #[.slice ia m ic, .int .i64 ax, .int .i64 ay, .int .i64 az], .agg #[.bool true, .int .i64 x]] w (L6Out (Agg.ivStep k I (true, x)) w) := by
  obtain ⟨W, hW⟩ : ∃ W, W = ((w.alloc (.cells #[.slice ia m ic, .int .i64 ax, .int .i64 ay, .int .i64 az] 32)).alloc (.cells #[.bool true, .int .i64 x] 36)).alloc (.cells #[.slice none 0 0, .int .i64 0, .int .i64 0, .int .i64 0] 32) := ⟨_, rfl⟩
  have HJ := Lib.hid (show IvJ w (.slice ia m ic) ax ay az true x W from by
    rw [hW]
    exact ⟨((Box4.new w _ _ _ _ _).alloc _).alloc _, (Below.heap_alloc _ _ (w.heap.size + 1) (by simp)).trans (by have := heap_alloc_new (w.alloc (.cells #[.slice ia m ic, .int .i64 ax, .int .i64 ay, .int .i64 az] 32)) (.cells #[.bool true, .int .i64 x] 36); simpa using this), Box4.new1 _ _ _ _ _ (by simp), (((Below.refl _ _).alloc (Nat.le_refl _) _).alloc (by simp) _).alloc (by simp; omega) _⟩)
  have HIL := Lib.hid (show I.length = m from hI.1)
  have HI0 := Lib.hid hI
  clear hI
  obtain ⟨q0, q1, q2, q3⟩ := HJ.out.s.cells
  obtain ⟨p0, p1⟩ := HJ.out.o.cells
  have hv : Agg.ivOk k ⟨I, ⟨ax, ay, az⟩⟩ = true := by simp only [Agg.ivCan, Bool.and_eq_true] at hst; exact hst.1
  have hcan : Agg.can (true, x) (m : Int) = true := by simp only [Agg.ivCan, Bool.and_eq_true, HIL.out] at hst; exact hst.2
  obtain ⟨hr, hk, hit, hag, hok⟩ := Agg.ivOk_parts hv
  simp only at hit hag hok
  obtain ⟨hx, hm60⟩ := Agg.can_push hcan
  have hxb : 0 ≤ x ∧ x ≤ 96 := by simpa [Agg.isItem] using hx
  have hlk := Agg.ok_lift hk hx
  have hLI := fun w => s_lift_any k hk x w hxb.1 hxb.2
  have hIN := fun w => s_in_item x w
  rw [hx] at hIN
  have HIN := Lib.hid hIN
  obtain ⟨⟨lx, ly, lz⟩, hL⟩ : ∃ V, V = Agg.lift k x := ⟨_, rfl⟩
  rw [← hL] at hLI hlk
  have hCO := fun w => s_combine_any k hk ax ay az lx ly lz w hok hlk
  obtain ⟨⟨rx, ry, rz⟩, hR⟩ : ∃ V, V = Agg.comb k ⟨ax, ay, az⟩ ⟨lx, ly, lz⟩ := ⟨_, rfl⟩
  rw [← hR] at hCO
  have HRES := Lib.hid (show (⟨rx, ry, rz⟩ : Agg.V) = Agg.fold k (I ++ [x]) from by rw [hR, hL, hag]; exact Agg.iv_push k I x)
  have HLI := Lib.hid hLI
  have HCO := Lib.hid hCO
  have hm60' : (m : Int) < 60 := by omega
  have hm60n : m < 60 := by omega
  obtain ⟨i0, hi, hz0, hz1, hz2⟩ := info_parts infoInt
  clear hst hr hv hcan hk hit hag hok hx hxb hlk hLI hCO hL hR hm60 hIN
  go_enter Tryz.func35, Tryz.ntmps35
  go_upto_region 1 with (fail)
  rw [← hW]
  clear hW
  obtain ⟨y0, y1, y2, y3⟩ := (HJ.out.call ((Below.refl _ _).alloc (Nat.le_refl _) (.cells #[] 3))).s.cells
  have hlW : w.heap.size < W.heap.size := by have := HJ.out.lt; omega
  go_wp2_with (at_builtin; go_must (refine wpList_append_copy rfl (.tmp 11) (.tmp 13) 22 rfl 3 i0 (.int .i64 0) 1 8 Tryz.underlying22 hi hz0 hz1 hz2 rfl (by decide) W.heap.size rfl (heap_alloc_new W _) ia m ic (I.map (Value.int .i64)) rfl (Nums.src (HI0.out.below (HJ.out.b.alloc HJ.out.b.size _))) (by unfold maxLen; omega) (by omega) ?_; intro v1 w1 hown1 hgrow1; obtain ⟨ja, jc, rfl⟩ := p_slice hown1; have HO := Lib.hid (owns_lower hown1 HJ.out.lt); have HJL := Lib.hid HJ.out.lt; have HN1 := Lib.hid (own_nums1 hown1 (by have := hgrow1.size; simp at this; omega)); have HJ := Lib.hid ((HJ.out.call ((Below.refl _ _).alloc (Nat.le_refl _) (.cells #[] 3))).grown hgrow1 (fun g hg => by have := HJ.out.lt; simp only [Option.some.injEq] at hg; omega)); have HL1 := Lib.hid (show w.heap.size + 3 ≤ w1.heap.size from HJ.out.lt); clear hown1 hgrow1 q0 q1 q2 q3 p0 p1; obtain ⟨q0, q1, q2, q3⟩ := HJ.out.s.cells; obtain ⟨p0, p1⟩ := HJ.out.o.cells))
  clear y0 y1 y2 y3 hlW
  refine (HIN.out _).mono ?_
  rintro e w2 ⟨rfl, rfl⟩
  go_wp2_with fail
  refine wp_region_held_drew (S := (fun X => (X.cell? ⟨w.heap.size, 0, none⟩ = some (.slice ia m ic) ∧ X.cell? ⟨w.heap.size, 1, none⟩ = some (.int .i64 ax) ∧ X.cell? ⟨w.heap.size, 2, none⟩ = some (.int .i64 ay) ∧ X.cell? ⟨w.heap.size, 3, none⟩ = some (.int .i64 az)) ∧ X.cell? ⟨w.heap.size + 1, 0, none⟩ = some (.bool true) ∧ X.cell? ⟨w.heap.size + 1, 1, none⟩ = some (.int .i64 x))) (by kernel_rfl) (by exact ⟨HJ.out.s.cells, HJ.out.o.cells⟩) (fun hHeld => ?_)
  first | (refine wpAnyH_take (i := 0) (v := ?_) rfl (by kernel_rfl) (by kernel_rfl) (by kernel_rfl) (fun _ _ _ h => h) (Or.inl ⟨by rfl, ?_⟩) (by assumption) ?_; rotate_left; (intro X hSw; (try dsimp only at hSw); go_simp; (try with_reducible rfl)); (try simp only [Act.put, List.setIfInBounds_toArray, List.set_cons_zero, List.set_cons_succ, List.getElem_toArray, List.getElem_cons_zero, List.getElem_cons_succ])) | fail "take 0"
  first | (refine wpAnyH_take (i := 1) (v := ?_) rfl (by kernel_rfl) (by kernel_rfl) (by kernel_rfl) (fun _ _ _ h => h) (Or.inl ⟨by rfl, ?_⟩) (by assumption) ?_; rotate_left; (intro X hSw; (try dsimp only at hSw); go_simp; (try with_reducible rfl)); (try simp only [Act.put, List.setIfInBounds_toArray, List.set_cons_zero, List.set_cons_succ, List.getElem_toArray, List.getElem_cons_zero, List.getElem_cons_succ])) | fail "take 1"
  first | (refine wpAnyH_take (i := 2) (v := ?_) rfl (by kernel_rfl) (by kernel_rfl) (by kernel_rfl) (fun _ _ _ h => h) (Or.inl ⟨by rfl, ?_⟩) (by assumption) ?_; rotate_left; (intro X hSw; (try dsimp only at hSw); go_simp; (try with_reducible rfl)); (try simp only [Act.put, List.setIfInBounds_toArray, List.set_cons_zero, List.set_cons_succ, List.getElem_toArray, List.getElem_cons_zero, List.getElem_cons_succ])) | fail "take 2"
  first | (refine wpAnyH_take (i := 5) (v := ?_) rfl (by kernel_rfl) (by kernel_rfl) (by kernel_rfl) (fun _ _ _ h => h) (Or.inl ⟨by rfl, ?_⟩) (by assumption) ?_; rotate_left; (intro X hSw; (try dsimp only at hSw); go_simp; (try with_reducible rfl)); (try simp only [Act.put, List.setIfInBounds_toArray, List.set_cons_zero, List.set_cons_succ, List.getElem_toArray, List.getElem_cons_zero, List.getElem_cons_succ])) | fail "take 5"
  first | (refine wpAnyH_take (i := 6) (v := ?_) rfl (by kernel_rfl) (by kernel_rfl) (by kernel_rfl) (fun _ _ _ h => h) (Or.inl ⟨by rfl, ?_⟩) (by assumption) ?_; rotate_left; (intro X hSw; (try dsimp only at hSw); go_simp; (try with_reducible rfl)); (try simp only [Act.put, List.setIfInBounds_toArray, List.set_cons_zero, List.set_cons_succ, List.getElem_toArray, List.getElem_cons_zero, List.getElem_cons_succ])) | fail "take 6"
  first | (refine wpAnyH_take (i := 7) (v := ?_) rfl (by kernel_rfl) (by kernel_rfl) (by kernel_rfl) (fun _ _ _ h => h) (Or.inl ⟨by rfl, ?_⟩) (by assumption) ?_; rotate_left; (intro X hSw; (try dsimp only at hSw); go_simp; (try with_reducible rfl)); (try simp only [Act.put, List.setIfInBounds_toArray, List.set_cons_zero, List.set_cons_succ, List.getElem_toArray, List.getElem_cons_zero, List.getElem_cons_succ])) | fail "take 7"
  first | (refine wpAnyH_take (i := 8) (v := ?_) rfl (by kernel_rfl) (by kernel_rfl) (by kernel_rfl) (fun _ _ _ h => h) (Or.inl ⟨by rfl, ?_⟩) (by assumption) ?_; rotate_left; (intro X hSw; (try dsimp only at hSw); go_simp; (try with_reducible rfl)); (try simp only [Act.put, List.setIfInBounds_toArray, List.set_cons_zero, List.set_cons_succ, List.getElem_toArray, List.getElem_cons_zero, List.getElem_cons_succ])) | fail "take 8"
  first | (refine wpAnyH_take (i := 9) (v := ?_) rfl (by kernel_rfl) (by kernel_rfl) (by kernel_rfl) (fun _ _ _ h => h) (Or.inl ⟨by rfl, ?_⟩) (by assumption) ?_; rotate_left; (intro X hSw; (try dsimp only at hSw); go_simp; (try with_reducible rfl)); (try simp only [Act.put, List.setIfInBounds_toArray, List.set_cons_zero, List.set_cons_succ, List.getElem_toArray, List.getElem_cons_zero, List.getElem_cons_succ])) | fail "take 9"
  first | (refine wpAnyH_take (i := 10) (v := ?_) rfl (by kernel_rfl) (by kernel_rfl) (by kernel_rfl) (fun _ _ _ h => h) (Or.inl ⟨by rfl, ?_⟩) (by assumption) ?_; rotate_left; (intro X hSw; (try dsimp only at hSw); go_simp; (try with_reducible rfl)); (try simp only [Act.put, List.setIfInBounds_toArray, List.set_cons_zero, List.set_cons_succ, List.getElem_toArray, List.getElem_cons_zero, List.getElem_cons_succ])) | fail "take 10"
  refine wpAnyH_ready (rs := [3]) (by kernel_rfl) (by simp) ?_
  refine AllReadyH.cons rfl (fun K hK => ?_) AllReadyH.nil
  go_simp
  have hbl : Below w1.heap.size w1 (w1.alloc (.cells #[.int .i64 x] 3)).drew := ((Below.refl _ _).alloc (Nat.le_refl _) _).drew
  have HLIT := Lib.hid (cell_one_new w1 (.int .i64 x) 3)
  have HO := Lib.hid (show (w1.alloc (.cells #[.int .i64 x] 3)).drew.ownsRow _ _ _ _ _ _ from HO.out.alloc (.cells #[.int .i64 x] 3))
  have HJ := Lib.hid (HJ.out.call hbl)
  clear hbl
  (try dsimp only)
  refine hK.out _ _ (by exact ⟨HJ.out.s.cells, HJ.out.o.cells⟩) (fun hHeld => ?_)
  clear hK K
  (try simp only [Act.put, List.setIfInBounds_toArray, List.set_cons_zero, List.set_cons_succ, List.getElem_toArray, List.getElem_cons_zero, List.getElem_cons_succ])
  refine wpAnyH_ready (rs := [4]) (by kernel_rfl) (by simp) ?_
  refine AllReadyH.cons rfl (fun K hK => ?_) AllReadyH.nil
  go_must (refine step_append_own (by rfl) (.tmp 27) (.tmp 30) 22 (by rfl) (w.heap.size + 3) 3 i0 (.int .i64 0) 1 8 Tryz.underlying22 hi hz0 hz1 hz2 rfl (by decide) (.slice ja m jc) m (I.map (Value.int .i64)) (by rfl) HO.out ⟨w1.heap.size, 0, none⟩ 1 1 [.int .i64 x] (by rfl) (by rfl) HLIT.out (ints_oneCell .i64 [x]) (by unfold maxLen; omega) (by omega) (by have := HJ.out.lt; omega) ?_)
  intro v7 w7 hown7 hgrow7 hnil7
  obtain ⟨ja7, jc7, rfl⟩ := p_slice hown7
  have HO7 := Lib.hid hown7
  have HJ := Lib.hid (HJ.out.grown hgrow7 (fun g hg => (HO.out.lt g hg).1))
  clear hown7 hgrow7 hnil7
  (try dsimp only)
  refine hK.out _ _ (by exact ⟨HJ.out.s.cells, HJ.out.o.cells⟩) (fun hHeld => ?_)
  clear hK K
  (try simp only [Act.put, List.setIfInBounds_toArray, List.set_cons_zero, List.set_cons_succ, List.getElem_toArray, List.getElem_cons_zero, List.getElem_cons_succ])
  refine wpAnyH_ready (rs := [11]) (by kernel_rfl) (by simp) ?_
  refine AllReadyH.cons rfl (fun K hK => ?_) AllReadyH.nil
  go_simp
  refine (HLI.out _).mono ?_
  rintro e w8 ⟨rfl, hb⟩
  have HJ := Lib.hid (HJ.out.call hb)
  have HO7 := Lib.hid (HO7.out.kept (Below.grownNone hb none) (Classical.em _))
  clear hb
  (try dsimp only)
  refine hK.out _ _ (by exact ⟨HJ.out.s.cells, HJ.out.o.cells⟩) (fun hHeld => ?_)
  clear hK K
  (try simp only [Act.put, List.setIfInBounds_toArray, List.set_cons_zero, List.set_cons_succ, List.getElem_toArray, List.getElem_cons_zero, List.getElem_cons_succ])
  refine wpAnyH_ready (rs := [12]) (by kernel_rfl) (by simp) ?_
  refine AllReadyH.cons rfl (fun K hK => ?_) AllReadyH.nil
  go_simp
  refine (HCO.out _).mono ?_
  rintro e w9 ⟨rfl, hb⟩
  have HJ := Lib.hid (HJ.out.call hb)
  have HO7 := Lib.hid (HO7.out.kept (Below.grownNone hb none) (Classical.em _))
  clear hb
  (try dsimp only)
  refine hK.out _ _ (by exact ⟨HJ.out.s.cells, HJ.out.o.cells⟩) (fun hHeld => ?_)
  clear hK K
  (try simp only [Act.put, List.setIfInBounds_toArray, List.set_cons_zero, List.set_cons_succ, List.getElem_toArray, List.getElem_cons_zero, List.getElem_cons_succ])
  first | (refine wpAnyH_take (i := 13) (v := ?_) rfl (by kernel_rfl) (by kernel_rfl) (by kernel_rfl) (fun _ _ _ h => h) (Or.inl ⟨by rfl, ?_⟩) (by assumption) ?_; rotate_left; (intro X hSw; (try dsimp only at hSw); go_simp; (try with_reducible rfl)); (try simp only [Act.put, List.setIfInBounds_toArray, List.set_cons_zero, List.set_cons_succ, List.getElem_toArray, List.getElem_cons_zero, List.getElem_cons_succ])) | fail "take 13"
  refine wpAnyH_ready (rs := [14]) (by kernel_rfl) (by simp) ?_
  refine AllReadyH.cons rfl (fun K hK => ?_) AllReadyH.nil
  obtain ⟨s0, s1, s2, s3⟩ := HJ.out.r.cells
  have e0 := HJ.out.r.free
  obtain ⟨hS, hBx, hBl⟩ := HJ.out.store (.slice ja7 (m + 1) jc7) (.int .i64 rx) (.int .i64 ry) (.int .i64 rz)
  go_simp
  (try dsimp only)
  refine hK.out _ _ (by exact hS) (fun hHeld => ?_)
  clear hK K
  (try simp only [Act.put, List.setIfInBounds_toArray, List.set_cons_zero, List.set_cons_succ, List.getElem_toArray, List.getElem_cons_zero, List.getElem_cons_succ])
  first | (refine wpAnyH_take (i := 15) (v := ?_) rfl (by kernel_rfl) (by kernel_rfl) (by kernel_rfl) (fun _ _ _ h => h) (Or.inl ⟨by rfl, ?_⟩) (by assumption) ?_; rotate_left; (intro X hSw; (try dsimp only at hSw); go_simp; (try with_reducible rfl)); (try simp only [Act.put, List.setIfInBounds_toArray, List.set_cons_zero, List.set_cons_succ, List.getElem_toArray, List.getElem_cons_zero, List.getElem_cons_succ])) | fail "take 15"
  refine wpAnyH_done (by kernel_rfl) ?_ _
  have HO8 := Lib.hid (own_setlow (d := w.heap.size + 1 + 1) (o := 3) (u := .int .i64 rz) (own_setlow (d := w.heap.size + 1 + 1) (o := 2) (u := .int .i64 ry) (own_setlow (d := w.heap.size + 1 + 1) (o := 1) (u := .int .i64 rx) (own_setlow (d := w.heap.size + 1 + 1) (o := 0) (u := .slice ja7 (m + 1) jc7) HO7.out (by omega)) (by omega)) (by omega)) (by omega))
  have HBX := Lib.hid hBx
  have HBL := Lib.hid hBl
  obtain ⟨X5, hX5⟩ : ∃ X5, X5 = (((w9.setCell ⟨w.heap.size + 1 + 1, 0, none⟩ (.slice ja7 (m + 1) jc7)).setCell ⟨w.heap.size + 1 + 1, 1, none⟩ (.int .i64 rx)).setCell ⟨w.heap.size + 1 + 1, 2, none⟩ (.int .i64 ry)).setCell ⟨w.heap.size + 1 + 1, 3, none⟩ (.int .i64 rz) := ⟨_, rfl⟩
  rw [← hX5] at HO8 HBX HBL ⊢
  clear hX5 hS hBx hBl s0 s1 s2 s3 e0
  obtain ⟨s0, s1, s2, s3⟩ := HBX.out.cells
  go_wp2_with fail
  refine bodyPost_ret (by simp [results, Tryz.results35, go_sem, *]; try rfl) rfl ?_
  have hil := HIL.out
  subst hil
  have hs : Agg.ivStep k I (true, x) = ⟨I ++ [x], ⟨rx, ry, rz⟩⟩ := by rw [HRES.out]; simp [Agg.ivStep, Agg.stepW]
  rw [hs]
  obtain ⟨a', c', e', hN, -⟩ := (OwnR.of6 (lo := w.heap.size + 3) (lo' := w.heap.size) (l := I ++ [x]) (by have := HO8.out; simpa using this) (by omega) HBL.out.size).nums
  simp only [Value.slice.injEq] at e'
  obtain ⟨rfl, -, rfl⟩ := e'
  refine ⟨ja7, jc7, by simp, ?_, HBL.out⟩
  have hl : (I ++ [x]).length = I.length + 1 := by simp
  show Nums .i64 X5 ja7 (I ++ [x]).length jc7 (I ++ [x])
  rw [hl]
  exact hN
set_option maxRecDepth 8000 in
set_option maxHeartbeats 8000000 in
theorem s_l6Step_pop (k : Int) (ia : Option Addr) (m ic : Nat) (ax ay az : Int) (I : List Int) (x : Int) (w : World) (hI : Nums .i64 w ia m ic I) (hst : Agg.ivCan k ⟨I, ⟨ax, ay, az⟩⟩ (false, x) = true) :
    Calls Tryz.prog 35 #[.int .i64 k, .agg #[.slice ia m ic, .int .i64 ax, .int .i64 ay, .int .i64 az], .agg #[.bool false, .int .i64 x]] w (L6Out (Agg.ivStep k I (false, x)) w) := by
  obtain ⟨W, hW⟩ : ∃ W, W = ((w.alloc (.cells #[.slice ia m ic, .int .i64 ax, .int .i64 ay, .int .i64 az] 32)).alloc (.cells #[.bool false, .int .i64 x] 36)).alloc (.cells #[.slice none 0 0, .int .i64 0, .int .i64 0, .int .i64 0] 32) := ⟨_, rfl⟩
  have HJ := Lib.hid (show IvJ w (.slice ia m ic) ax ay az false x W from by
    rw [hW]
    exact ⟨((Box4.new w _ _ _ _ _).alloc _).alloc _, (Below.heap_alloc _ _ (w.heap.size + 1) (by simp)).trans (by have := heap_alloc_new (w.alloc (.cells #[.slice ia m ic, .int .i64 ax, .int .i64 ay, .int .i64 az] 32)) (.cells #[.bool false, .int .i64 x] 36); simpa using this), Box4.new1 _ _ _ _ _ (by simp), (((Below.refl _ _).alloc (Nat.le_refl _) _).alloc (by simp) _).alloc (by simp; omega) _⟩)
  have HIL := Lib.hid (show I.length = m from hI.1)
  have HI0 := Lib.hid hI
  clear hI
  obtain ⟨q0, q1, q2, q3⟩ := HJ.out.s.cells
  obtain ⟨p0, p1⟩ := HJ.out.o.cells
  have hv : Agg.ivOk k ⟨I, ⟨ax, ay, az⟩⟩ = true := by simp only [Agg.ivCan, Bool.and_eq_true] at hst; exact hst.1
  have hcan : Agg.can (false, x) (m : Int) = true := by simp only [Agg.ivCan, Bool.and_eq_true, HIL.out] at hst; exact hst.2
  obtain ⟨hr, hk, hit, hag, hok⟩ := Agg.ivOk_parts hv
  simp only at hit hag hok
  obtain ⟨hx, hm0⟩ := Agg.can_pop hcan
  obtain ⟨y, J, rfl⟩ : ∃ y J, I = y :: J := by
    cases I with
    | nil => have := HIL.out; simp at this; omega
    | cons y J => exact ⟨y, J, rfl⟩
  have hy : Agg.isItem y = true := Agg.items_mem hit y (by simp)
  have hyb : 0 ≤ y ∧ y ≤ 96 := by simpa [Agg.isItem] using hy
  have hlk := Agg.ok_lift hk hy
  have hLI := fun w => s_lift_any k hk y w hyb.1 hyb.2
  have hJit : Agg.itemsOk J = true := by
    simp only [Agg.itemsOk, Bool.and_eq_true, decide_eq_true_eq, List.length_cons, List.all_cons] at hit ⊢
    exact ⟨by omega, hit.2.2⟩
  have hokJ := Agg.ok_fold_all hk hJit
  obtain ⟨-, hrest⟩ := Agg.iv_pop hr hit
  rw [← hag] at hrest
  have hCO := fun w => s_removeFirst_any k (Agg.lift k y).x (Agg.lift k y).y (Agg.lift k y).z ax ay az w
  have hre : Agg.aRest k ⟨(Agg.lift k y).x, (Agg.lift k y).y, (Agg.lift k y).z⟩ ⟨ax, ay, az⟩ = (Agg.fold k J, true) := by
    show Agg.aRest k (Agg.lift k y) ⟨ax, ay, az⟩ = _
    simp [Agg.aRest, Agg.valid, Agg.give, hk, hlk, hok, hr, hrest, hokJ]
  rw [hre] at hCO
  obtain ⟨⟨lx, ly, lz⟩, hL⟩ : ∃ V, V = Agg.lift k y := ⟨_, rfl⟩
  rw [← hL] at hLI hCO
  obtain ⟨⟨rx, ry, rz⟩, hR⟩ : ∃ V, V = Agg.fold k J := ⟨_, rfl⟩
  rw [← hR] at hCO
  have HRES := Lib.hid (show (⟨rx, ry, rz⟩ : Agg.V) = Agg.fold k J from hR)
  have HLI := Lib.hid hLI
  have HCO := Lib.hid hCO
  have hm60 : m ≤ 60 := by have := Agg.items_len hit; have := HIL.out; omega
  have hmN : 0 < m := by omega
  have hmI : (0 : Int) < (m : Int) := by omega
  have hmI1 : (1 : Int) ≤ (m : Int) := by omega
  have hmI0 : ¬ ((m : Int) = 0) := by omega
  obtain ⟨i0, hi, hz0, hz1, hz2⟩ := info_parts infoInt
  subst hx
  clear hst hr hv hcan hk hit hag hok hy hyb hlk hLI hCO hL hR hm0 hrest hre hJit hokJ
  go_enter Tryz.func35, Tryz.ntmps35
  go_upto_region 1 with (fail)
  rw [← hW]
  clear hW
  obtain ⟨y0, y1, y2, y3⟩ := (HJ.out.call ((Below.refl _ _).alloc (Nat.le_refl _) (.cells #[] 3))).s.cells
  have hlW : w.heap.size < W.heap.size := by have := HJ.out.lt; omega
  go_wp2_with (at_builtin; go_must (refine wpList_append_copy rfl (.tmp 11) (.tmp 13) 22 rfl 3 i0 (.int .i64 0) 1 8 Tryz.underlying22 hi hz0 hz1 hz2 rfl (by decide) W.heap.size rfl (heap_alloc_new W _) ia m ic ((y :: J).map (Value.int .i64)) rfl (Nums.src (HI0.out.below (HJ.out.b.alloc HJ.out.b.size _))) (by unfold maxLen; omega) (by omega) ?_; intro v1 w1 hown1 hgrow1; obtain ⟨ja, jc, rfl⟩ := p_slice hown1; have HO := Lib.hid (owns_lower hown1 HJ.out.lt); have HJL := Lib.hid HJ.out.lt; have HN1 := Lib.hid (own_nums1 hown1 (by have := hgrow1.size; simp at this; omega)); have HJ := Lib.hid ((HJ.out.call ((Below.refl _ _).alloc (Nat.le_refl _) (.cells #[] 3))).grown hgrow1 (fun g hg => by have := HJ.out.lt; simp only [Option.some.injEq] at hg; omega)); have HL1 := Lib.hid (show w.heap.size + 3 ≤ w1.heap.size from HJ.out.lt); clear hown1 hgrow1 q0 q1 q2 q3 p0 p1; obtain ⟨q0, q1, q2, q3⟩ := HJ.out.s.cells; obtain ⟨p0, p1⟩ := HJ.out.o.cells))
  clear y0 y1 y2 y3 hlW
  obtain ⟨g, off, rfl, hg, hgc⟩ : ∃ b off, ja = some ⟨b, off, none⟩ ∧ b < w1.heap.size ∧ ∀ i, i < m → w1.cell? ⟨b, off + i, none⟩ = some (.int .i64 ((y :: J)[i]?.getD 0)) := by
    rcases HN1.out.2.2.2 with h | h
    · omega
    · exact h
  have hcy : w1.cell? ⟨g, off, none⟩ = some (.int .i64 y) := by have := hgc 0 hmN; simpa using this
  have HIT := Lib.hid (show Nums .i64 w1 (some ⟨g, off, none⟩) m jc (y :: J) from HN1.out)
  have SQ := Lib.hid (show ∀ X, Below w1.heap.size w1 X → (X.cell? ⟨w.heap.size, 0, none⟩ = some (.slice ia m ic) ∧ X.cell? ⟨w.heap.size, 1, none⟩ = some (.int .i64 ax) ∧ X.cell? ⟨w.heap.size, 2, none⟩ = some (.int .i64 ay) ∧ X.cell? ⟨w.heap.size, 3, none⟩ = some (.int .i64 az)) ∧ X.cell? ⟨g, off, none⟩ = some (.int .i64 y) from fun X h => ⟨(HJ.out.call h).s.cells, (h.cell (p := ⟨g, off, none⟩) hg).trans hcy⟩)
  clear hcy hgc HN1
  go_cut [9, 10] (fun s s' wx => ∃ c : Nat, s = .pointer (some ⟨c, 0, none⟩) ∧ s' = .bool true ∧ Box wx c 30 rx ry rz ∧ Below w1.heap.size w1 wx ∧ w1.heap.size ≤ c)
  case first =>
    clear q0 q1 q2 q3 p0 p1
    have HD := Lib.hid (show Below w1.heap.size w1 w1.drew from (Below.refl _ _).drew)
    refine wp_region_held_drew (S := fun X => (X.cell? ⟨w.heap.size, 0, none⟩ = some (.slice ia m ic) ∧ X.cell? ⟨w.heap.size, 1, none⟩ = some (.int .i64 ax) ∧ X.cell? ⟨w.heap.size, 2, none⟩ = some (.int .i64 ay) ∧ X.cell? ⟨w.heap.size, 3, none⟩ = some (.int .i64 az)) ∧ X.cell? ⟨g, off, none⟩ = some (.int .i64 y)) (by kernel_rfl) (by exact SQ.out _ HD.out) (fun hHeld => ?_)
    first | (refine wpAnyH_take (i := 0) (v := ?_) rfl (by kernel_rfl) (by kernel_rfl) (by kernel_rfl) (fun _ _ _ h => h) (Or.inl ⟨by rfl, ?_⟩) (by assumption) ?_; rotate_left; (intro X hSw; (try dsimp only at hSw); go_simp; (try with_reducible rfl)); (try simp only [Act.put, List.setIfInBounds_toArray, List.set_cons_zero, List.set_cons_succ, List.getElem_toArray, List.getElem_cons_zero, List.getElem_cons_succ])) | fail "take 0"
    first | (refine wpAnyH_take (i := 1) (v := ?_) rfl (by kernel_rfl) (by kernel_rfl) (by kernel_rfl) (fun _ _ _ h => h) (Or.inl ⟨by rfl, ?_⟩) (by assumption) ?_; rotate_left; (intro X hSw; (try dsimp only at hSw); go_simp; (try with_reducible rfl)); (try simp only [Act.put, List.setIfInBounds_toArray, List.set_cons_zero, List.set_cons_succ, List.getElem_toArray, List.getElem_cons_zero, List.getElem_cons_succ])) | fail "take 1"
    first | (refine wpAnyH_take (i := 2) (v := ?_) rfl (by kernel_rfl) (by kernel_rfl) (by kernel_rfl) (fun _ _ _ h => h) (Or.inl ⟨by rfl, ?_⟩) (by assumption) ?_; rotate_left; (intro X hSw; (try dsimp only at hSw); go_simp; (try with_reducible rfl)); (try simp only [Act.put, List.setIfInBounds_toArray, List.set_cons_zero, List.set_cons_succ, List.getElem_toArray, List.getElem_cons_zero, List.getElem_cons_succ])) | fail "take 2"
    first | (refine wpAnyH_take (i := 3) (v := ?_) rfl (by kernel_rfl) (by kernel_rfl) (by kernel_rfl) (fun _ _ _ h => h) (Or.inl ⟨by rfl, ?_⟩) (by assumption) ?_; rotate_left; (intro X hSw; (try dsimp only at hSw); go_simp; (try with_reducible rfl)); (try simp only [Act.put, List.setIfInBounds_toArray, List.set_cons_zero, List.set_cons_succ, List.getElem_toArray, List.getElem_cons_zero, List.getElem_cons_succ])) | fail "take 3"
    first | (refine wpAnyH_take (i := 4) (v := ?_) rfl (by kernel_rfl) (by kernel_rfl) (by kernel_rfl) (fun _ _ _ h => h) (Or.inl ⟨by rfl, ?_⟩) (by assumption) ?_; rotate_left; (intro X hSw; (try dsimp only at hSw); go_simp; (try with_reducible rfl)); (try simp only [Act.put, List.setIfInBounds_toArray, List.set_cons_zero, List.set_cons_succ, List.getElem_toArray, List.getElem_cons_zero, List.getElem_cons_succ])) | fail "take 4"
    first | (refine wpAnyH_take (i := 6) (v := ?_) rfl (by kernel_rfl) (by kernel_rfl) (by kernel_rfl) (fun _ _ _ h => h) (Or.inl ⟨by rfl, ?_⟩) (by assumption) ?_; rotate_left; (intro X hSw; (try dsimp only at hSw); go_simp; (try with_reducible rfl)); (try simp only [Act.put, List.setIfInBounds_toArray, List.set_cons_zero, List.set_cons_succ, List.getElem_toArray, List.getElem_cons_zero, List.getElem_cons_succ])) | fail "take 6"
    first | (refine wpAnyH_take (i := 7) (v := ?_) rfl (by kernel_rfl) (by kernel_rfl) (by kernel_rfl) (fun _ _ _ h => h) (Or.inl ⟨by rfl, ?_⟩) (by assumption) ?_; rotate_left; (intro X hSw; (try dsimp only at hSw); go_simp; (try with_reducible rfl)); (try simp only [Act.put, List.setIfInBounds_toArray, List.set_cons_zero, List.set_cons_succ, List.getElem_toArray, List.getElem_cons_zero, List.getElem_cons_succ])) | fail "take 7"
    refine wpAnyH_ready (rs := [5, 12]) (by kernel_rfl) (by simp) ?_
    refine AllReadyH.cons rfl (fun K hK => ?_) (AllReadyH.cons rfl (fun K hK => ?_) AllReadyH.nil)
    · go_simp
      refine (HLI.out _).mono ?_
      rintro e wa ⟨rfl, hb⟩
      have HD := Lib.hid (HD.out.trans (hb.mono HD.out.size))
      clear hb
      (try dsimp only)
      refine hK.out _ _ (by exact SQ.out _ HD.out) (fun hHeld => ?_)
      clear hK K
      (try simp only [Act.put, List.setIfInBounds_toArray, List.set_cons_zero, List.set_cons_succ, List.getElem_toArray, List.getElem_cons_zero, List.getElem_cons_succ])
      refine wpAnyH_ready (rs := [8, 12]) (by kernel_rfl) (by simp) ?_
      refine AllReadyH.cons rfl (fun K hK => ?_) (AllReadyH.cons rfl (fun K hK => ?_) AllReadyH.nil)
      · go_simp
        refine (HCO.out _).mono ?_
        rintro e wb ⟨rfl, hb⟩
        have HD := Lib.hid (HD.out.trans (hb.mono HD.out.size))
        clear hb
        (try dsimp only)
        refine hK.out _ _ (by exact SQ.out _ HD.out) (fun hHeld => ?_)
        clear hK K
        (try simp only [Act.put, List.setIfInBounds_toArray, List.set_cons_zero, List.set_cons_succ, List.getElem_toArray, List.getElem_cons_zero, List.getElem_cons_succ])
        first | (refine wpAnyH_take (i := 9) (v := ?_) rfl (by kernel_rfl) (by kernel_rfl) (by kernel_rfl) (fun _ _ _ h => h) (Or.inl ⟨by rfl, ?_⟩) (by assumption) ?_; rotate_left; (intro X hSw; (try dsimp only at hSw); go_simp; (try with_reducible rfl)); (try simp only [Act.put, List.setIfInBounds_toArray, List.set_cons_zero, List.set_cons_succ, List.getElem_toArray, List.getElem_cons_zero, List.getElem_cons_succ])) | fail "take 9"
        first | (refine wpAnyH_take (i := 10) (v := ?_) rfl (by kernel_rfl) (by kernel_rfl) (by kernel_rfl) (fun _ _ _ h => h) (Or.inl ⟨by rfl, ?_⟩) (by assumption) ?_; rotate_left; (intro X hSw; (try dsimp only at hSw); go_simp; (try with_reducible rfl)); (try simp only [Act.put, List.setIfInBounds_toArray, List.set_cons_zero, List.set_cons_succ, List.getElem_toArray, List.getElem_cons_zero, List.getElem_cons_succ])) | fail "take 10"
        first | (refine wpAnyH_take (i := 11) (v := ?_) rfl (by kernel_rfl) (by kernel_rfl) (by kernel_rfl) (fun _ _ _ h => h) (Or.inl ⟨by rfl, ?_⟩) (by assumption) ?_; rotate_left; (intro X hSw; (try dsimp only at hSw); go_simp; (try with_reducible rfl)); (try simp only [Act.put, List.setIfInBounds_toArray, List.set_cons_zero, List.set_cons_succ, List.getElem_toArray, List.getElem_cons_zero, List.getElem_cons_succ])) | fail "take 11"
        refine wpAnyH_ready (rs := [12]) (by kernel_rfl) (by simp) ?_
        refine AllReadyH.cons rfl (fun K hK => ?_) AllReadyH.nil
        go_simp
        have HC := Lib.hid (show Box (wb.alloc (.cells #[.int .i64 0, .int .i64 0, .int .i64 0] 30)) wb.heap.size 30 0 0 0 from Box.new wb _ _ _ _)
        have HDB := HD
        have HCL := Lib.hid (show w1.heap.size ≤ wb.heap.size from HD.out.size)
        have HD := Lib.hid (show Below w1.heap.size w1 (wb.alloc (.cells #[.int .i64 0, .int .i64 0, .int .i64 0] 30)) from HD.out.alloc HD.out.size _)
        (try dsimp only)
        refine hK.out _ _ (by exact SQ.out _ HD.out) (fun hHeld => ?_)
        clear hK K
        (try simp only [Act.put, List.setIfInBounds_toArray, List.set_cons_zero, List.set_cons_succ, List.getElem_toArray, List.getElem_cons_zero, List.getElem_cons_succ])
        refine wpAnyH_ready (rs := [13]) (by kernel_rfl) (by simp) ?_
        refine AllReadyH.cons rfl (fun K hK => ?_) AllReadyH.nil
        obtain ⟨r0, r1, r2⟩ := HC.out.cells
        have e0 := HC.out.free 0
        have e1 := HC.out.free 1
        have e2 := HC.out.free 2
        have HC := Lib.hid (Box.new wb 30 rx ry rz)
        have HD := Lib.hid (show Below w1.heap.size w1 (wb.alloc (.cells #[.int .i64 rx, .int .i64 ry, .int .i64 rz] 30)) from HDB.out.alloc HDB.out.size _)
        go_simp
        (try dsimp only)
        refine hK.out _ _ (by exact SQ.out _ HD.out) (fun hHeld => ?_)
        clear hK K
        (try simp only [Act.put, List.setIfInBounds_toArray, List.set_cons_zero, List.set_cons_succ, List.getElem_toArray, List.getElem_cons_zero, List.getElem_cons_succ])
        first | (refine wpAnyH_take (i := 14) (v := ?_) rfl (by kernel_rfl) (by kernel_rfl) (by kernel_rfl) (fun _ _ _ h => h) (Or.inl ⟨by rfl, ?_⟩) (by assumption) ?_; rotate_left; (intro X hSw; (try dsimp only at hSw); go_simp; (try with_reducible rfl)); (try simp only [Act.put, List.setIfInBounds_toArray, List.set_cons_zero, List.set_cons_succ, List.getElem_toArray, List.getElem_cons_zero, List.getElem_cons_succ])) | fail "take 14"
        refine wpAnyH_done (by kernel_rfl) ?_ _
        go_wp2_with fail
        go_meet
        case rel => exact ⟨wb.heap.size, rfl, rfl, HC.out, HD.out, HCL.out⟩
      · go_simp
        have HC := Lib.hid (show Box (wa.alloc (.cells #[.int .i64 0, .int .i64 0, .int .i64 0] 30)) wa.heap.size 30 0 0 0 from Box.new wa _ _ _ _)
        have HCL := Lib.hid (show w1.heap.size ≤ wa.heap.size from HD.out.size)
        have HD := Lib.hid (show Below w1.heap.size w1 (wa.alloc (.cells #[.int .i64 0, .int .i64 0, .int .i64 0] 30)) from HD.out.alloc HD.out.size _)
        (try dsimp only)
        refine hK.out _ _ (by exact SQ.out _ HD.out) (fun hHeld => ?_)
        clear hK K
        (try simp only [Act.put, List.setIfInBounds_toArray, List.set_cons_zero, List.set_cons_succ, List.getElem_toArray, List.getElem_cons_zero, List.getElem_cons_succ])
        refine wpAnyH_ready (rs := [8]) (by kernel_rfl) (by simp) ?_
        refine AllReadyH.cons rfl (fun K hK => ?_) AllReadyH.nil
        go_simp
        refine (HCO.out _).mono ?_
        rintro e wb ⟨rfl, hb⟩
        have HD := Lib.hid (HD.out.trans (hb.mono HD.out.size))
        have HC := Lib.hid (Box.call (w := (wa.alloc (.cells #[.int .i64 0, .int .i64 0, .int .i64 0] 30))) HC.out hb)
        clear hb
        (try dsimp only)
        refine hK.out _ _ (by exact SQ.out _ HD.out) (fun hHeld => ?_)
        clear hK K
        (try simp only [Act.put, List.setIfInBounds_toArray, List.set_cons_zero, List.set_cons_succ, List.getElem_toArray, List.getElem_cons_zero, List.getElem_cons_succ])
        first | (refine wpAnyH_take (i := 9) (v := ?_) rfl (by kernel_rfl) (by kernel_rfl) (by kernel_rfl) (fun _ _ _ h => h) (Or.inl ⟨by rfl, ?_⟩) (by assumption) ?_; rotate_left; (intro X hSw; (try dsimp only at hSw); go_simp; (try with_reducible rfl)); (try simp only [Act.put, List.setIfInBounds_toArray, List.set_cons_zero, List.set_cons_succ, List.getElem_toArray, List.getElem_cons_zero, List.getElem_cons_succ])) | fail "take 9"
        first | (refine wpAnyH_take (i := 10) (v := ?_) rfl (by kernel_rfl) (by kernel_rfl) (by kernel_rfl) (fun _ _ _ h => h) (Or.inl ⟨by rfl, ?_⟩) (by assumption) ?_; rotate_left; (intro X hSw; (try dsimp only at hSw); go_simp; (try with_reducible rfl)); (try simp only [Act.put, List.setIfInBounds_toArray, List.set_cons_zero, List.set_cons_succ, List.getElem_toArray, List.getElem_cons_zero, List.getElem_cons_succ])) | fail "take 10"
        first | (refine wpAnyH_take (i := 11) (v := ?_) rfl (by kernel_rfl) (by kernel_rfl) (by kernel_rfl) (fun _ _ _ h => h) (Or.inl ⟨by rfl, ?_⟩) (by assumption) ?_; rotate_left; (intro X hSw; (try dsimp only at hSw); go_simp; (try with_reducible rfl)); (try simp only [Act.put, List.setIfInBounds_toArray, List.set_cons_zero, List.set_cons_succ, List.getElem_toArray, List.getElem_cons_zero, List.getElem_cons_succ])) | fail "take 11"
        refine wpAnyH_ready (rs := [13]) (by kernel_rfl) (by simp) ?_
        refine AllReadyH.cons rfl (fun K hK => ?_) AllReadyH.nil
        obtain ⟨r0, r1, r2⟩ := HC.out.cells
        have e0 := HC.out.free 0
        have e1 := HC.out.free 1
        have e2 := HC.out.free 2
        have HC := Lib.hid (HC.out.set rx ry rz)
        have HD := Lib.hid (((HD.out.setCell (p := ⟨wa.heap.size, 0, none⟩) HCL.out (.int .i64 rx)).setCell (p := ⟨wa.heap.size, 1, none⟩) HCL.out (.int .i64 ry)).setCell (p := ⟨wa.heap.size, 2, none⟩) HCL.out (.int .i64 rz))
        go_simp
        (try dsimp only)
        refine hK.out _ _ (by exact SQ.out _ HD.out) (fun hHeld => ?_)
        clear hK K
        (try simp only [Act.put, List.setIfInBounds_toArray, List.set_cons_zero, List.set_cons_succ, List.getElem_toArray, List.getElem_cons_zero, List.getElem_cons_succ])
        first | (refine wpAnyH_take (i := 14) (v := ?_) rfl (by kernel_rfl) (by kernel_rfl) (by kernel_rfl) (fun _ _ _ h => h) (Or.inl ⟨by rfl, ?_⟩) (by assumption) ?_; rotate_left; (intro X hSw; (try dsimp only at hSw); go_simp; (try with_reducible rfl)); (try simp only [Act.put, List.setIfInBounds_toArray, List.set_cons_zero, List.set_cons_succ, List.getElem_toArray, List.getElem_cons_zero, List.getElem_cons_succ])) | fail "take 14"
        refine wpAnyH_done (by kernel_rfl) ?_ _
        go_wp2_with fail
        go_meet
        case rel => exact ⟨wa.heap.size, rfl, rfl, HC.out, HD.out, HCL.out⟩
    · go_simp
      have HC := Lib.hid (show Box (w1.alloc (.cells #[.int .i64 0, .int .i64 0, .int .i64 0] 30)).drew w1.heap.size 30 0 0 0 from Box.new w1 _ _ _ _)
      have HCL := Lib.hid (show w1.heap.size ≤ w1.heap.size from (Nat.le_refl _))
      have HD := Lib.hid (show Below w1.heap.size w1 (w1.alloc (.cells #[.int .i64 0, .int .i64 0, .int .i64 0] 30)).drew from ((Below.refl w1.heap.size w1).alloc (Nat.le_refl _) _).drew)
      (try dsimp only)
      refine hK.out _ _ (by exact SQ.out _ HD.out) (fun hHeld => ?_)
      clear hK K
      (try simp only [Act.put, List.setIfInBounds_toArray, List.set_cons_zero, List.set_cons_succ, List.getElem_toArray, List.getElem_cons_zero, List.getElem_cons_succ])
      refine wpAnyH_ready (rs := [5]) (by kernel_rfl) (by simp) ?_
      refine AllReadyH.cons rfl (fun K hK => ?_) AllReadyH.nil
      go_simp
      refine (HLI.out _).mono ?_
      rintro e wa ⟨rfl, hb⟩
      have HD := Lib.hid (HD.out.trans (hb.mono HD.out.size))
      have HC := Lib.hid (Box.call (w := (w1.alloc (.cells #[.int .i64 0, .int .i64 0, .int .i64 0] 30)).drew) HC.out hb)
      clear hb
      (try dsimp only)
      refine hK.out _ _ (by exact SQ.out _ HD.out) (fun hHeld => ?_)
      clear hK K
      (try simp only [Act.put, List.setIfInBounds_toArray, List.set_cons_zero, List.set_cons_succ, List.getElem_toArray, List.getElem_cons_zero, List.getElem_cons_succ])
      refine wpAnyH_ready (rs := [8]) (by kernel_rfl) (by simp) ?_
      refine AllReadyH.cons rfl (fun K hK => ?_) AllReadyH.nil
      go_simp
      refine (HCO.out _).mono ?_
      rintro e wb ⟨rfl, hb⟩
      have HD := Lib.hid (HD.out.trans (hb.mono HD.out.size))
      have HC := Lib.hid (Box.call (w := wa) HC.out hb)
      clear hb
      (try dsimp only)
      refine hK.out _ _ (by exact SQ.out _ HD.out) (fun hHeld => ?_)
      clear hK K
      (try simp only [Act.put, List.setIfInBounds_toArray, List.set_cons_zero, List.set_cons_succ, List.getElem_toArray, List.getElem_cons_zero, List.getElem_cons_succ])
      first | (refine wpAnyH_take (i := 9) (v := ?_) rfl (by kernel_rfl) (by kernel_rfl) (by kernel_rfl) (fun _ _ _ h => h) (Or.inl ⟨by rfl, ?_⟩) (by assumption) ?_; rotate_left; (intro X hSw; (try dsimp only at hSw); go_simp; (try with_reducible rfl)); (try simp only [Act.put, List.setIfInBounds_toArray, List.set_cons_zero, List.set_cons_succ, List.getElem_toArray, List.getElem_cons_zero, List.getElem_cons_succ])) | fail "take 9"
      first | (refine wpAnyH_take (i := 10) (v := ?_) rfl (by kernel_rfl) (by kernel_rfl) (by kernel_rfl) (fun _ _ _ h => h) (Or.inl ⟨by rfl, ?_⟩) (by assumption) ?_; rotate_left; (intro X hSw; (try dsimp only at hSw); go_simp; (try with_reducible rfl)); (try simp only [Act.put, List.setIfInBounds_toArray, List.set_cons_zero, List.set_cons_succ, List.getElem_toArray, List.getElem_cons_zero, List.getElem_cons_succ])) | fail "take 10"
      first | (refine wpAnyH_take (i := 11) (v := ?_) rfl (by kernel_rfl) (by kernel_rfl) (by kernel_rfl) (fun _ _ _ h => h) (Or.inl ⟨by rfl, ?_⟩) (by assumption) ?_; rotate_left; (intro X hSw; (try dsimp only at hSw); go_simp; (try with_reducible rfl)); (try simp only [Act.put, List.setIfInBounds_toArray, List.set_cons_zero, List.set_cons_succ, List.getElem_toArray, List.getElem_cons_zero, List.getElem_cons_succ])) | fail "take 11"
      refine wpAnyH_ready (rs := [13]) (by kernel_rfl) (by simp) ?_
      refine AllReadyH.cons rfl (fun K hK => ?_) AllReadyH.nil
      obtain ⟨r0, r1, r2⟩ := HC.out.cells
      have e0 := HC.out.free 0
      have e1 := HC.out.free 1
      have e2 := HC.out.free 2
      have HC := Lib.hid (HC.out.set rx ry rz)
      have HD := Lib.hid (((HD.out.setCell (p := ⟨w1.heap.size, 0, none⟩) HCL.out (.int .i64 rx)).setCell (p := ⟨w1.heap.size, 1, none⟩) HCL.out (.int .i64 ry)).setCell (p := ⟨w1.heap.size, 2, none⟩) HCL.out (.int .i64 rz))
      go_simp
      (try dsimp only)
      refine hK.out _ _ (by exact SQ.out _ HD.out) (fun hHeld => ?_)
      clear hK K
      (try simp only [Act.put, List.setIfInBounds_toArray, List.set_cons_zero, List.set_cons_succ, List.getElem_toArray, List.getElem_cons_zero, List.getElem_cons_succ])
      first | (refine wpAnyH_take (i := 14) (v := ?_) rfl (by kernel_rfl) (by kernel_rfl) (by kernel_rfl) (fun _ _ _ h => h) (Or.inl ⟨by rfl, ?_⟩) (by assumption) ?_; rotate_left; (intro X hSw; (try dsimp only at hSw); go_simp; (try with_reducible rfl)); (try simp only [Act.put, List.setIfInBounds_toArray, List.set_cons_zero, List.set_cons_succ, List.getElem_toArray, List.getElem_cons_zero, List.getElem_cons_succ])) | fail "take 14"
      refine wpAnyH_done (by kernel_rfl) ?_ _
      go_wp2_with fail
      go_meet
      case rel => exact ⟨w1.heap.size, rfl, rfl, HC.out, HD.out, HCL.out⟩
  case rest =>
    obtain ⟨c, rfl, rfl, hBc, hD, hCC⟩ := hcut
    have HCC := Lib.hid (show w.heap.size + 3 ≤ c from Nat.le_trans HL1.out hCC)
    clear hCC
    have HJ := Lib.hid (HJ.out.call hD)
    have HN := Lib.hid (HIT.out.below hD)
    have HBC := Lib.hid hBc
    have HW3 := Lib.hid (show w.heap.size + 3 ≤ w1.heap.size from HL1.out)
    clear hD hBc q0 q1 q2 q3 p0 p1 SQ
    obtain ⟨b0, b1, b2⟩ := HBC.out.cells
    obtain ⟨s0, s1, s2, s3⟩ := HJ.out.r.cells
    have e0 := HJ.out.r.free
    have hjc : m ≤ jc := HN.out.2.1
    have hjm : jc ≤ 9223372036854775807 := by have := HN.out.2.2.1; unfold maxLen at this; omega
    have hjI : (m : Int) ≤ (jc : Int) := by omega
    have hsl1 : ((m : Int) - 1).toNat = m - 1 := by omega
    have hsl2 : ((jc : Int) - 1).toNat = jc - 1 := by omega
    by_cases hj1 : jc = 1
    · have hm1 : m = 1 := by omega
      have hcc : c ≠ w.heap.size + 1 + 1 := by have := HCC.out; omega
      go_wp2_with fail
      refine wp_region_held_drew (S := fun X => X.cell? ⟨c, 0, none⟩ = some (.int .i64 rx) ∧ X.cell? ⟨c, 1, none⟩ = some (.int .i64 ry) ∧ X.cell? ⟨c, 2, none⟩ = some (.int .i64 rz)) (by kernel_rfl) (by exact ⟨b0, b1, b2⟩) (fun hHeld => ?_)
      first | (refine wpAnyH_take (i := 0) (v := ?_) rfl (by kernel_rfl) (by kernel_rfl) (by kernel_rfl) (fun _ _ _ h => h) (Or.inl ⟨by rfl, ?_⟩) (by assumption) ?_; rotate_left; (intro X hSw; (try dsimp only at hSw); go_simp; (try with_reducible rfl)); (try simp only [Act.put, List.setIfInBounds_toArray, List.set_cons_zero, List.set_cons_succ, List.getElem_toArray, List.getElem_cons_zero, List.getElem_cons_succ])) | fail "take 0"
      first | (refine wpAnyH_take (i := 1) (v := ?_) rfl (by kernel_rfl) (by kernel_rfl) (by kernel_rfl) (fun _ _ _ h => h) (Or.inl ⟨by rfl, ?_⟩) (by assumption) ?_; rotate_left; (intro X hSw; (try dsimp only at hSw); go_simp; (try with_reducible rfl)); (try simp only [Act.put, List.setIfInBounds_toArray, List.set_cons_zero, List.set_cons_succ, List.getElem_toArray, List.getElem_cons_zero, List.getElem_cons_succ])) | fail "take 1"
      first | (refine wpAnyH_take (i := 2) (v := ?_) rfl (by kernel_rfl) (by kernel_rfl) (by kernel_rfl) (fun _ _ _ h => h) (Or.inl ⟨by rfl, ?_⟩) (by assumption) ?_; rotate_left; (intro X hSw; (try dsimp only at hSw); go_simp; (try with_reducible rfl)); (try simp only [Act.put, List.setIfInBounds_toArray, List.set_cons_zero, List.set_cons_succ, List.getElem_toArray, List.getElem_cons_zero, List.getElem_cons_succ])) | fail "take 2"
      first | (refine wpAnyH_take (i := 3) (v := ?_) rfl (by kernel_rfl) (by kernel_rfl) (by kernel_rfl) (fun _ _ _ h => h) (Or.inl ⟨by rfl, ?_⟩) (by assumption) ?_; rotate_left; (intro X hSw; (try dsimp only at hSw); go_simp; (try with_reducible rfl)); (try simp only [Act.put, List.setIfInBounds_toArray, List.set_cons_zero, List.set_cons_succ, List.getElem_toArray, List.getElem_cons_zero, List.getElem_cons_succ])) | fail "take 3"
      first | (refine wpAnyH_take (i := 4) (v := ?_) rfl (by kernel_rfl) (by kernel_rfl) (by kernel_rfl) (fun _ _ _ h => h) (Or.inl ⟨by rfl, ?_⟩) (by assumption) ?_; rotate_left; (intro X hSw; (try dsimp only at hSw); go_simp; (try with_reducible rfl)); (try simp only [Act.put, List.setIfInBounds_toArray, List.set_cons_zero, List.set_cons_succ, List.getElem_toArray, List.getElem_cons_zero, List.getElem_cons_succ])) | fail "take 4"
      refine wpAnyH_ready (rs := [5]) (by kernel_rfl) (by simp) ?_
      refine AllReadyH.cons rfl (fun K hK => ?_) AllReadyH.nil
      obtain ⟨hS, hBx, hBl⟩ := HJ.out.store (.slice (some ⟨g, off, none⟩) 0 0) (.int .i64 rx) (.int .i64 ry) (.int .i64 rz)
      have hBC := (((Box.set_other (w := wc.drew) HBC.out (show c ≠ w.heap.size + 1 + 1 by omega) 0 (.slice (some ⟨g, off, none⟩) 0 0)).set_other (show c ≠ w.heap.size + 1 + 1 by omega) 1 (.int .i64 rx)).set_other (show c ≠ w.heap.size + 1 + 1 by omega) 2 (.int .i64 ry)).set_other (show c ≠ w.heap.size + 1 + 1 by omega) 3 (.int .i64 rz)
      go_simp
      (try dsimp only)
      refine hK.out _ _ (by exact hBC.cells) (fun hHeld => ?_)
      clear hK K
      (try simp only [Act.put, List.setIfInBounds_toArray, List.set_cons_zero, List.set_cons_succ, List.getElem_toArray, List.getElem_cons_zero, List.getElem_cons_succ])
      first | (refine wpAnyH_take (i := 6) (v := ?_) rfl (by kernel_rfl) (by kernel_rfl) (by kernel_rfl) (fun _ _ _ h => h) (Or.inl ⟨by rfl, ?_⟩) (by assumption) ?_; rotate_left; (intro X hSw; (try dsimp only at hSw); go_simp; (try with_reducible rfl)); (try simp only [Act.put, List.setIfInBounds_toArray, List.set_cons_zero, List.set_cons_succ, List.getElem_toArray, List.getElem_cons_zero, List.getElem_cons_succ])) | fail "take 6"
      refine wpAnyH_done (by kernel_rfl) ?_ _
      have HBX := Lib.hid (show Box4 ((((wc.setCell ⟨w.heap.size + 1 + 1, 0, none⟩ (.slice (some ⟨g, off, none⟩) 0 0)).setCell ⟨w.heap.size + 1 + 1, 1, none⟩ (.int .i64 rx)).setCell ⟨w.heap.size + 1 + 1, 2, none⟩ (.int .i64 ry)).setCell ⟨w.heap.size + 1 + 1, 3, none⟩ (.int .i64 rz)).drew (w.heap.size + 1 + 1) 32 (.slice (some ⟨g, off, none⟩) 0 0) (.int .i64 rx) (.int .i64 ry) (.int .i64 rz) from hBx)
      have HBL := Lib.hid hBl.drew
      have hNX : Nums .i64 ((((wc.setCell ⟨w.heap.size + 1 + 1, 0, none⟩ (.slice (some ⟨g, off, none⟩) 0 0)).setCell ⟨w.heap.size + 1 + 1, 1, none⟩ (.int .i64 rx)).setCell ⟨w.heap.size + 1 + 1, 2, none⟩ (.int .i64 ry)).setCell ⟨w.heap.size + 1 + 1, 3, none⟩ (.int .i64 rz)).drew (some ⟨g, off, none⟩) 0 0 J := by
        show Nums .i64 ((((wc.setCell ⟨w.heap.size + 1 + 1, 0, none⟩ (.slice (some ⟨g, off, none⟩) 0 0)).setCell ⟨w.heap.size + 1 + 1, 1, none⟩ (.int .i64 rx)).setCell ⟨w.heap.size + 1 + 1, 2, none⟩ (.int .i64 ry)).setCell ⟨w.heap.size + 1 + 1, 3, none⟩ (.int .i64 rz)) (some ⟨g, off, none⟩) 0 0 J
        exact ⟨by have := HIL.out; simp at this; omega, Nat.le_refl _, by simp [maxLen], .inl rfl⟩
      have HNX := Lib.hid hNX
      obtain ⟨X5, hX5⟩ : ∃ X5, X5 = ((((wc.setCell ⟨w.heap.size + 1 + 1, 0, none⟩ (.slice (some ⟨g, off, none⟩) 0 0)).setCell ⟨w.heap.size + 1 + 1, 1, none⟩ (.int .i64 rx)).setCell ⟨w.heap.size + 1 + 1, 2, none⟩ (.int .i64 ry)).setCell ⟨w.heap.size + 1 + 1, 3, none⟩ (.int .i64 rz)).drew := ⟨_, rfl⟩
      rw [← hX5] at HBX HBL HNX ⊢
      clear hX5 hS hBx hBl hBC hNX hHeld s0 s1 s2 s3 e0 b0 b1 b2
      obtain ⟨s0, s1, s2, s3⟩ := HBX.out.cells
      go_wp2_with fail
      refine bodyPost_ret (by simp [results, Tryz.results35, go_sem, *]; try rfl) rfl ?_
      have hs : Agg.ivStep k (y :: J) (false, 0) = ⟨J, ⟨rx, ry, rz⟩⟩ := by rw [HRES.out]; simp [Agg.ivStep, Agg.stepW]
      rw [hs]
      have hJl : J.length = 0 := by have := HIL.out; simp at this; omega
      refine ⟨some ⟨g, off, none⟩, 0, ?_, ?_, HBL.out⟩
      rotate_left
      · show Nums .i64 X5 _ J.length _ J
        rw [hJl]
        exact HNX.out
      · show _ = Ending.returned (.tuple #[.agg #[.slice _ J.length _, .int .i64 rx, .int .i64 ry, .int .i64 rz], .bool true])
        rw [hJl]
    · have hcc : c ≠ w.heap.size + 1 + 1 := by have := HCC.out; omega
      go_wp2_with fail
      refine wp_region_held_drew (S := fun X => X.cell? ⟨c, 0, none⟩ = some (.int .i64 rx) ∧ X.cell? ⟨c, 1, none⟩ = some (.int .i64 ry) ∧ X.cell? ⟨c, 2, none⟩ = some (.int .i64 rz)) (by kernel_rfl) (by exact ⟨b0, b1, b2⟩) (fun hHeld => ?_)
      first | (refine wpAnyH_take (i := 0) (v := ?_) rfl (by kernel_rfl) (by kernel_rfl) (by kernel_rfl) (fun _ _ _ h => h) (Or.inl ⟨by rfl, ?_⟩) (by assumption) ?_; rotate_left; (intro X hSw; (try dsimp only at hSw); go_simp; (try with_reducible rfl)); (try simp only [Act.put, List.setIfInBounds_toArray, List.set_cons_zero, List.set_cons_succ, List.getElem_toArray, List.getElem_cons_zero, List.getElem_cons_succ])) | fail "take 0"
      first | (refine wpAnyH_take (i := 1) (v := ?_) rfl (by kernel_rfl) (by kernel_rfl) (by kernel_rfl) (fun _ _ _ h => h) (Or.inl ⟨by rfl, ?_⟩) (by assumption) ?_; rotate_left; (intro X hSw; (try dsimp only at hSw); go_simp; (try with_reducible rfl)); (try simp only [Act.put, List.setIfInBounds_toArray, List.set_cons_zero, List.set_cons_succ, List.getElem_toArray, List.getElem_cons_zero, List.getElem_cons_succ])) | fail "take 1"
      first | (refine wpAnyH_take (i := 2) (v := ?_) rfl (by kernel_rfl) (by kernel_rfl) (by kernel_rfl) (fun _ _ _ h => h) (Or.inl ⟨by rfl, ?_⟩) (by assumption) ?_; rotate_left; (intro X hSw; (try dsimp only at hSw); go_simp; (try with_reducible rfl)); (try simp only [Act.put, List.setIfInBounds_toArray, List.set_cons_zero, List.set_cons_succ, List.getElem_toArray, List.getElem_cons_zero, List.getElem_cons_succ])) | fail "take 2"
      first | (refine wpAnyH_take (i := 3) (v := ?_) rfl (by kernel_rfl) (by kernel_rfl) (by kernel_rfl) (fun _ _ _ h => h) (Or.inl ⟨by rfl, ?_⟩) (by assumption) ?_; rotate_left; (intro X hSw; (try dsimp only at hSw); go_simp; (try with_reducible rfl)); (try simp only [Act.put, List.setIfInBounds_toArray, List.set_cons_zero, List.set_cons_succ, List.getElem_toArray, List.getElem_cons_zero, List.getElem_cons_succ])) | fail "take 3"
      first | (refine wpAnyH_take (i := 4) (v := ?_) rfl (by kernel_rfl) (by kernel_rfl) (by kernel_rfl) (fun _ _ _ h => h) (Or.inl ⟨by rfl, ?_⟩) (by assumption) ?_; rotate_left; (intro X hSw; (try dsimp only at hSw); go_simp; (try with_reducible rfl)); (try simp only [Act.put, List.setIfInBounds_toArray, List.set_cons_zero, List.set_cons_succ, List.getElem_toArray, List.getElem_cons_zero, List.getElem_cons_succ])) | fail "take 4"
      refine wpAnyH_ready (rs := [5]) (by kernel_rfl) (by simp) ?_
      refine AllReadyH.cons rfl (fun K hK => ?_) AllReadyH.nil
      obtain ⟨hS, hBx, hBl⟩ := HJ.out.store (.slice (some ⟨g, off + 1, none⟩) (m - 1) (jc - 1)) (.int .i64 rx) (.int .i64 ry) (.int .i64 rz)
      have hBC := (((Box.set_other (w := wc.drew) HBC.out (show c ≠ w.heap.size + 1 + 1 by omega) 0 (.slice (some ⟨g, off + 1, none⟩) (m - 1) (jc - 1))).set_other (show c ≠ w.heap.size + 1 + 1 by omega) 1 (.int .i64 rx)).set_other (show c ≠ w.heap.size + 1 + 1 by omega) 2 (.int .i64 ry)).set_other (show c ≠ w.heap.size + 1 + 1 by omega) 3 (.int .i64 rz)
      go_simp
      (try dsimp only)
      refine hK.out _ _ (by exact hBC.cells) (fun hHeld => ?_)
      clear hK K
      (try simp only [Act.put, List.setIfInBounds_toArray, List.set_cons_zero, List.set_cons_succ, List.getElem_toArray, List.getElem_cons_zero, List.getElem_cons_succ])
      first | (refine wpAnyH_take (i := 6) (v := ?_) rfl (by kernel_rfl) (by kernel_rfl) (by kernel_rfl) (fun _ _ _ h => h) (Or.inl ⟨by rfl, ?_⟩) (by assumption) ?_; rotate_left; (intro X hSw; (try dsimp only at hSw); go_simp; (try with_reducible rfl)); (try simp only [Act.put, List.setIfInBounds_toArray, List.set_cons_zero, List.set_cons_succ, List.getElem_toArray, List.getElem_cons_zero, List.getElem_cons_succ])) | fail "take 6"
      refine wpAnyH_done (by kernel_rfl) ?_ _
      have HBX := Lib.hid (show Box4 ((((wc.setCell ⟨w.heap.size + 1 + 1, 0, none⟩ (.slice (some ⟨g, off + 1, none⟩) (m - 1) (jc - 1))).setCell ⟨w.heap.size + 1 + 1, 1, none⟩ (.int .i64 rx)).setCell ⟨w.heap.size + 1 + 1, 2, none⟩ (.int .i64 ry)).setCell ⟨w.heap.size + 1 + 1, 3, none⟩ (.int .i64 rz)).drew (w.heap.size + 1 + 1) 32 (.slice (some ⟨g, off + 1, none⟩) (m - 1) (jc - 1)) (.int .i64 rx) (.int .i64 ry) (.int .i64 rz) from hBx)
      have HBL := Lib.hid hBl.drew
      have hNX : Nums .i64 ((((wc.setCell ⟨w.heap.size + 1 + 1, 0, none⟩ (.slice (some ⟨g, off + 1, none⟩) (m - 1) (jc - 1))).setCell ⟨w.heap.size + 1 + 1, 1, none⟩ (.int .i64 rx)).setCell ⟨w.heap.size + 1 + 1, 2, none⟩ (.int .i64 ry)).setCell ⟨w.heap.size + 1 + 1, 3, none⟩ (.int .i64 rz)).drew (some ⟨g, off + 1, none⟩) (m - 1) (jc - 1) J := by
        show Nums .i64 ((((wc.setCell ⟨w.heap.size + 1 + 1, 0, none⟩ (.slice (some ⟨g, off + 1, none⟩) (m - 1) (jc - 1))).setCell ⟨w.heap.size + 1 + 1, 1, none⟩ (.int .i64 rx)).setCell ⟨w.heap.size + 1 + 1, 2, none⟩ (.int .i64 ry)).setCell ⟨w.heap.size + 1 + 1, 3, none⟩ (.int .i64 rz)) (some ⟨g, off + 1, none⟩) (m - 1) (jc - 1) J
        exact nums_sets4 (nums_tail HN.out (by omega)) (by have := (HO.out.lt g (by simp [Value.ownBlock])).1; omega) _ _ _ _
      have HNX := Lib.hid hNX
      obtain ⟨X5, hX5⟩ : ∃ X5, X5 = ((((wc.setCell ⟨w.heap.size + 1 + 1, 0, none⟩ (.slice (some ⟨g, off + 1, none⟩) (m - 1) (jc - 1))).setCell ⟨w.heap.size + 1 + 1, 1, none⟩ (.int .i64 rx)).setCell ⟨w.heap.size + 1 + 1, 2, none⟩ (.int .i64 ry)).setCell ⟨w.heap.size + 1 + 1, 3, none⟩ (.int .i64 rz)).drew := ⟨_, rfl⟩
      rw [← hX5] at HBX HBL HNX ⊢
      clear hX5 hS hBx hBl hBC hNX hHeld s0 s1 s2 s3 e0 b0 b1 b2
      obtain ⟨s0, s1, s2, s3⟩ := HBX.out.cells
      go_wp2_with fail
      refine bodyPost_ret (by simp [results, Tryz.results35, go_sem, *]; try rfl) rfl ?_
      have hs : Agg.ivStep k (y :: J) (false, 0) = ⟨J, ⟨rx, ry, rz⟩⟩ := by rw [HRES.out]; simp [Agg.ivStep, Agg.stepW]
      rw [hs]
      have hJl : J.length = m - 1 := by have := HIL.out; simp at this; omega
      refine ⟨some ⟨g, off + 1, none⟩, jc - 1, ?_, ?_, HBL.out⟩
      rotate_left
      · show Nums .i64 X5 _ J.length _ J
        rw [hJl]
        exact HNX.out
      · show _ = Ending.returned (.tuple #[.agg #[.slice _ J.length _, .int .i64 rx, .int .i64 ry, .int .i64 rz], .bool true])
        rw [hJl]
set_option maxRecDepth 8000 in
set_option maxHeartbeats 8000000 in
theorem s_l6Step_not (k : Int) (ia : Option Addr) (m ic : Nat) (ax ay az : Int) (I : List Int) (p : Bool) (x : Int) (w : World) (hI : Nums .i64 w ia m ic I) (hm60 : m ≤ 60) (hcan : Agg.can (p, x) (m : Int) = false) :
    Calls Tryz.prog 35 #[.int .i64 k, .agg #[.slice ia m ic, .int .i64 ax, .int .i64 ay, .int .i64 az], .agg #[.bool p, .int .i64 x]] w (fun e w' => e = .returned (.tuple #[.agg #[.slice ia m ic, .int .i64 ax, .int .i64 ay, .int .i64 az], .bool false]) ∧ Below w.heap.size w w') := by
  obtain ⟨W, hW⟩ : ∃ W, W = ((w.alloc (.cells #[.slice ia m ic, .int .i64 ax, .int .i64 ay, .int .i64 az] 32)).alloc (.cells #[.bool p, .int .i64 x] 36)).alloc (.cells #[.slice none 0 0, .int .i64 0, .int .i64 0, .int .i64 0] 32) := ⟨_, rfl⟩
  have HJ := Lib.hid (show IvJ w (.slice ia m ic) ax ay az p x W from by
    rw [hW]
    exact ⟨((Box4.new w _ _ _ _ _).alloc _).alloc _, (Below.heap_alloc _ _ (w.heap.size + 1) (by simp)).trans (by have := heap_alloc_new (w.alloc (.cells #[.slice ia m ic, .int .i64 ax, .int .i64 ay, .int .i64 az] 32)) (.cells #[.bool p, .int .i64 x] 36); simpa using this), Box4.new1 _ _ _ _ _ (by simp), (((Below.refl _ _).alloc (Nat.le_refl _) _).alloc (by simp) _).alloc (by simp; omega) _⟩)
  have HIL := Lib.hid (show I.length = m from hI.1)
  have HI0 := Lib.hid hI
  clear hI
  obtain ⟨q0, q1, q2, q3⟩ := HJ.out.s.cells
  obtain ⟨p0, p1⟩ := HJ.out.o.cells
  have hIN := fun w => s_in_item x w
  obtain ⟨bi, hbi⟩ : ∃ b, b = Agg.isItem x := ⟨_, rfl⟩
  rw [← hbi] at hIN
  have HIN := Lib.hid hIN
  obtain ⟨i0, hi, hz0, hz1, hz2⟩ := info_parts infoInt
  clear hIN
  have hcc : (p = true → bi = false ∨ ¬ (m : Int) < 60) ∧ (p = false → x ≠ 0 ∨ (m : Int) = 0) := by
    refine ⟨?_, ?_⟩
    · rintro rfl
      cases hb : bi
      · exact .inl rfl
      · right
        intro h
        simp [Agg.can, Agg.opOk, ← hbi, hb] at hcan
        omega
    · rintro rfl
      by_cases h0 : x = 0
      · right
        subst h0
        simp [Agg.can, Agg.opOk] at hcan
        omega
      · exact .inl h0
  clear hcan hbi
  obtain ⟨y0, y1, y2, y3⟩ := (HJ.out.call ((Below.refl _ _).alloc (Nat.le_refl _) (.cells #[] 3))).s.cells
  have hlW : w.heap.size < W.heap.size := by have := HJ.out.lt; omega
  have HCC := Lib.hid hcc
  clear hcc
  cases p
  · go_enter Tryz.func35, Tryz.ntmps35
    go_upto_region 1 with (fail)
    rw [← hW]
    clear hW
    rcases HCC.out.2 rfl with hx | hm
    · go_wp2_with (at_builtin; go_must (refine wpList_append_copy rfl (.tmp 11) (.tmp 13) 22 rfl 3 i0 (.int .i64 0) 1 8 Tryz.underlying22 hi hz0 hz1 hz2 rfl (by decide) W.heap.size rfl (heap_alloc_new W _) ia m ic (I.map (Value.int .i64)) rfl (Nums.src (HI0.out.below (HJ.out.b.alloc HJ.out.b.size _))) (by unfold maxLen; omega) (by omega) ?_; intro v1 w1 hown1 hgrow1; obtain ⟨ja, jc, rfl⟩ := p_slice hown1; have HO := Lib.hid (owns_lower hown1 HJ.out.lt); have HJL := Lib.hid HJ.out.lt; have HN1 := Lib.hid (own_nums1 hown1 (by have := hgrow1.size; simp at this; omega)); have HJ := Lib.hid ((HJ.out.call ((Below.refl _ _).alloc (Nat.le_refl _) (.cells #[] 3))).grown hgrow1 (fun g hg => by have := HJ.out.lt; simp only [Option.some.injEq] at hg; omega)); have HL1 := Lib.hid (show w.heap.size + 3 ≤ w1.heap.size from HJ.out.lt); clear hown1 hgrow1 q0 q1 q2 q3 p0 p1; obtain ⟨q0, q1, q2, q3⟩ := HJ.out.s.cells; obtain ⟨p0, p1⟩ := HJ.out.o.cells; obtain ⟨s0, s1, s2, s3⟩ := HJ.out.r.cells; have e0 := HJ.out.r.free))
      all_goals
        refine bodyPost_ret (by simp [results, Tryz.results35, go_sem, *]; try rfl) rfl ?_
        exact ⟨rfl, sets4 HJ.out.b (by omega) _ _ _ _⟩
    · go_wp2_with (at_builtin; go_must (refine wpList_append_copy rfl (.tmp 11) (.tmp 13) 22 rfl 3 i0 (.int .i64 0) 1 8 Tryz.underlying22 hi hz0 hz1 hz2 rfl (by decide) W.heap.size rfl (heap_alloc_new W _) ia m ic (I.map (Value.int .i64)) rfl (Nums.src (HI0.out.below (HJ.out.b.alloc HJ.out.b.size _))) (by unfold maxLen; omega) (by omega) ?_; intro v1 w1 hown1 hgrow1; obtain ⟨ja, jc, rfl⟩ := p_slice hown1; have HO := Lib.hid (owns_lower hown1 HJ.out.lt); have HJL := Lib.hid HJ.out.lt; have HN1 := Lib.hid (own_nums1 hown1 (by have := hgrow1.size; simp at this; omega)); have HJ := Lib.hid ((HJ.out.call ((Below.refl _ _).alloc (Nat.le_refl _) (.cells #[] 3))).grown hgrow1 (fun g hg => by have := HJ.out.lt; simp only [Option.some.injEq] at hg; omega)); have HL1 := Lib.hid (show w.heap.size + 3 ≤ w1.heap.size from HJ.out.lt); clear hown1 hgrow1 q0 q1 q2 q3 p0 p1; obtain ⟨q0, q1, q2, q3⟩ := HJ.out.s.cells; obtain ⟨p0, p1⟩ := HJ.out.o.cells; obtain ⟨s0, s1, s2, s3⟩ := HJ.out.r.cells; have e0 := HJ.out.r.free))
      all_goals
        refine bodyPost_ret (by simp [results, Tryz.results35, go_sem, *]; try rfl) rfl ?_
        exact ⟨rfl, sets4 HJ.out.b (by omega) _ _ _ _⟩
  · go_enter Tryz.func35, Tryz.ntmps35
    go_upto_region 1 with (fail)
    rw [← hW]
    clear hW
    go_wp2_with (at_builtin; go_must (refine wpList_append_copy rfl (.tmp 11) (.tmp 13) 22 rfl 3 i0 (.int .i64 0) 1 8 Tryz.underlying22 hi hz0 hz1 hz2 rfl (by decide) W.heap.size rfl (heap_alloc_new W _) ia m ic (I.map (Value.int .i64)) rfl (Nums.src (HI0.out.below (HJ.out.b.alloc HJ.out.b.size _))) (by unfold maxLen; omega) (by omega) ?_; intro v1 w1 hown1 hgrow1; obtain ⟨ja, jc, rfl⟩ := p_slice hown1; have HO := Lib.hid (owns_lower hown1 HJ.out.lt); have HJL := Lib.hid HJ.out.lt; have HN1 := Lib.hid (own_nums1 hown1 (by have := hgrow1.size; simp at this; omega)); have HJ := Lib.hid ((HJ.out.call ((Below.refl _ _).alloc (Nat.le_refl _) (.cells #[] 3))).grown hgrow1 (fun g hg => by have := HJ.out.lt; simp only [Option.some.injEq] at hg; omega)); have HL1 := Lib.hid (show w.heap.size + 3 ≤ w1.heap.size from HJ.out.lt); clear hown1 hgrow1 q0 q1 q2 q3 p0 p1; obtain ⟨q0, q1, q2, q3⟩ := HJ.out.s.cells; obtain ⟨p0, p1⟩ := HJ.out.o.cells))
    clear y0 y1 y2 y3 hlW
    refine (HIN.out _).mono ?_
    rintro e w2 ⟨rfl, rfl⟩
    obtain ⟨s0, s1, s2, s3⟩ := HJ.out.r.cells
    have e0 := HJ.out.r.free
    cases bi
    · go_wp2_with fail
      refine bodyPost_ret (by simp [results, Tryz.results35, go_sem, *]; try rfl) rfl ?_
      exact ⟨rfl, sets4 HJ.out.b (by omega) _ _ _ _⟩
    · have h60 : (60 : Int) ≤ (m : Int) := by
        rcases HCC.out.1 (by first | rfl | trivial) with h | h
        · cases h
        · omega
      go_wp2_with fail
      refine bodyPost_ret (by simp [results, Tryz.results35, go_sem, *]; try rfl) rfl ?_
      exact ⟨rfl, sets4 HJ.out.b (by omega) _ _ _ _⟩
set_option maxRecDepth 8000 in
set_option maxHeartbeats 8000000 in
theorem s_inverseStep_any (k : Int) (ia : Option Addr) (m ic : Nat) (ax ay az : Int) (I : List Int) (p : Bool) (x : Int) (w : World) (hI : Nums .i64 w ia m ic I) :
    Calls Tryz.prog 8 #[.int .i64 k, .agg #[.slice ia m ic, .int .i64 ax, .int .i64 ay, .int .i64 az], .agg #[.bool p, .int .i64 x]] w (IvOut (Agg.ivCan k ⟨I, ⟨ax, ay, az⟩⟩ (p, x)) (Agg.aIv k ⟨I, ⟨ax, ay, az⟩⟩ (p, x)) w) := by
  obtain ⟨W, hW⟩ : ∃ W, W = ((w.alloc (.cells #[.slice ia m ic, .int .i64 ax, .int .i64 ay, .int .i64 az] 32)).alloc (.cells #[.bool p, .int .i64 x] 36)).alloc (.cells #[.slice none 0 0, .int .i64 0, .int .i64 0, .int .i64 0] 32) := ⟨_, rfl⟩
  have HJ := Lib.hid (show IvJ w (.slice ia m ic) ax ay az p x W from by
    rw [hW]
    exact ⟨((Box4.new w _ _ _ _ _).alloc _).alloc _, (Below.heap_alloc _ _ (w.heap.size + 1) (by simp)).trans (by have := heap_alloc_new (w.alloc (.cells #[.slice ia m ic, .int .i64 ax, .int .i64 ay, .int .i64 az] 32)) (.cells #[.bool p, .int .i64 x] 36); simpa using this), Box4.new1 _ _ _ _ _ (by simp), (((Below.refl _ _).alloc (Nat.le_refl _) _).alloc (by simp) _).alloc (by simp; omega) _⟩)
  have HIL := Lib.hid (show I.length = m from hI.1)
  have HI0 := Lib.hid hI
  have hV := fun w hI => s_inverseValid_any k ia m ic ax ay az I w hI
  have hno : Agg.ivCan k ⟨I, ⟨ax, ay, az⟩⟩ (p, x) = false → Agg.aIv k ⟨I, ⟨ax, ay, az⟩⟩ (p, x) = Agg.zeroIv := fun h => by simp [Agg.aIv, h]
  have hyes : Agg.ivCan k ⟨I, ⟨ax, ay, az⟩⟩ (p, x) = true → Agg.aIv k ⟨I, ⟨ax, ay, az⟩⟩ (p, x) = Agg.ivStep k I (p, x) := fun h => by simp [Agg.aIv, h]
  clear hI
  obtain ⟨q0, q1, q2, q3⟩ := HJ.out.s.cells
  obtain ⟨p0, p1⟩ := HJ.out.o.cells
  cases hv : Agg.ivOk k ⟨I, ⟨ax, ay, az⟩⟩
  · have hc : Agg.ivCan k ⟨I, ⟨ax, ay, az⟩⟩ (p, x) = false := by simp [Agg.ivCan, hv]
    rw [hno hc, hc]
    rw [hv] at hV
    have HV := Lib.hid hV
    clear hV hno hyes hv hc
    go_enter Tryz.func8, Tryz.ntmps8
    go_upto_region 1 with (fail)
    rw [← hW]
    clear hW
    go_wp2_with fail
    refine (HV.out _ (HI0.out.below HJ.out.b)).mono ?_
    rintro e w1 ⟨rfl, hb1⟩
    have HJ := Lib.hid (HJ.out.call hb1)
    clear hb1 q0 q1 q2 q3 p0 p1
    obtain ⟨s0, s1, s2, s3⟩ := HJ.out.r.cells
    have e0 := HJ.out.r.free
    go_wp2_with fail
    refine bodyPost_ret (by simp [results, Tryz.results8, go_sem, *]; try rfl) rfl ?_
    exact IvOut.zero (sets4 HJ.out.b (by omega) _ _ _ _)
  · rw [hv] at hV
    have HV := Lib.hid hV
    obtain ⟨-, -, hit, -, -⟩ := Agg.ivOk_parts hv
    have hm60 : m ≤ 60 := by have := Agg.items_len hit; have := HIL.out; simp only at *; omega
    cases hc : Agg.ivCan k ⟨I, ⟨ax, ay, az⟩⟩ (p, x)
    · have hcan : Agg.can (p, x) (m : Int) = false := by
        simp only [Agg.ivCan, hv, Bool.true_and, HIL.out] at hc
        exact hc
      have hS := fun w hI => s_l6Step_not k ia m ic ax ay az I p x w hI hm60 hcan
      rw [hno hc]
      have HS := Lib.hid hS
      clear hV hno hyes hv hc hS hcan hit
      go_enter Tryz.func8, Tryz.ntmps8
      go_upto_region 1 with (fail)
      rw [← hW]
      clear hW
      go_wp2_with fail
      refine (HV.out _ (HI0.out.below HJ.out.b)).mono ?_
      rintro e w1 ⟨rfl, hb1⟩
      have HJ := Lib.hid (HJ.out.call hb1)
      clear hb1 q0 q1 q2 q3 p0 p1
      obtain ⟨q0, q1, q2, q3⟩ := HJ.out.s.cells
      obtain ⟨p0, p1⟩ := HJ.out.o.cells
      go_wp2_with fail
      refine (HS.out _ (HI0.out.below HJ.out.b)).mono ?_
      rintro e w2 ⟨rfl, hb2⟩
      have hb3 : Below w2.heap.size w2 (w2.alloc (.cells #[.slice ia m ic, .int .i64 ax, .int .i64 ay, .int .i64 az] 32)) := (Below.refl _ _).alloc (Nat.le_refl _) _
      have HJ := Lib.hid ((HJ.out.call hb2).call hb3)
      clear hb2 hb3 q0 q1 q2 q3 p0 p1
      obtain ⟨s0, s1, s2, s3⟩ := HJ.out.r.cells
      have e0 := HJ.out.r.free
      go_wp2_with fail
      refine bodyPost_ret (by simp [results, Tryz.results8, go_sem, *]; try rfl) rfl ?_
      exact IvOut.zero (sets4 HJ.out.b (by omega) _ _ _ _)
    · rw [hyes hc]
      obtain ⟨⟨J, ⟨rx, ry, rz⟩⟩, hS'⟩ : ∃ S', S' = Agg.ivStep k I (p, x) := ⟨_, rfl⟩
      have hS : ∀ w, Nums .i64 w ia m ic I → Calls Tryz.prog 35 #[.int .i64 k, .agg #[.slice ia m ic, .int .i64 ax, .int .i64 ay, .int .i64 az], .agg #[.bool p, .int .i64 x]] w (L6Out (Agg.ivStep k I (p, x)) w) := fun w hI => by
        cases p
        · exact s_l6Step_pop k ia m ic ax ay az I x w hI hc
        · exact s_l6Step_push k ia m ic ax ay az I x w hI hc
      have hJl : J.length ≤ 61 := by
        have h1 : J = (Agg.ivStep k I (p, x)).items := by rw [← hS']
        have h2 := HIL.out
        cases p
        · simp [Agg.ivStep, Agg.stepW] at h1; rw [h1]; simp; omega
        · simp [Agg.ivStep, Agg.stepW] at h1; rw [h1]; simp; omega
      rw [← hS'] at hS ⊢
      have HS := Lib.hid hS
      obtain ⟨i0, hi, hz0, hz1, hz2⟩ := info_parts infoInt
      clear hV hno hyes hv hc hS hS' hit
      go_enter Tryz.func8, Tryz.ntmps8
      go_upto_region 1 with (fail)
      rw [← hW]
      clear hW
      go_wp2_with fail
      refine (HV.out _ (HI0.out.below HJ.out.b)).mono ?_
      rintro e w1 ⟨rfl, hb1⟩
      have HJ := Lib.hid (HJ.out.call hb1)
      clear hb1 q0 q1 q2 q3 p0 p1
      obtain ⟨q0, q1, q2, q3⟩ := HJ.out.s.cells
      obtain ⟨p0, p1⟩ := HJ.out.o.cells
      go_wp2_with fail
      refine (HS.out _ (HI0.out.below HJ.out.b)).mono ?_
      rintro e w2 ⟨oa, oc, rfl, hON, hb2⟩
      simp only at hON
      have hb3 : Below w2.heap.size w2 (w2.alloc (.cells #[.slice oa J.length oc, .int .i64 rx, .int .i64 ry, .int .i64 rz] 32)) := (Below.refl _ _).alloc (Nat.le_refl _) _
      obtain ⟨W3, hW3⟩ : ∃ W3, W3 = w2.alloc (.cells #[.slice oa J.length oc, .int .i64 rx, .int .i64 ry, .int .i64 rz] 32) := ⟨_, rfl⟩
      have HO3 := Lib.hid (show Box4 W3 w2.heap.size 32 (.slice oa J.length oc) (.int .i64 rx) (.int .i64 ry) (.int .i64 rz) from by rw [hW3]; exact Box4.new w2 _ _ _ _ _)
      rw [← hW3] at hb3
      have HL2 := Lib.hid (show w.heap.size + 3 ≤ w2.heap.size from (HJ.out.call hb2).lt)
      have HJ := Lib.hid ((HJ.out.call hb2).call hb3)
      have HON := Lib.hid (hON.below hb3)
      clear hb2 hb3 hON q0 q1 q2 q3 p0 p1
      go_upto_region 6 with (fail)
      rw [← hW3]
      clear hW3
      obtain ⟨y0, y1, y2, y3⟩ := (HO3.out.call ((Below.refl W3.heap.size W3).alloc (Nat.le_refl _) (.cells #[] 3))).cells
      have hlW : w2.heap.size < W3.heap.size := HO3.out.lt
      have hlw2 : w.heap.size + 3 ≤ w2.heap.size := HL2.out
      go_upto_region 7 with (at_builtin; go_must (refine wpList_append_copy rfl (.tmp 25) (.tmp 27) 22 rfl 3 i0 (.int .i64 0) 1 8 Tryz.underlying22 hi hz0 hz1 hz2 rfl (by decide) W3.heap.size rfl (heap_alloc_new W3 _) oa J.length oc (J.map (Value.int .i64)) rfl (Nums.src (HON.out.below ((Below.refl W3.heap.size W3).alloc (Nat.le_refl _) _))) (by unfold maxLen; omega) (by omega) ?_; intro v4 w4 hown4 hgrow4; obtain ⟨ja, jc, rfl⟩ := p_slice hown4; have HOB := Lib.hid (show ∀ g, (Value.slice ja J.length jc).ownBlock = some g → W3.heap.size ≤ g from fun g hg => (hown4.lt g hg).1); have HO := Lib.hid (owns_lower hown4 HJ.out.lt); have HB4 := Lib.hid ((HO3.out.call ((Below.refl W3.heap.size W3).alloc (Nat.le_refl _) (.cells #[] 3))).grown hgrow4 (fun e => by have := HO3.out.lt; simp only [Option.some.injEq] at e; omega)); have HJ := Lib.hid ((HJ.out.call ((Below.refl _ _).alloc (Nat.le_refl _) (.cells #[] 3))).grown hgrow4 (fun g hg => by have := HJ.out.lt; simp only [Option.some.injEq] at hg; omega)); clear hown4 hgrow4; obtain ⟨q0, q1, q2, q3⟩ := HB4.out.cells; have f0 := HB4.out.free 0))
      clear y0 y1 y2 y3
      have HO8 := Lib.hid (own_set_ne6 HO.out (d := w2.heap.size) (o := 0) (u := .slice ja J.length jc) (fun g hg e => by have := HOB.out g hg; omega))
      have HB8 := Lib.hid (HB4.out.set0 (.slice ja J.length jc))
      have HJ8 := Lib.hid (show Below w.heap.size w (w4.setCell ⟨w2.heap.size, 0, none⟩ (.slice ja J.length jc)) ∧ Box4 (w4.setCell ⟨w2.heap.size, 0, none⟩ (.slice ja J.length jc)) (w.heap.size + 1 + 1) 32 (.slice none 0 0) (.int .i64 0) (.int .i64 0) (.int .i64 0) from ⟨HJ.out.b.setCell (show w.heap.size ≤ w2.heap.size by omega) _, HJ.out.r.other (by omega) _ _⟩)
      obtain ⟨X8, hX8⟩ : ∃ X8, X8 = w4.setCell ⟨w2.heap.size, 0, none⟩ (.slice ja J.length jc) := ⟨_, rfl⟩
      rw [← hX8] at HO8 HB8 HJ8 ⊢
      clear hX8 q0 q1 q2 q3 f0
      obtain ⟨q0, q1, q2, q3⟩ := HB8.out.cells
      obtain ⟨s0, s1, s2, s3⟩ := HJ8.out.2.cells
      have e0 := HJ8.out.2.free
      go_wp2_with fail
      refine bodyPost_ret (by simp [results, Tryz.results8, go_sem, *]; try rfl) rfl ?_
      exact iv_out (s := ⟨J, ⟨rx, ry, rz⟩⟩) HJ8.out.1 HO8.out _ _ _ _
end Go.Proofs.YtehfijijapfomaaGreat

/-
  The exact law of InverseStep, walked.
-/
namespace Go.Proofs.YtehfijijapfomaaGreat
set_option linter.unusedSimpArgs false
set_option linter.unusedVariables false
open Go.RowKit
set_option maxRecDepth 8000 in
set_option maxHeartbeats 32000000 in
theorem law_FnExactInverseStep (k : Int) (ia : Option Addr) (m ic : Nat) (ax ay az : Int) (I : List Int) (p : Bool) (x : Int) (w : World) (hI : Nums .i64 w ia m ic I) :
    Calls Tryz.prog 3 #[.int .i64 k, .agg #[.slice ia m ic, .int .i64 ax, .int .i64 ay, .int .i64 az], .agg #[.bool p, .int .i64 x]] w fun e w' => e = .returned (.bool true) ∧ Below w.heap.size w w' := by
  have hcI : ic ≤ 9223372036854775807 := by have := hI.2.2.1; unfold maxLen at this; omega
  have hnI : m ≤ ic := hI.2.1
  have HIL := Lib.hid (show I.length = m from hI.1)
  have HI := Lib.hid hI
  have hSZ := fun w => szInverse_any ia m ic ax ay az w (by omega)
  obtain ⟨W, hW⟩ : ∃ W, W = (w.alloc (.cells #[.slice ia m ic, .int .i64 ax, .int .i64 ay, .int .i64 az] 26)).alloc (.cells #[.bool p, .int .i64 x] 28) := ⟨_, rfl⟩
  have HA := Lib.hid (show Box4 W w.heap.size 26 (.slice ia m ic) (.int .i64 ax) (.int .i64 ay) (.int .i64 az) from by rw [hW]; exact (Box4.new w _ _ _ _ _).alloc _)
  have HP := Lib.hid (show Box2q W (w.heap.size + 1) 28 (.bool p) (.int .i64 x) from by rw [hW]; exact Box2q.new1 _ _ _ (by simp))
  have HB := Lib.hid (show Below w.heap.size w W from by rw [hW]; exact ((Below.refl _ _).alloc (Nat.le_refl _) _).alloc (by simp) _)
  clear hI
  by_cases hsz : m ≤ 1048576
  · rw [if_pos hsz] at hSZ
    have HSZ := Lib.hid hSZ
    have hpos : ¬ ((1048576 : Int) - (m : Int) < 0) := by omega
    have hfn : m ≤ 1048576 := by omega
    have hm : m ≤ 1048576 := by omega
    have hlI : I.length ≤ 1048576 := by have := HIL.out; omega
    obtain ⟨S, hS⟩ : ∃ S, S = Agg.aIv k ⟨I, ⟨ax, ay, az⟩⟩ (p, x) := ⟨_, rfl⟩
    obtain ⟨b, hb⟩ : ∃ b, b = Agg.ivCan k ⟨I, ⟨ax, ay, az⟩⟩ (p, x) := ⟨_, rfl⟩
    have hSb : S.items.length ≤ 1000 := by
      rw [hS]
      cases hst : Agg.ivCan k ⟨I, ⟨ax, ay, az⟩⟩ (p, x)
      · simp [Agg.aIv, hst, Agg.zeroIv]
      · have e : Agg.aIv k ⟨I, ⟨ax, ay, az⟩⟩ (p, x) = Agg.ivStep k I (p, x) := by simp [Agg.aIv, hst]
        rw [e]
        have h0 : Agg.ivOk k ⟨I, ⟨ax, ay, az⟩⟩ = true := by
          simp only [Agg.ivCan, Bool.and_eq_true] at hst
          exact hst.1
        obtain ⟨-, -, hit, -, -⟩ := Agg.ivOk_parts h0
        have h1 := Agg.items_len hit
        simp only at h1
        cases p <;> simp [Agg.ivStep, Agg.stepW] <;> omega
    have h1 := fun ia ic w hI => s_inverseStep_any k ia I.length ic ax ay az I p x w hI 
    have h2 := fun ia ic w hI => inverseStep_any k ia I.length ic ax ay az I p x w hI 
    rw [← hS, ← hb] at h1 h2
    have H1 := Lib.hid h1
    have H2 := Lib.hid h2
    have HSB := Lib.hid hSb
    clear h1 h2 hS hb hSZ hSb
    go_enter Tryz.func3, Tryz.ntmps3
    go_wp2_with fail
    rw [← hW]
    clear hW
    refine (HSZ.out _).mono ?_
    rintro e w1 ⟨rfl, hb1⟩
    have HA := Lib.hid (HA.out.call hb1)
    have HP := Lib.hid (HP.out.call hb1)
    have HB := Lib.hid (HB.out.trans (hb1.mono HB.out.size))
    clear hb1
    obtain ⟨q0, q1, q2, q3⟩ := HA.out.cells
    obtain ⟨p0, p1⟩ := HP.out.cells
    go_wp2_with fail
    clear q0 q1 q2 q3 p0 p1
    have HP0 := Lib.hid HP.out.lt
    have sq1 : ∀ X, Snc w1 X → (X.cell? ⟨w.heap.size, 0, none⟩ = some (.slice ia m ic) ∧ X.cell? ⟨w.heap.size, 1, none⟩ = some (.int .i64 ax) ∧ X.cell? ⟨w.heap.size, 2, none⟩ = some (.int .i64 ay) ∧ X.cell? ⟨w.heap.size, 3, none⟩ = some (.int .i64 az)) ∧ X.cell? ⟨w.heap.size + 1, 0, none⟩ = some (.bool p) ∧ X.cell? ⟨w.heap.size + 1, 1, none⟩ = some (.int .i64 x) := fun X h => ⟨(HA.out.call h.1).cells, (HP.out.call h.1).cells⟩
    have SQ1 := Lib.hid sq1
    clear sq1
    go_cut [8, 9] (fun s s' wx => ∃ c : Nat, s = .pointer (some ⟨c, 0, none⟩) ∧ s' = .bool b ∧ IvAns w1.heap.size wx.heap.size wx c S ∧ Snc w1 wx)
    case first =>
      refine wp_region_held_drew (S := (fun X => (X.cell? ⟨w.heap.size, 0, none⟩ = some (.slice ia m ic) ∧ X.cell? ⟨w.heap.size, 1, none⟩ = some (.int .i64 ax) ∧ X.cell? ⟨w.heap.size, 2, none⟩ = some (.int .i64 ay) ∧ X.cell? ⟨w.heap.size, 3, none⟩ = some (.int .i64 az)) ∧ X.cell? ⟨w.heap.size + 1, 0, none⟩ = some (.bool p) ∧ X.cell? ⟨w.heap.size + 1, 1, none⟩ = some (.int .i64 x))) (by kernel_rfl) (by exact SQ1.out _ (Snc.refl w1).drew) (fun hHeld => ?_)
      have HT := Lib.hid (Snc.refl w1).drew
      first | (refine wpAnyH_take (i := 0) (v := ?_) rfl (by kernel_rfl) (by kernel_rfl) (by kernel_rfl) (fun _ _ _ h => h) (Or.inl ⟨by rfl, ?_⟩) (by assumption) ?_; rotate_left; (intro X hSw; (try dsimp only at hSw); go_simp; (try with_reducible rfl)); (try simp only [Act.put, List.setIfInBounds_toArray, List.set_cons_zero, List.set_cons_succ, List.getElem_toArray, List.getElem_cons_zero, List.getElem_cons_succ])) | fail "take 0"
      first | (refine wpAnyH_take (i := 1) (v := ?_) rfl (by kernel_rfl) (by kernel_rfl) (by kernel_rfl) (fun _ _ _ h => h) (Or.inl ⟨by rfl, ?_⟩) (by assumption) ?_; rotate_left; (intro X hSw; (try dsimp only at hSw); go_simp; (try with_reducible rfl)); (try simp only [Act.put, List.setIfInBounds_toArray, List.set_cons_zero, List.set_cons_succ, List.getElem_toArray, List.getElem_cons_zero, List.getElem_cons_succ])) | fail "take 1"
      first | (refine wpAnyH_take (i := 3) (v := ?_) rfl (by kernel_rfl) (by kernel_rfl) (by kernel_rfl) (fun _ _ _ h => h) (Or.inl ⟨by rfl, ?_⟩) (by assumption) ?_; rotate_left; (intro X hSw; (try dsimp only at hSw); go_simp; (try with_reducible rfl)); (try simp only [Act.put, List.setIfInBounds_toArray, List.set_cons_zero, List.set_cons_succ, List.getElem_toArray, List.getElem_cons_zero, List.getElem_cons_succ])) | fail "take 3"
      refine wpAnyH_ready (rs := [2, 9]) (by kernel_rfl) (by simp) ?_
      refine AllReadyH.cons rfl (fun K hK => ?_) (AllReadyH.cons rfl (fun K hK => ?_) AllReadyH.nil)
      · go_simp
        refine (toInverse_own _ _ _ _ _ _ I _ (HI.out.below (HB.out.trans (HT.out.1.mono HB.out.size))) hm).mono ?_
        rintro e v1 ⟨vv, rfl, rr, hbb⟩
        obtain ⟨ia2, ic2, rfl, hRI⟩ := rr.read
        have HR := Lib.hid (fun X (h : Snc v1 X) => (show Nums .i64 X ia2 I.length ic2 I from hRI.below h.1))
        have HT := Lib.hid (HT.out.call hbb)
        clear hbb rr hRI
        (try dsimp only)
        refine hK.out _ _ (by exact SQ1.out _ HT.out) (fun hHeld => ?_)
        clear hK K
        (try simp only [Act.put, List.setIfInBounds_toArray, List.set_cons_zero, List.set_cons_succ, List.getElem_toArray, List.getElem_cons_zero, List.getElem_cons_succ])
        refine wpAnyH_ready (rs := [4, 9]) (by kernel_rfl) (by simp) ?_
        refine AllReadyH.cons rfl (fun K hK => ?_) (AllReadyH.cons rfl (fun K hK => ?_) AllReadyH.nil)
        · go_simp
          refine (toOp_any p x _).mono ?_
          rintro e v2 ⟨rfl, hbb⟩
          have HR := Lib.hid (fun X (h : Snc v2 X) => HR.out X ⟨hbb.trans (h.1.mono hbb.size), Nat.le_trans hbb.size h.2⟩)
          have HT := Lib.hid (HT.out.call hbb)
          clear hbb
          (try dsimp only)
          refine hK.out _ _ (by exact SQ1.out _ HT.out) (fun hHeld => ?_)
          clear hK K
          (try simp only [Act.put, List.setIfInBounds_toArray, List.set_cons_zero, List.set_cons_succ, List.getElem_toArray, List.getElem_cons_zero, List.getElem_cons_succ])
          refine wpAnyH_ready (rs := [5, 9]) (by kernel_rfl) (by simp) ?_
          refine AllReadyH.cons rfl (fun K hK => ?_) (AllReadyH.cons rfl (fun K hK => ?_) AllReadyH.nil)
          · go_simp
            refine (H1.out _ _ _ (HR.out _ (Snc.refl _))).mono ?_
            rintro e v3 ⟨vv, rfl, rr, hbb⟩
            obtain ⟨ia9, ic9, rfl, -⟩ := rr.read
            have HO := Lib.hid rr
            have hloL := HT.out.2
            have hloH := hbb.size
            have HT := Lib.hid (HT.out.call hbb)
            clear hbb rr
            (try dsimp only)
            refine hK.out _ _ (by exact SQ1.out _ HT.out) (fun hHeld => ?_)
            clear hK K
            (try simp only [Act.put, List.setIfInBounds_toArray, List.set_cons_zero, List.set_cons_succ, List.getElem_toArray, List.getElem_cons_zero, List.getElem_cons_succ])
            first | (refine wpAnyH_take (i := 6) (v := ?_) rfl (by kernel_rfl) (by kernel_rfl) (by kernel_rfl) (fun _ _ _ h => h) (Or.inl ⟨by rfl, ?_⟩) (by assumption) ?_; rotate_left; (intro X hSw; (try dsimp only at hSw); go_simp; (try with_reducible rfl)); (try simp only [Act.put, List.setIfInBounds_toArray, List.set_cons_zero, List.set_cons_succ, List.getElem_toArray, List.getElem_cons_zero, List.getElem_cons_succ])) | fail "take 6"
            first | (refine wpAnyH_take (i := 7) (v := ?_) rfl (by kernel_rfl) (by kernel_rfl) (by kernel_rfl) (fun _ _ _ h => h) (Or.inl ⟨by rfl, ?_⟩) (by assumption) ?_; rotate_left; (intro X hSw; (try dsimp only at hSw); go_simp; (try with_reducible rfl)); (try simp only [Act.put, List.setIfInBounds_toArray, List.set_cons_zero, List.set_cons_succ, List.getElem_toArray, List.getElem_cons_zero, List.getElem_cons_succ])) | fail "take 7"
            first | (refine wpAnyH_take (i := 8) (v := ?_) rfl (by kernel_rfl) (by kernel_rfl) (by kernel_rfl) (fun _ _ _ h => h) (Or.inl ⟨by rfl, ?_⟩) (by assumption) ?_; rotate_left; (intro X hSw; (try dsimp only at hSw); go_simp; (try with_reducible rfl)); (try simp only [Act.put, List.setIfInBounds_toArray, List.set_cons_zero, List.set_cons_succ, List.getElem_toArray, List.getElem_cons_zero, List.getElem_cons_succ])) | fail "take 8"
            refine wpAnyH_ready (rs := [9]) (by kernel_rfl) (by simp) ?_
            refine AllReadyH.cons rfl (fun K hK => ?_) AllReadyH.nil
            go_simp
            (try dsimp only)
            refine hK.out _ _ (by exact SQ1.out _ (HT.out.alloc _)) (fun hHeld => ?_)
            clear hK K
            (try simp only [Act.put, List.setIfInBounds_toArray, List.set_cons_zero, List.set_cons_succ, List.getElem_toArray, List.getElem_cons_zero, List.getElem_cons_succ])
            refine wpAnyH_ready (rs := [10]) (by kernel_rfl) (by simp) ?_
            refine AllReadyH.cons rfl (fun K hK => ?_) AllReadyH.nil
            go_simp
            (try dsimp only)
            refine hK.out _ _ (by exact SQ1.out _ (HT.out.alloc _)) (fun hHeld => ?_)
            clear hK K
            (try simp only [Act.put, List.setIfInBounds_toArray, List.set_cons_zero, List.set_cons_succ, List.getElem_toArray, List.getElem_cons_zero, List.getElem_cons_succ])
            first | (refine wpAnyH_take (i := 11) (v := ?_) rfl (by kernel_rfl) (by kernel_rfl) (by kernel_rfl) (fun _ _ _ h => h) (Or.inl ⟨by rfl, ?_⟩) (by assumption) ?_; rotate_left; (intro X hSw; (try dsimp only at hSw); go_simp; (try with_reducible rfl)); (try simp only [Act.put, List.setIfInBounds_toArray, List.set_cons_zero, List.set_cons_succ, List.getElem_toArray, List.getElem_cons_zero, List.getElem_cons_succ])) | fail "take 11"
            refine wpAnyH_done (by kernel_rfl) ?_ _
            go_wp2_with fail
            go_meet
            exact ⟨_, rfl, rfl, IvAns.new hloL hloH (Nat.le_refl _) HO.out, HT.out.alloc _⟩
          · go_simp
            obtain ⟨Y, hY⟩ : ∃ Y, Y = (v2.alloc (.cells #[.slice none 0 0, .int .i64 0, .int .i64 0, .int .i64 0] 32)) := ⟨_, rfl⟩
            have HN := Lib.hid (show Box4 Y v2.heap.size 32 (.slice none 0 0) (.int .i64 0) (.int .i64 0) (.int .i64 0) from by rw [hY]; exact Box4.new _ _ _ _ _ _)
            have hYb : Below v2.heap.size v2 Y := by rw [hY]; exact ((Below.refl _ _).alloc (Nat.le_refl _) _)
            have hcW : w1.heap.size ≤ v2.heap.size := HT.out.2
            have HT := Lib.hid (show Snc w1 Y from HT.out.call hYb)
            have hcl : v2.heap.size < Y.heap.size := HN.out.lt
            have HR := Lib.hid (fun X (h : Snc Y X) => HR.out X ⟨(show Below v2.heap.size v2 X from hYb.trans (h.1.mono hYb.size)), Nat.le_trans hYb.size h.2⟩)
            rw [← hY]
            clear hY hYb
            (try dsimp only)
            refine hK.out _ _ (by exact SQ1.out _ HT.out) (fun hHeld => ?_)
            clear hK K
            (try simp only [Act.put, List.setIfInBounds_toArray, List.set_cons_zero, List.set_cons_succ, List.getElem_toArray, List.getElem_cons_zero, List.getElem_cons_succ])
            refine wpAnyH_ready (rs := [5]) (by kernel_rfl) (by simp) ?_
            refine AllReadyH.cons rfl (fun K hK => ?_) AllReadyH.nil
            go_simp
            refine (H1.out _ _ _ (HR.out _ (Snc.refl _))).mono ?_
            rintro e v3 ⟨vv, rfl, rr, hbb⟩
            obtain ⟨ia9, ic9, rfl, -⟩ := rr.read
            have HO := Lib.hid rr
            have hloL := HT.out.2
            have hloH := hbb.size
            have HT := Lib.hid (HT.out.call hbb)
            have HN := Lib.hid (HN.out.call hbb)
            clear hbb rr
            (try dsimp only)
            refine hK.out _ _ (by exact SQ1.out _ HT.out) (fun hHeld => ?_)
            clear hK K
            (try simp only [Act.put, List.setIfInBounds_toArray, List.set_cons_zero, List.set_cons_succ, List.getElem_toArray, List.getElem_cons_zero, List.getElem_cons_succ])
            first | (refine wpAnyH_take (i := 6) (v := ?_) rfl (by kernel_rfl) (by kernel_rfl) (by kernel_rfl) (fun _ _ _ h => h) (Or.inl ⟨by rfl, ?_⟩) (by assumption) ?_; rotate_left; (intro X hSw; (try dsimp only at hSw); go_simp; (try with_reducible rfl)); (try simp only [Act.put, List.setIfInBounds_toArray, List.set_cons_zero, List.set_cons_succ, List.getElem_toArray, List.getElem_cons_zero, List.getElem_cons_succ])) | fail "take 6"
            first | (refine wpAnyH_take (i := 7) (v := ?_) rfl (by kernel_rfl) (by kernel_rfl) (by kernel_rfl) (fun _ _ _ h => h) (Or.inl ⟨by rfl, ?_⟩) (by assumption) ?_; rotate_left; (intro X hSw; (try dsimp only at hSw); go_simp; (try with_reducible rfl)); (try simp only [Act.put, List.setIfInBounds_toArray, List.set_cons_zero, List.set_cons_succ, List.getElem_toArray, List.getElem_cons_zero, List.getElem_cons_succ])) | fail "take 7"
            first | (refine wpAnyH_take (i := 8) (v := ?_) rfl (by kernel_rfl) (by kernel_rfl) (by kernel_rfl) (fun _ _ _ h => h) (Or.inl ⟨by rfl, ?_⟩) (by assumption) ?_; rotate_left; (intro X hSw; (try dsimp only at hSw); go_simp; (try with_reducible rfl)); (try simp only [Act.put, List.setIfInBounds_toArray, List.set_cons_zero, List.set_cons_succ, List.getElem_toArray, List.getElem_cons_zero, List.getElem_cons_succ])) | fail "take 8"
            obtain ⟨z0, z1, z2, z3⟩ := HN.out.cells
            have zf := HN.out.free
            refine wpAnyH_ready (rs := [10]) (by kernel_rfl) (by simp) ?_
            refine AllReadyH.cons rfl (fun K hK => ?_) AllReadyH.nil
            go_simp
            (try dsimp only)
            refine hK.out _ _ (by exact SQ1.out _ ((((HT.out.set hcW _ _).set hcW _ _).set hcW _ _).set hcW _ _)) (fun hHeld => ?_)
            clear hK K
            (try simp only [Act.put, List.setIfInBounds_toArray, List.set_cons_zero, List.set_cons_succ, List.getElem_toArray, List.getElem_cons_zero, List.getElem_cons_succ])
            first | (refine wpAnyH_take (i := 11) (v := ?_) rfl (by kernel_rfl) (by kernel_rfl) (by kernel_rfl) (fun _ _ _ h => h) (Or.inl ⟨by rfl, ?_⟩) (by assumption) ?_; rotate_left; (intro X hSw; (try dsimp only at hSw); go_simp; (try with_reducible rfl)); (try simp only [Act.put, List.setIfInBounds_toArray, List.set_cons_zero, List.set_cons_succ, List.getElem_toArray, List.getElem_cons_zero, List.getElem_cons_succ])) | fail "take 11"
            refine wpAnyH_done (by kernel_rfl) ?_ _
            go_wp2_with fail
            go_meet
            exact ⟨_, rfl, rfl, IvAns.set hcW (by omega) (Nat.le_refl _) HN.out HO.out, ((((HT.out.set hcW _ _).set hcW _ _).set hcW _ _).set hcW _ _)⟩
        · go_simp
          obtain ⟨Y, hY⟩ : ∃ Y, Y = (v1.alloc (.cells #[.slice none 0 0, .int .i64 0, .int .i64 0, .int .i64 0] 32)) := ⟨_, rfl⟩
          have HN := Lib.hid (show Box4 Y v1.heap.size 32 (.slice none 0 0) (.int .i64 0) (.int .i64 0) (.int .i64 0) from by rw [hY]; exact Box4.new _ _ _ _ _ _)
          have hYb : Below v1.heap.size v1 Y := by rw [hY]; exact ((Below.refl _ _).alloc (Nat.le_refl _) _)
          have hcW : w1.heap.size ≤ v1.heap.size := HT.out.2
          have HT := Lib.hid (show Snc w1 Y from HT.out.call hYb)
          have hcl : v1.heap.size < Y.heap.size := HN.out.lt
          have HR := Lib.hid (fun X (h : Snc Y X) => HR.out X ⟨(show Below v1.heap.size v1 X from hYb.trans (h.1.mono hYb.size)), Nat.le_trans hYb.size h.2⟩)
          rw [← hY]
          clear hY hYb
          (try dsimp only)
          refine hK.out _ _ (by exact SQ1.out _ HT.out) (fun hHeld => ?_)
          clear hK K
          (try simp only [Act.put, List.setIfInBounds_toArray, List.set_cons_zero, List.set_cons_succ, List.getElem_toArray, List.getElem_cons_zero, List.getElem_cons_succ])
          refine wpAnyH_ready (rs := [4]) (by kernel_rfl) (by simp) ?_
          refine AllReadyH.cons rfl (fun K hK => ?_) AllReadyH.nil
          go_simp
          refine (toOp_any p x _).mono ?_
          rintro e v2 ⟨rfl, hbb⟩
          have HR := Lib.hid (fun X (h : Snc v2 X) => HR.out X ⟨hbb.trans (h.1.mono hbb.size), Nat.le_trans hbb.size h.2⟩)
          have HT := Lib.hid (HT.out.call hbb)
          have HN := Lib.hid (HN.out.call hbb)
          have hcl : v1.heap.size < v2.heap.size := HN.out.lt
          clear hbb
          (try dsimp only)
          refine hK.out _ _ (by exact SQ1.out _ HT.out) (fun hHeld => ?_)
          clear hK K
          (try simp only [Act.put, List.setIfInBounds_toArray, List.set_cons_zero, List.set_cons_succ, List.getElem_toArray, List.getElem_cons_zero, List.getElem_cons_succ])
          refine wpAnyH_ready (rs := [5]) (by kernel_rfl) (by simp) ?_
          refine AllReadyH.cons rfl (fun K hK => ?_) AllReadyH.nil
          go_simp
          refine (H1.out _ _ _ (HR.out _ (Snc.refl _))).mono ?_
          rintro e v3 ⟨vv, rfl, rr, hbb⟩
          obtain ⟨ia9, ic9, rfl, -⟩ := rr.read
          have HO := Lib.hid rr
          have hloL := HT.out.2
          have hloH := hbb.size
          have HT := Lib.hid (HT.out.call hbb)
          have HN := Lib.hid (HN.out.call hbb)
          clear hbb rr
          (try dsimp only)
          refine hK.out _ _ (by exact SQ1.out _ HT.out) (fun hHeld => ?_)
          clear hK K
          (try simp only [Act.put, List.setIfInBounds_toArray, List.set_cons_zero, List.set_cons_succ, List.getElem_toArray, List.getElem_cons_zero, List.getElem_cons_succ])
          first | (refine wpAnyH_take (i := 6) (v := ?_) rfl (by kernel_rfl) (by kernel_rfl) (by kernel_rfl) (fun _ _ _ h => h) (Or.inl ⟨by rfl, ?_⟩) (by assumption) ?_; rotate_left; (intro X hSw; (try dsimp only at hSw); go_simp; (try with_reducible rfl)); (try simp only [Act.put, List.setIfInBounds_toArray, List.set_cons_zero, List.set_cons_succ, List.getElem_toArray, List.getElem_cons_zero, List.getElem_cons_succ])) | fail "take 6"
          first | (refine wpAnyH_take (i := 7) (v := ?_) rfl (by kernel_rfl) (by kernel_rfl) (by kernel_rfl) (fun _ _ _ h => h) (Or.inl ⟨by rfl, ?_⟩) (by assumption) ?_; rotate_left; (intro X hSw; (try dsimp only at hSw); go_simp; (try with_reducible rfl)); (try simp only [Act.put, List.setIfInBounds_toArray, List.set_cons_zero, List.set_cons_succ, List.getElem_toArray, List.getElem_cons_zero, List.getElem_cons_succ])) | fail "take 7"
          first | (refine wpAnyH_take (i := 8) (v := ?_) rfl (by kernel_rfl) (by kernel_rfl) (by kernel_rfl) (fun _ _ _ h => h) (Or.inl ⟨by rfl, ?_⟩) (by assumption) ?_; rotate_left; (intro X hSw; (try dsimp only at hSw); go_simp; (try with_reducible rfl)); (try simp only [Act.put, List.setIfInBounds_toArray, List.set_cons_zero, List.set_cons_succ, List.getElem_toArray, List.getElem_cons_zero, List.getElem_cons_succ])) | fail "take 8"
          obtain ⟨z0, z1, z2, z3⟩ := HN.out.cells
          have zf := HN.out.free
          refine wpAnyH_ready (rs := [10]) (by kernel_rfl) (by simp) ?_
          refine AllReadyH.cons rfl (fun K hK => ?_) AllReadyH.nil
          go_simp
          (try dsimp only)
          refine hK.out _ _ (by exact SQ1.out _ ((((HT.out.set hcW _ _).set hcW _ _).set hcW _ _).set hcW _ _)) (fun hHeld => ?_)
          clear hK K
          (try simp only [Act.put, List.setIfInBounds_toArray, List.set_cons_zero, List.set_cons_succ, List.getElem_toArray, List.getElem_cons_zero, List.getElem_cons_succ])
          first | (refine wpAnyH_take (i := 11) (v := ?_) rfl (by kernel_rfl) (by kernel_rfl) (by kernel_rfl) (fun _ _ _ h => h) (Or.inl ⟨by rfl, ?_⟩) (by assumption) ?_; rotate_left; (intro X hSw; (try dsimp only at hSw); go_simp; (try with_reducible rfl)); (try simp only [Act.put, List.setIfInBounds_toArray, List.set_cons_zero, List.set_cons_succ, List.getElem_toArray, List.getElem_cons_zero, List.getElem_cons_succ])) | fail "take 11"
          refine wpAnyH_done (by kernel_rfl) ?_ _
          go_wp2_with fail
          go_meet
          exact ⟨_, rfl, rfl, IvAns.set hcW (by omega) (Nat.le_refl _) HN.out HO.out, ((((HT.out.set hcW _ _).set hcW _ _).set hcW _ _).set hcW _ _)⟩
      · go_simp
        obtain ⟨Y, hY⟩ : ∃ Y, Y = (w1.alloc (.cells #[.slice none 0 0, .int .i64 0, .int .i64 0, .int .i64 0] 32)).drew := ⟨_, rfl⟩
        have HN := Lib.hid (show Box4 Y w1.heap.size 32 (.slice none 0 0) (.int .i64 0) (.int .i64 0) (.int .i64 0) from by rw [hY]; exact Box4.new _ _ _ _ _ _)
        have hYb : Below w1.heap.size w1 Y := by rw [hY]; exact ((Below.refl _ _).alloc (Nat.le_refl _) _).drew
        have hcW : w1.heap.size ≤ w1.heap.size := Nat.le_refl _
        have HT := Lib.hid (show Snc w1 Y from (Snc.refl w1).call hYb)
        have hcl : w1.heap.size < Y.heap.size := HN.out.lt
        rw [← hY]
        clear hY hYb
        (try dsimp only)
        refine hK.out _ _ (by exact SQ1.out _ HT.out) (fun hHeld => ?_)
        clear hK K
        (try simp only [Act.put, List.setIfInBounds_toArray, List.set_cons_zero, List.set_cons_succ, List.getElem_toArray, List.getElem_cons_zero, List.getElem_cons_succ])
        refine wpAnyH_ready (rs := [2]) (by kernel_rfl) (by simp) ?_
        refine AllReadyH.cons rfl (fun K hK => ?_) AllReadyH.nil
        go_simp
        refine (toInverse_own _ _ _ _ _ _ I _ (HI.out.below (HB.out.trans (HT.out.1.mono HB.out.size))) hm).mono ?_
        rintro e v1 ⟨vv, rfl, rr, hbb⟩
        obtain ⟨ia2, ic2, rfl, hRI⟩ := rr.read
        have HR := Lib.hid (fun X (h : Snc v1 X) => (show Nums .i64 X ia2 I.length ic2 I from hRI.below h.1))
        have HT := Lib.hid (HT.out.call hbb)
        have HN := Lib.hid (HN.out.call hbb)
        have hcl : w1.heap.size < v1.heap.size := HN.out.lt
        clear hbb rr hRI
        (try dsimp only)
        refine hK.out _ _ (by exact SQ1.out _ HT.out) (fun hHeld => ?_)
        clear hK K
        (try simp only [Act.put, List.setIfInBounds_toArray, List.set_cons_zero, List.set_cons_succ, List.getElem_toArray, List.getElem_cons_zero, List.getElem_cons_succ])
        refine wpAnyH_ready (rs := [4]) (by kernel_rfl) (by simp) ?_
        refine AllReadyH.cons rfl (fun K hK => ?_) AllReadyH.nil
        go_simp
        refine (toOp_any p x _).mono ?_
        rintro e v2 ⟨rfl, hbb⟩
        have HR := Lib.hid (fun X (h : Snc v2 X) => HR.out X ⟨hbb.trans (h.1.mono hbb.size), Nat.le_trans hbb.size h.2⟩)
        have HT := Lib.hid (HT.out.call hbb)
        have HN := Lib.hid (HN.out.call hbb)
        have hcl : w1.heap.size < v2.heap.size := HN.out.lt
        clear hbb
        (try dsimp only)
        refine hK.out _ _ (by exact SQ1.out _ HT.out) (fun hHeld => ?_)
        clear hK K
        (try simp only [Act.put, List.setIfInBounds_toArray, List.set_cons_zero, List.set_cons_succ, List.getElem_toArray, List.getElem_cons_zero, List.getElem_cons_succ])
        refine wpAnyH_ready (rs := [5]) (by kernel_rfl) (by simp) ?_
        refine AllReadyH.cons rfl (fun K hK => ?_) AllReadyH.nil
        go_simp
        refine (H1.out _ _ _ (HR.out _ (Snc.refl _))).mono ?_
        rintro e v3 ⟨vv, rfl, rr, hbb⟩
        obtain ⟨ia9, ic9, rfl, -⟩ := rr.read
        have HO := Lib.hid rr
        have hloL := HT.out.2
        have hloH := hbb.size
        have HT := Lib.hid (HT.out.call hbb)
        have HN := Lib.hid (HN.out.call hbb)
        clear hbb rr
        (try dsimp only)
        refine hK.out _ _ (by exact SQ1.out _ HT.out) (fun hHeld => ?_)
        clear hK K
        (try simp only [Act.put, List.setIfInBounds_toArray, List.set_cons_zero, List.set_cons_succ, List.getElem_toArray, List.getElem_cons_zero, List.getElem_cons_succ])
        first | (refine wpAnyH_take (i := 6) (v := ?_) rfl (by kernel_rfl) (by kernel_rfl) (by kernel_rfl) (fun _ _ _ h => h) (Or.inl ⟨by rfl, ?_⟩) (by assumption) ?_; rotate_left; (intro X hSw; (try dsimp only at hSw); go_simp; (try with_reducible rfl)); (try simp only [Act.put, List.setIfInBounds_toArray, List.set_cons_zero, List.set_cons_succ, List.getElem_toArray, List.getElem_cons_zero, List.getElem_cons_succ])) | fail "take 6"
        first | (refine wpAnyH_take (i := 7) (v := ?_) rfl (by kernel_rfl) (by kernel_rfl) (by kernel_rfl) (fun _ _ _ h => h) (Or.inl ⟨by rfl, ?_⟩) (by assumption) ?_; rotate_left; (intro X hSw; (try dsimp only at hSw); go_simp; (try with_reducible rfl)); (try simp only [Act.put, List.setIfInBounds_toArray, List.set_cons_zero, List.set_cons_succ, List.getElem_toArray, List.getElem_cons_zero, List.getElem_cons_succ])) | fail "take 7"
        first | (refine wpAnyH_take (i := 8) (v := ?_) rfl (by kernel_rfl) (by kernel_rfl) (by kernel_rfl) (fun _ _ _ h => h) (Or.inl ⟨by rfl, ?_⟩) (by assumption) ?_; rotate_left; (intro X hSw; (try dsimp only at hSw); go_simp; (try with_reducible rfl)); (try simp only [Act.put, List.setIfInBounds_toArray, List.set_cons_zero, List.set_cons_succ, List.getElem_toArray, List.getElem_cons_zero, List.getElem_cons_succ])) | fail "take 8"
        obtain ⟨z0, z1, z2, z3⟩ := HN.out.cells
        have zf := HN.out.free
        refine wpAnyH_ready (rs := [10]) (by kernel_rfl) (by simp) ?_
        refine AllReadyH.cons rfl (fun K hK => ?_) AllReadyH.nil
        go_simp
        (try dsimp only)
        refine hK.out _ _ (by exact SQ1.out _ ((((HT.out.set hcW _ _).set hcW _ _).set hcW _ _).set hcW _ _)) (fun hHeld => ?_)
        clear hK K
        (try simp only [Act.put, List.setIfInBounds_toArray, List.set_cons_zero, List.set_cons_succ, List.getElem_toArray, List.getElem_cons_zero, List.getElem_cons_succ])
        first | (refine wpAnyH_take (i := 11) (v := ?_) rfl (by kernel_rfl) (by kernel_rfl) (by kernel_rfl) (fun _ _ _ h => h) (Or.inl ⟨by rfl, ?_⟩) (by assumption) ?_; rotate_left; (intro X hSw; (try dsimp only at hSw); go_simp; (try with_reducible rfl)); (try simp only [Act.put, List.setIfInBounds_toArray, List.set_cons_zero, List.set_cons_succ, List.getElem_toArray, List.getElem_cons_zero, List.getElem_cons_succ])) | fail "take 11"
        refine wpAnyH_done (by kernel_rfl) ?_ _
        go_wp2_with fail
        go_meet
        exact ⟨_, rfl, rfl, IvAns.set hcW (by omega) (Nat.le_refl _) HN.out HO.out, ((((HT.out.set hcW _ _).set hcW _ _).set hcW _ _).set hcW _ _)⟩
    case rest =>
      obtain ⟨c0, rfl, rfl, hA0, hs0⟩ := hcut
      have HA := Lib.hid (HA.out.call hs0.1)
      have HP := Lib.hid (HP.out.call hs0.1)
      have HB := Lib.hid (HB.out.trans (hs0.1.mono HB.out.size))
      have H0 := Lib.hid hA0
      have hz0 := hs0.2
      have hpl : w.heap.size + 1 < w1.heap.size := HP0.out
      clear hA0 hs0 SQ1 HP0
      obtain ⟨WA, hWA⟩ : ∃ WA, WA = wc := ⟨_, rfl⟩
      subst hWA
      obtain ⟨q0, q1, q2, q3⟩ := HA.out.cells
      go_wp2_with fail
      refine (toInverse_own _ _ _ _ _ _ I _ (HI.out.below HB.out) hm).mono ?_
      rintro e w2 ⟨vv, rfl, rr, hb2⟩
      obtain ⟨ia1, ic1, rfl, hXI⟩ := rr.read
      obtain ⟨W3, hW3⟩ : ∃ W3, W3 = w2.alloc (.cells #[.slice ia1 I.length ic1, .int .i64 ax, .int .i64 ay, .int .i64 az] 32) := ⟨_, rfl⟩
      have hb3 : Below w2.heap.size w2 W3 := by rw [hW3]; exact (Below.refl _ _).alloc (Nat.le_refl _) _
      have HX := Lib.hid (show Box4 W3 w2.heap.size 32 (.slice ia1 I.length ic1) (.int .i64 ax) (.int .i64 ay) (.int .i64 az) from by rw [hW3]; exact Box4.new _ _ _ _ _ _)
      have RX := Lib.hid (rr.below hb3)
      have HXI := Lib.hid (hXI.below hb3)
      have hb23 : Below WA.heap.size WA W3 := hb2.trans (hb3.mono hb2.size)
      have HA := Lib.hid (HA.out.call hb23)
      have HP := Lib.hid (HP.out.call hb23)
      have HB := Lib.hid (HB.out.trans (hb23.mono HB.out.size))
      have H0 := Lib.hid (H0.out.call hb23)
      have hz2 := hb2.size
      have hz3 : w2.heap.size < W3.heap.size := HX.out.lt
      clear hb2 hb3 hb23 rr hXI q0 q1 q2 q3
      go_upto_region 7 with (fail)
      rw [← hW3]
      clear hW3
      have sq2 : ∀ X, Snc W3 X → (X.cell? ⟨w2.heap.size, 0, none⟩ = some (.slice ia1 I.length ic1) ∧ X.cell? ⟨w2.heap.size, 1, none⟩ = some (.int .i64 ax) ∧ X.cell? ⟨w2.heap.size, 2, none⟩ = some (.int .i64 ay) ∧ X.cell? ⟨w2.heap.size, 3, none⟩ = some (.int .i64 az)) ∧ X.cell? ⟨w.heap.size + 1, 0, none⟩ = some (.bool p) ∧ X.cell? ⟨w.heap.size + 1, 1, none⟩ = some (.int .i64 x) := fun X h => ⟨(HX.out.call h.1).cells, (HP.out.call h.1).cells⟩
      have SQ2 := Lib.hid sq2
      clear sq2
      go_cut [11, 12] (fun s s' wx => ∃ c : Nat, s = .pointer (some ⟨c, 0, none⟩) ∧ s' = .bool b ∧ IvAns W3.heap.size wx.heap.size wx c S ∧ Snc W3 wx)
      case first =>
        refine wp_region_held_drew (S := (fun X => (X.cell? ⟨w2.heap.size, 0, none⟩ = some (.slice ia1 I.length ic1) ∧ X.cell? ⟨w2.heap.size, 1, none⟩ = some (.int .i64 ax) ∧ X.cell? ⟨w2.heap.size, 2, none⟩ = some (.int .i64 ay) ∧ X.cell? ⟨w2.heap.size, 3, none⟩ = some (.int .i64 az)) ∧ X.cell? ⟨w.heap.size + 1, 0, none⟩ = some (.bool p) ∧ X.cell? ⟨w.heap.size + 1, 1, none⟩ = some (.int .i64 x))) (by kernel_rfl) (by exact SQ2.out _ (Snc.refl W3).drew) (fun hHeld => ?_)
        have HT := Lib.hid (Snc.refl W3).drew
        first | (refine wpAnyH_take (i := 0) (v := ?_) rfl (by kernel_rfl) (by kernel_rfl) (by kernel_rfl) (fun _ _ _ h => h) (Or.inl ⟨by rfl, ?_⟩) (by assumption) ?_; rotate_left; (intro X hSw; (try dsimp only at hSw); go_simp; (try with_reducible rfl)); (try simp only [Act.put, List.setIfInBounds_toArray, List.set_cons_zero, List.set_cons_succ, List.getElem_toArray, List.getElem_cons_zero, List.getElem_cons_succ])) | fail "take 0"
        first | (refine wpAnyH_take (i := 1) (v := ?_) rfl (by kernel_rfl) (by kernel_rfl) (by kernel_rfl) (fun _ _ _ h => h) (Or.inl ⟨by rfl, ?_⟩) (by assumption) ?_; rotate_left; (intro X hSw; (try dsimp only at hSw); go_simp; (try with_reducible rfl)); (try simp only [Act.put, List.setIfInBounds_toArray, List.set_cons_zero, List.set_cons_succ, List.getElem_toArray, List.getElem_cons_zero, List.getElem_cons_succ])) | fail "take 1"
        first | (refine wpAnyH_take (i := 2) (v := ?_) rfl (by kernel_rfl) (by kernel_rfl) (by kernel_rfl) (fun _ _ _ h => h) (Or.inl ⟨by rfl, ?_⟩) (by assumption) ?_; rotate_left; (intro X hSw; (try dsimp only at hSw); go_simp; (try with_reducible rfl)); (try simp only [Act.put, List.setIfInBounds_toArray, List.set_cons_zero, List.set_cons_succ, List.getElem_toArray, List.getElem_cons_zero, List.getElem_cons_succ])) | fail "take 2"
        refine wpAnyH_ready (rs := [3, 8]) (by kernel_rfl) (by simp) ?_
        refine AllReadyH.cons rfl (fun K hK => ?_) (AllReadyH.cons rfl (fun K hK => ?_) AllReadyH.nil)
        · go_simp
          refine (toOp_any p x _).mono ?_
          rintro e v1 ⟨rfl, hbb⟩
          have HT := Lib.hid (HT.out.call hbb)
          clear hbb
          (try dsimp only)
          refine hK.out _ _ (by exact SQ2.out _ HT.out) (fun hHeld => ?_)
          clear hK K
          (try simp only [Act.put, List.setIfInBounds_toArray, List.set_cons_zero, List.set_cons_succ, List.getElem_toArray, List.getElem_cons_zero, List.getElem_cons_succ])
          refine wpAnyH_ready (rs := [4, 8]) (by kernel_rfl) (by simp) ?_
          refine AllReadyH.cons rfl (fun K hK => ?_) (AllReadyH.cons rfl (fun K hK => ?_) AllReadyH.nil)
          · go_simp
            refine (H2.out _ _ _ (HXI.out.below HT.out.1)).mono ?_
            rintro e v2 ⟨vv, rfl, rr, hbb⟩
            obtain ⟨ia9, ic9, rfl, -⟩ := rr.read
            have HO := Lib.hid rr
            have hloL := HT.out.2
            have hloH := hbb.size
            have HT := Lib.hid (HT.out.call hbb)
            clear hbb rr
            (try dsimp only)
            refine hK.out _ _ (by exact SQ2.out _ HT.out) (fun hHeld => ?_)
            clear hK K
            (try simp only [Act.put, List.setIfInBounds_toArray, List.set_cons_zero, List.set_cons_succ, List.getElem_toArray, List.getElem_cons_zero, List.getElem_cons_succ])
            first | (refine wpAnyH_take (i := 5) (v := ?_) rfl (by kernel_rfl) (by kernel_rfl) (by kernel_rfl) (fun _ _ _ h => h) (Or.inl ⟨by rfl, ?_⟩) (by assumption) ?_; rotate_left; (intro X hSw; (try dsimp only at hSw); go_simp; (try with_reducible rfl)); (try simp only [Act.put, List.setIfInBounds_toArray, List.set_cons_zero, List.set_cons_succ, List.getElem_toArray, List.getElem_cons_zero, List.getElem_cons_succ])) | fail "take 5"
            first | (refine wpAnyH_take (i := 6) (v := ?_) rfl (by kernel_rfl) (by kernel_rfl) (by kernel_rfl) (fun _ _ _ h => h) (Or.inl ⟨by rfl, ?_⟩) (by assumption) ?_; rotate_left; (intro X hSw; (try dsimp only at hSw); go_simp; (try with_reducible rfl)); (try simp only [Act.put, List.setIfInBounds_toArray, List.set_cons_zero, List.set_cons_succ, List.getElem_toArray, List.getElem_cons_zero, List.getElem_cons_succ])) | fail "take 6"
            first | (refine wpAnyH_take (i := 7) (v := ?_) rfl (by kernel_rfl) (by kernel_rfl) (by kernel_rfl) (fun _ _ _ h => h) (Or.inl ⟨by rfl, ?_⟩) (by assumption) ?_; rotate_left; (intro X hSw; (try dsimp only at hSw); go_simp; (try with_reducible rfl)); (try simp only [Act.put, List.setIfInBounds_toArray, List.set_cons_zero, List.set_cons_succ, List.getElem_toArray, List.getElem_cons_zero, List.getElem_cons_succ])) | fail "take 7"
            refine wpAnyH_ready (rs := [8]) (by kernel_rfl) (by simp) ?_
            refine AllReadyH.cons rfl (fun K hK => ?_) AllReadyH.nil
            go_simp
            (try dsimp only)
            refine hK.out _ _ (by exact SQ2.out _ (HT.out.alloc _)) (fun hHeld => ?_)
            clear hK K
            (try simp only [Act.put, List.setIfInBounds_toArray, List.set_cons_zero, List.set_cons_succ, List.getElem_toArray, List.getElem_cons_zero, List.getElem_cons_succ])
            refine wpAnyH_ready (rs := [9]) (by kernel_rfl) (by simp) ?_
            refine AllReadyH.cons rfl (fun K hK => ?_) AllReadyH.nil
            go_simp
            (try dsimp only)
            refine hK.out _ _ (by exact SQ2.out _ (HT.out.alloc _)) (fun hHeld => ?_)
            clear hK K
            (try simp only [Act.put, List.setIfInBounds_toArray, List.set_cons_zero, List.set_cons_succ, List.getElem_toArray, List.getElem_cons_zero, List.getElem_cons_succ])
            first | (refine wpAnyH_take (i := 10) (v := ?_) rfl (by kernel_rfl) (by kernel_rfl) (by kernel_rfl) (fun _ _ _ h => h) (Or.inl ⟨by rfl, ?_⟩) (by assumption) ?_; rotate_left; (intro X hSw; (try dsimp only at hSw); go_simp; (try with_reducible rfl)); (try simp only [Act.put, List.setIfInBounds_toArray, List.set_cons_zero, List.set_cons_succ, List.getElem_toArray, List.getElem_cons_zero, List.getElem_cons_succ])) | fail "take 10"
            refine wpAnyH_done (by kernel_rfl) ?_ _
            go_wp2_with fail
            go_meet
            exact ⟨_, rfl, rfl, IvAns.new hloL hloH (Nat.le_refl _) HO.out, HT.out.alloc _⟩
          · go_simp
            obtain ⟨Y, hY⟩ : ∃ Y, Y = (v1.alloc (.cells #[.slice none 0 0, .int .i64 0, .int .i64 0, .int .i64 0] 32)) := ⟨_, rfl⟩
            have HN := Lib.hid (show Box4 Y v1.heap.size 32 (.slice none 0 0) (.int .i64 0) (.int .i64 0) (.int .i64 0) from by rw [hY]; exact Box4.new _ _ _ _ _ _)
            have hYb : Below v1.heap.size v1 Y := by rw [hY]; exact ((Below.refl _ _).alloc (Nat.le_refl _) _)
            have hcW : W3.heap.size ≤ v1.heap.size := HT.out.2
            have HT := Lib.hid (show Snc W3 Y from HT.out.call hYb)
            have hcl : v1.heap.size < Y.heap.size := HN.out.lt
            rw [← hY]
            clear hY hYb
            (try dsimp only)
            refine hK.out _ _ (by exact SQ2.out _ HT.out) (fun hHeld => ?_)
            clear hK K
            (try simp only [Act.put, List.setIfInBounds_toArray, List.set_cons_zero, List.set_cons_succ, List.getElem_toArray, List.getElem_cons_zero, List.getElem_cons_succ])
            refine wpAnyH_ready (rs := [4]) (by kernel_rfl) (by simp) ?_
            refine AllReadyH.cons rfl (fun K hK => ?_) AllReadyH.nil
            go_simp
            refine (H2.out _ _ _ (HXI.out.below HT.out.1)).mono ?_
            rintro e v2 ⟨vv, rfl, rr, hbb⟩
            obtain ⟨ia9, ic9, rfl, -⟩ := rr.read
            have HO := Lib.hid rr
            have hloL := HT.out.2
            have hloH := hbb.size
            have HT := Lib.hid (HT.out.call hbb)
            have HN := Lib.hid (HN.out.call hbb)
            clear hbb rr
            (try dsimp only)
            refine hK.out _ _ (by exact SQ2.out _ HT.out) (fun hHeld => ?_)
            clear hK K
            (try simp only [Act.put, List.setIfInBounds_toArray, List.set_cons_zero, List.set_cons_succ, List.getElem_toArray, List.getElem_cons_zero, List.getElem_cons_succ])
            first | (refine wpAnyH_take (i := 5) (v := ?_) rfl (by kernel_rfl) (by kernel_rfl) (by kernel_rfl) (fun _ _ _ h => h) (Or.inl ⟨by rfl, ?_⟩) (by assumption) ?_; rotate_left; (intro X hSw; (try dsimp only at hSw); go_simp; (try with_reducible rfl)); (try simp only [Act.put, List.setIfInBounds_toArray, List.set_cons_zero, List.set_cons_succ, List.getElem_toArray, List.getElem_cons_zero, List.getElem_cons_succ])) | fail "take 5"
            first | (refine wpAnyH_take (i := 6) (v := ?_) rfl (by kernel_rfl) (by kernel_rfl) (by kernel_rfl) (fun _ _ _ h => h) (Or.inl ⟨by rfl, ?_⟩) (by assumption) ?_; rotate_left; (intro X hSw; (try dsimp only at hSw); go_simp; (try with_reducible rfl)); (try simp only [Act.put, List.setIfInBounds_toArray, List.set_cons_zero, List.set_cons_succ, List.getElem_toArray, List.getElem_cons_zero, List.getElem_cons_succ])) | fail "take 6"
            first | (refine wpAnyH_take (i := 7) (v := ?_) rfl (by kernel_rfl) (by kernel_rfl) (by kernel_rfl) (fun _ _ _ h => h) (Or.inl ⟨by rfl, ?_⟩) (by assumption) ?_; rotate_left; (intro X hSw; (try dsimp only at hSw); go_simp; (try with_reducible rfl)); (try simp only [Act.put, List.setIfInBounds_toArray, List.set_cons_zero, List.set_cons_succ, List.getElem_toArray, List.getElem_cons_zero, List.getElem_cons_succ])) | fail "take 7"
            obtain ⟨z0, z1, z2, z3⟩ := HN.out.cells
            have zf := HN.out.free
            refine wpAnyH_ready (rs := [9]) (by kernel_rfl) (by simp) ?_
            refine AllReadyH.cons rfl (fun K hK => ?_) AllReadyH.nil
            go_simp
            (try dsimp only)
            refine hK.out _ _ (by exact SQ2.out _ ((((HT.out.set hcW _ _).set hcW _ _).set hcW _ _).set hcW _ _)) (fun hHeld => ?_)
            clear hK K
            (try simp only [Act.put, List.setIfInBounds_toArray, List.set_cons_zero, List.set_cons_succ, List.getElem_toArray, List.getElem_cons_zero, List.getElem_cons_succ])
            first | (refine wpAnyH_take (i := 10) (v := ?_) rfl (by kernel_rfl) (by kernel_rfl) (by kernel_rfl) (fun _ _ _ h => h) (Or.inl ⟨by rfl, ?_⟩) (by assumption) ?_; rotate_left; (intro X hSw; (try dsimp only at hSw); go_simp; (try with_reducible rfl)); (try simp only [Act.put, List.setIfInBounds_toArray, List.set_cons_zero, List.set_cons_succ, List.getElem_toArray, List.getElem_cons_zero, List.getElem_cons_succ])) | fail "take 10"
            refine wpAnyH_done (by kernel_rfl) ?_ _
            go_wp2_with fail
            go_meet
            exact ⟨_, rfl, rfl, IvAns.set hcW (by omega) (Nat.le_refl _) HN.out HO.out, ((((HT.out.set hcW _ _).set hcW _ _).set hcW _ _).set hcW _ _)⟩
        · go_simp
          obtain ⟨Y, hY⟩ : ∃ Y, Y = (W3.alloc (.cells #[.slice none 0 0, .int .i64 0, .int .i64 0, .int .i64 0] 32)).drew := ⟨_, rfl⟩
          have HN := Lib.hid (show Box4 Y W3.heap.size 32 (.slice none 0 0) (.int .i64 0) (.int .i64 0) (.int .i64 0) from by rw [hY]; exact Box4.new _ _ _ _ _ _)
          have hYb : Below W3.heap.size W3 Y := by rw [hY]; exact ((Below.refl _ _).alloc (Nat.le_refl _) _).drew
          have hcW : W3.heap.size ≤ W3.heap.size := Nat.le_refl _
          have HT := Lib.hid (show Snc W3 Y from (Snc.refl W3).call hYb)
          have hcl : W3.heap.size < Y.heap.size := HN.out.lt
          rw [← hY]
          clear hY hYb
          (try dsimp only)
          refine hK.out _ _ (by exact SQ2.out _ HT.out) (fun hHeld => ?_)
          clear hK K
          (try simp only [Act.put, List.setIfInBounds_toArray, List.set_cons_zero, List.set_cons_succ, List.getElem_toArray, List.getElem_cons_zero, List.getElem_cons_succ])
          refine wpAnyH_ready (rs := [3]) (by kernel_rfl) (by simp) ?_
          refine AllReadyH.cons rfl (fun K hK => ?_) AllReadyH.nil
          go_simp
          refine (toOp_any p x _).mono ?_
          rintro e v1 ⟨rfl, hbb⟩
          have HT := Lib.hid (HT.out.call hbb)
          have HN := Lib.hid (HN.out.call hbb)
          have hcl : W3.heap.size < v1.heap.size := HN.out.lt
          clear hbb
          (try dsimp only)
          refine hK.out _ _ (by exact SQ2.out _ HT.out) (fun hHeld => ?_)
          clear hK K
          (try simp only [Act.put, List.setIfInBounds_toArray, List.set_cons_zero, List.set_cons_succ, List.getElem_toArray, List.getElem_cons_zero, List.getElem_cons_succ])
          refine wpAnyH_ready (rs := [4]) (by kernel_rfl) (by simp) ?_
          refine AllReadyH.cons rfl (fun K hK => ?_) AllReadyH.nil
          go_simp
          refine (H2.out _ _ _ (HXI.out.below HT.out.1)).mono ?_
          rintro e v2 ⟨vv, rfl, rr, hbb⟩
          obtain ⟨ia9, ic9, rfl, -⟩ := rr.read
          have HO := Lib.hid rr
          have hloL := HT.out.2
          have hloH := hbb.size
          have HT := Lib.hid (HT.out.call hbb)
          have HN := Lib.hid (HN.out.call hbb)
          clear hbb rr
          (try dsimp only)
          refine hK.out _ _ (by exact SQ2.out _ HT.out) (fun hHeld => ?_)
          clear hK K
          (try simp only [Act.put, List.setIfInBounds_toArray, List.set_cons_zero, List.set_cons_succ, List.getElem_toArray, List.getElem_cons_zero, List.getElem_cons_succ])
          first | (refine wpAnyH_take (i := 5) (v := ?_) rfl (by kernel_rfl) (by kernel_rfl) (by kernel_rfl) (fun _ _ _ h => h) (Or.inl ⟨by rfl, ?_⟩) (by assumption) ?_; rotate_left; (intro X hSw; (try dsimp only at hSw); go_simp; (try with_reducible rfl)); (try simp only [Act.put, List.setIfInBounds_toArray, List.set_cons_zero, List.set_cons_succ, List.getElem_toArray, List.getElem_cons_zero, List.getElem_cons_succ])) | fail "take 5"
          first | (refine wpAnyH_take (i := 6) (v := ?_) rfl (by kernel_rfl) (by kernel_rfl) (by kernel_rfl) (fun _ _ _ h => h) (Or.inl ⟨by rfl, ?_⟩) (by assumption) ?_; rotate_left; (intro X hSw; (try dsimp only at hSw); go_simp; (try with_reducible rfl)); (try simp only [Act.put, List.setIfInBounds_toArray, List.set_cons_zero, List.set_cons_succ, List.getElem_toArray, List.getElem_cons_zero, List.getElem_cons_succ])) | fail "take 6"
          first | (refine wpAnyH_take (i := 7) (v := ?_) rfl (by kernel_rfl) (by kernel_rfl) (by kernel_rfl) (fun _ _ _ h => h) (Or.inl ⟨by rfl, ?_⟩) (by assumption) ?_; rotate_left; (intro X hSw; (try dsimp only at hSw); go_simp; (try with_reducible rfl)); (try simp only [Act.put, List.setIfInBounds_toArray, List.set_cons_zero, List.set_cons_succ, List.getElem_toArray, List.getElem_cons_zero, List.getElem_cons_succ])) | fail "take 7"
          obtain ⟨z0, z1, z2, z3⟩ := HN.out.cells
          have zf := HN.out.free
          refine wpAnyH_ready (rs := [9]) (by kernel_rfl) (by simp) ?_
          refine AllReadyH.cons rfl (fun K hK => ?_) AllReadyH.nil
          go_simp
          (try dsimp only)
          refine hK.out _ _ (by exact SQ2.out _ ((((HT.out.set hcW _ _).set hcW _ _).set hcW _ _).set hcW _ _)) (fun hHeld => ?_)
          clear hK K
          (try simp only [Act.put, List.setIfInBounds_toArray, List.set_cons_zero, List.set_cons_succ, List.getElem_toArray, List.getElem_cons_zero, List.getElem_cons_succ])
          first | (refine wpAnyH_take (i := 10) (v := ?_) rfl (by kernel_rfl) (by kernel_rfl) (by kernel_rfl) (fun _ _ _ h => h) (Or.inl ⟨by rfl, ?_⟩) (by assumption) ?_; rotate_left; (intro X hSw; (try dsimp only at hSw); go_simp; (try with_reducible rfl)); (try simp only [Act.put, List.setIfInBounds_toArray, List.set_cons_zero, List.set_cons_succ, List.getElem_toArray, List.getElem_cons_zero, List.getElem_cons_succ])) | fail "take 10"
          refine wpAnyH_done (by kernel_rfl) ?_ _
          go_wp2_with fail
          go_meet
          exact ⟨_, rfl, rfl, IvAns.set hcW (by omega) (Nat.le_refl _) HN.out HO.out, ((((HT.out.set hcW _ _).set hcW _ _).set hcW _ _).set hcW _ _)⟩
      case rest =>
        obtain ⟨c1, rfl, rfl, hA1, hs1⟩ := hcut
        have HA := Lib.hid (HA.out.call hs1.1)
        have HP := Lib.hid (HP.out.call hs1.1)
        have HB := Lib.hid (HB.out.trans (hs1.1.mono HB.out.size))
        have H0 := Lib.hid (H0.out.call hs1.1)
        have HX := Lib.hid (HX.out.call hs1.1)
        have RX := Lib.hid (RX.out.below hs1.1)
        have hz4 := hs1.2
        obtain ⟨lo0, hi0, ia0, ic0, d1, d2, d3, d4, d5, d6, d7, d8⟩ := H0.out
        obtain ⟨lo1, hi1, ia5, ic5, e1, e2, e3, e4, e5, e6, e7, e8⟩ := hA1
        have B0 := Lib.hid d7
        have R0 := Lib.hid d8
        have B1 := Lib.hid e7
        have R1 := Lib.hid e8
        have HIn := Lib.hid (show w1.heap.size ≤ lo0 ∧ hi0 ≤ WA.heap.size ∧ w1.heap.size ≤ c0 ∧ c0 < WA.heap.size ∧ (c0 < lo0 ∨ hi0 ≤ c0) from ⟨d1, d2, d3, d4, d5⟩)
        obtain ⟨N1, hN1⟩ : ∃ N, N = markNI ⟨I, ⟨ax, ay, az⟩⟩ := ⟨_, rfl⟩
        obtain ⟨N2, hN2⟩ : ∃ N, N = markNI S := ⟨_, rfl⟩
        have hn1 : ¬ (1 + N1 < 0) := by rw [hN1]; unfold markNI; omega
        have hn2 : ¬ (1 + N2 < 0) := by rw [hN2]; unfold markNI; omega
        have hm1 := fun lo hi v w h => markInverse_own (lo := lo) (hi := hi) (v := v) (s := ⟨I, ⟨ax, ay, az⟩⟩) w 1 h (by omega) (by omega) (by have := HSB.out; have := HIL.out; (try simp only); omega)
        have hm2 := fun lo hi v w h => markInverse_own (lo := lo) (hi := hi) (v := v) (s := S) w 1 h (by omega) (by omega) (by have := HSB.out; omega)
        have hh2 := fun lo hi v w h => heldInverse_own (lo := lo) (hi := hi) (v := v) (s := S) w 1 h (by omega) (by omega) (by have := HSB.out; omega)
        simp only [← hN1] at hm1
        simp only [← hN2] at hm2 hh2
        have HM1 := Lib.hid hm1
        have HM2 := Lib.hid hm2
        have HH2 := Lib.hid hh2
        clear hm1 hm2 hh2 hN1 hN2
        clear d1 d2 d3 d4 d5 d6 d7 d8 e6 e7 e8 H0 hs1 SQ2
        obtain ⟨r0, r1, r2, r3⟩ := B0.out.cells
        obtain ⟨g0, g1, g2, g3⟩ := B1.out.cells
        cases b
        · skip
          go_wp2_with fail
          refine (eqInverse_own _ R1.out R0.out).mono ?_
          rintro e w5 ⟨rfl, hb5⟩
          have HA := Lib.hid (HA.out.call hb5)
          have HP := Lib.hid (HP.out.call hb5)
          have B0 := Lib.hid (B0.out.call hb5)
          have R0 := Lib.hid (R0.out.below hb5)
          have B1 := Lib.hid (B1.out.call hb5)
          have R1 := Lib.hid (R1.out.below hb5)
          have HX := Lib.hid (HX.out.call hb5)
          have RX := Lib.hid (RX.out.below hb5)
          have HB := Lib.hid (HB.out.trans (hb5.mono HB.out.size))
          clear r0 r1 r2 r3 g0 g1 g2 g3
          clear hb5
          obtain ⟨x0, x1, x2, x3⟩ := HX.out.cells
          obtain ⟨q0, q1, q2, q3⟩ := HA.out.cells
          go_wp2_with fail
          clear x0 x1 x2 x3 q0 q1 q2 q3
          have sq3 : ∀ X, Snc w5 X → (X.cell? ⟨w2.heap.size, 0, none⟩ = some (.slice ia1 I.length ic1) ∧ X.cell? ⟨w2.heap.size, 1, none⟩ = some (.int .i64 ax) ∧ X.cell? ⟨w2.heap.size, 2, none⟩ = some (.int .i64 ay) ∧ X.cell? ⟨w2.heap.size, 3, none⟩ = some (.int .i64 az)) ∧ (X.cell? ⟨w.heap.size, 0, none⟩ = some (.slice ia m ic) ∧ X.cell? ⟨w.heap.size, 1, none⟩ = some (.int .i64 ax) ∧ X.cell? ⟨w.heap.size, 2, none⟩ = some (.int .i64 ay) ∧ X.cell? ⟨w.heap.size, 3, none⟩ = some (.int .i64 az)) := fun X h => ⟨(HX.out.call h.1).cells, (HA.out.call h.1).cells⟩
          have SQ3 := Lib.hid sq3
          clear sq3
          refine wp_region_held_drew (S := fun X => (X.cell? ⟨w2.heap.size, 0, none⟩ = some (.slice ia1 I.length ic1) ∧ X.cell? ⟨w2.heap.size, 1, none⟩ = some (.int .i64 ax) ∧ X.cell? ⟨w2.heap.size, 2, none⟩ = some (.int .i64 ay) ∧ X.cell? ⟨w2.heap.size, 3, none⟩ = some (.int .i64 az)) ∧ (X.cell? ⟨w.heap.size, 0, none⟩ = some (.slice ia m ic) ∧ X.cell? ⟨w.heap.size, 1, none⟩ = some (.int .i64 ax) ∧ X.cell? ⟨w.heap.size, 2, none⟩ = some (.int .i64 ay) ∧ X.cell? ⟨w.heap.size, 3, none⟩ = some (.int .i64 az))) (by kernel_rfl) (by exact SQ3.out _ (Snc.refl w5).drew) (fun hHeld => ?_)
          have HT := Lib.hid (Snc.refl w5).drew
          first | (refine wpAnyH_take (i := 0) (v := ?_) rfl (by kernel_rfl) (by kernel_rfl) (by kernel_rfl) (fun _ _ _ h => h) (Or.inl ⟨by rfl, ?_⟩) (by assumption) ?_; rotate_left; (intro X hSw; (try dsimp only at hSw); go_simp; (try with_reducible rfl)); (try simp only [Act.put, List.setIfInBounds_toArray, List.set_cons_zero, List.set_cons_succ, List.getElem_toArray, List.getElem_cons_zero, List.getElem_cons_succ])) | fail "take 0"
          first | (refine wpAnyH_take (i := 1) (v := ?_) rfl (by kernel_rfl) (by kernel_rfl) (by kernel_rfl) (fun _ _ _ h => h) (Or.inl ⟨by rfl, ?_⟩) (by assumption) ?_; rotate_left; (intro X hSw; (try dsimp only at hSw); go_simp; (try with_reducible rfl)); (try simp only [Act.put, List.setIfInBounds_toArray, List.set_cons_zero, List.set_cons_succ, List.getElem_toArray, List.getElem_cons_zero, List.getElem_cons_succ])) | fail "take 1"
          refine wpAnyH_ready (rs := [2]) (by kernel_rfl) (by simp) ?_
          refine AllReadyH.cons rfl (fun K hK => ?_) AllReadyH.nil
          go_simp
          refine (toInverse_own _ _ _ _ _ _ I _ (HI.out.below (HB.out.trans (HT.out.1.mono HB.out.size))) hm).mono ?_
          rintro e w6 ⟨vv, rfl, rr, hb6⟩
          have HT := Lib.hid (HT.out.call hb6)
          have R6 := Lib.hid rr
          clear hb6 rr
          (try dsimp only)
          refine hK.out _ _ (by exact SQ3.out _ HT.out) (fun hHeld => ?_)
          clear hK K
          (try simp only [Act.put, List.setIfInBounds_toArray, List.set_cons_zero, List.set_cons_succ, List.getElem_toArray, List.getElem_cons_zero, List.getElem_cons_succ])
          refine wpAnyH_ready (rs := [3]) (by kernel_rfl) (by simp) ?_
          refine AllReadyH.cons rfl (fun K hK => ?_) AllReadyH.nil
          go_simp
          refine (eqInverse_own _ (RX.out.below HT.out.1) R6.out).mono ?_
          rintro e w7 ⟨rfl, hb7⟩
          have HT := Lib.hid (HT.out.call hb7)
          clear hb7
          (try dsimp only)
          refine hK.out _ _ (by exact SQ3.out _ HT.out) (fun hHeld => ?_)
          clear hK K
          (try simp only [Act.put, List.setIfInBounds_toArray, List.set_cons_zero, List.set_cons_succ, List.getElem_toArray, List.getElem_cons_zero, List.getElem_cons_succ])
          first | (refine wpAnyH_take (i := 4) (v := ?_) rfl (by kernel_rfl) (by kernel_rfl) (by kernel_rfl) (fun _ _ _ h => h) (Or.inl ⟨by rfl, ?_⟩) (by assumption) ?_; rotate_left; (intro X hSw; (try dsimp only at hSw); go_simp; (try with_reducible rfl)); (try simp only [Act.put, List.setIfInBounds_toArray, List.set_cons_zero, List.set_cons_succ, List.getElem_toArray, List.getElem_cons_zero, List.getElem_cons_succ])) | fail "take 4"
          refine wpAnyH_done (by kernel_rfl) ?_ _
          have HA := Lib.hid (HA.out.call HT.out.1)
          have HP := Lib.hid (HP.out.call HT.out.1)
          have B0 := Lib.hid (B0.out.call HT.out.1)
          have R0 := Lib.hid (R0.out.below HT.out.1)
          have B1 := Lib.hid (B1.out.call HT.out.1)
          have R1 := Lib.hid (R1.out.below HT.out.1)
          have HX := Lib.hid (HX.out.call HT.out.1)
          have RX := Lib.hid (RX.out.below HT.out.1)
          have HB := Lib.hid (HB.out.trans (HT.out.1.mono HB.out.size))
          have hz7 := HT.out.2
          clear HT SQ3 R6
          obtain ⟨x0, x1, x2, x3⟩ := HX.out.cells
          go_wp2_with fail
          refine (HM1.out _ _ _ _ RX.out).mono ?_
          rintro e w8 ⟨rfl, -, ht8⟩
          have hA := HA.out.lt
          obtain ⟨i1, i2, i3, i4, i5⟩ := HIn.out
          have HB := Lib.hid (ht8.below HB.out (Nat.le_refl _) (by omega))
          have HA := Lib.hid (show Box4 w8 w.heap.size 26 (.slice ia m ic) (.int .i64 ax) (.int .i64 ay) (.int .i64 az) from touch_block HA.out ht8 (by omega))
          have HP := Lib.hid (show Box2q w8 (w.heap.size + 1) 28 (.bool p) (.int .i64 x) from touch_block HP.out ht8 (by omega))
          have B0 := Lib.hid (show Box4 w8 c0 32 (.slice ia0 S.items.length ic0) (.int .i64 S.agg.x) (.int .i64 S.agg.y) (.int .i64 S.agg.z) from touch_block B0.out ht8 (by omega))
          have R0 := Lib.hid (R0.out.touch ht8 (by omega))
          have B1 := Lib.hid (show Box4 w8 c1 32 (.slice ia5 S.items.length ic5) (.int .i64 S.agg.x) (.int .i64 S.agg.y) (.int .i64 S.agg.z) from touch_block B1.out ht8 (by omega))
          have R1 := Lib.hid (R1.out.touch ht8 (by omega))
          clear ht8 HX RX
          clear x0 x1 x2 x3
          obtain ⟨r0, r1, r2, r3⟩ := B0.out.cells
          obtain ⟨g0, g1, g2, g3⟩ := B1.out.cells
          go_wp2_with fail
          refine (eqInverse_own _ R1.out R0.out).mono ?_
          rintro e w9 ⟨rfl, hb9⟩
          have HA := Lib.hid (HA.out.call hb9)
          have HP := Lib.hid (HP.out.call hb9)
          have B0 := Lib.hid (B0.out.call hb9)
          have R0 := Lib.hid (R0.out.below hb9)
          have B1 := Lib.hid (B1.out.call hb9)
          have R1 := Lib.hid (R1.out.below hb9)
          have HB := Lib.hid (HB.out.trans (hb9.mono HB.out.size))
          clear hb9
          clear r0 r1 r2 r3 g0 g1 g2 g3
          obtain ⟨g0, g1, g2, g3⟩ := B1.out.cells
          go_wp2_with fail
          refine (HM2.out _ _ _ _ R1.out).mono ?_
          rintro e w10 ⟨rfl, rr10, ht10⟩
          have R1 := Lib.hid rr10
          have HB := Lib.hid (ht10.below HB.out (Nat.le_refl _) (by omega))
          have HA := Lib.hid (show Box4 w10 w.heap.size 26 (.slice ia m ic) (.int .i64 ax) (.int .i64 ay) (.int .i64 az) from touch_block HA.out ht10 (by omega))
          have HP := Lib.hid (show Box2q w10 (w.heap.size + 1) 28 (.bool p) (.int .i64 x) from touch_block HP.out ht10 (by omega))
          have B0 := Lib.hid (show Box4 w10 c0 32 (.slice ia0 S.items.length ic0) (.int .i64 S.agg.x) (.int .i64 S.agg.y) (.int .i64 S.agg.z) from touch_block B0.out ht10 (by omega))
          have R0 := Lib.hid (R0.out.touch ht10 (by omega))
          have B1 := Lib.hid (show Box4 w10 c1 32 (.slice ia5 S.items.length ic5) (.int .i64 S.agg.x) (.int .i64 S.agg.y) (.int .i64 S.agg.z) from touch_block B1.out ht10 (by omega))
          clear ht10 rr10
          clear g0 g1 g2 g3
          obtain ⟨g0, g1, g2, g3⟩ := B1.out.cells
          go_wp2_with fail
          refine (HH2.out _ _ _ _ R1.out).mono ?_
          rintro e w11 ⟨rfl, hb11⟩
          have HA := Lib.hid (HA.out.call hb11)
          have HP := Lib.hid (HP.out.call hb11)
          have B0 := Lib.hid (B0.out.call hb11)
          have R0 := Lib.hid (R0.out.below hb11)
          have B1 := Lib.hid (B1.out.call hb11)
          have R1 := Lib.hid (R1.out.below hb11)
          have HB := Lib.hid (HB.out.trans (hb11.mono HB.out.size))
          clear hb11
          clear g0 g1 g2 g3
          obtain ⟨q0, q1, q2, q3⟩ := HA.out.cells
          obtain ⟨p0, p1⟩ := HP.out.cells
          go_wp2_with fail
          clear p0 p1
          clear q0 q1 q2 q3
          have sq4 : ∀ X, Snc w11 X → (X.cell? ⟨w.heap.size, 0, none⟩ = some (.slice ia m ic) ∧ X.cell? ⟨w.heap.size, 1, none⟩ = some (.int .i64 ax) ∧ X.cell? ⟨w.heap.size, 2, none⟩ = some (.int .i64 ay) ∧ X.cell? ⟨w.heap.size, 3, none⟩ = some (.int .i64 az)) ∧ X.cell? ⟨w.heap.size + 1, 0, none⟩ = some (.bool p) ∧ X.cell? ⟨w.heap.size + 1, 1, none⟩ = some (.int .i64 x) := fun X h => ⟨(HA.out.call h.1).cells, (HP.out.call h.1).cells⟩
          have SQ4 := Lib.hid sq4
          clear sq4
          go_cut [16, 17] (fun s s' wx => ∃ c : Nat, s = .pointer (some ⟨c, 0, none⟩) ∧ s' = .bool (false) ∧ IvAns w11.heap.size wx.heap.size wx c S ∧ Snc w11 wx)
          case first =>
            refine wp_region_held_drew (S := (fun X => (X.cell? ⟨w.heap.size, 0, none⟩ = some (.slice ia m ic) ∧ X.cell? ⟨w.heap.size, 1, none⟩ = some (.int .i64 ax) ∧ X.cell? ⟨w.heap.size, 2, none⟩ = some (.int .i64 ay) ∧ X.cell? ⟨w.heap.size, 3, none⟩ = some (.int .i64 az)) ∧ X.cell? ⟨w.heap.size + 1, 0, none⟩ = some (.bool p) ∧ X.cell? ⟨w.heap.size + 1, 1, none⟩ = some (.int .i64 x))) (by kernel_rfl) (by exact SQ4.out _ (Snc.refl w11).drew) (fun hHeld => ?_)
            have HT := Lib.hid (Snc.refl w11).drew
            first | (refine wpAnyH_take (i := 0) (v := ?_) rfl (by kernel_rfl) (by kernel_rfl) (by kernel_rfl) (fun _ _ _ h => h) (Or.inl ⟨by rfl, ?_⟩) (by assumption) ?_; rotate_left; (intro X hSw; (try dsimp only at hSw); go_simp; (try with_reducible rfl)); (try simp only [Act.put, List.setIfInBounds_toArray, List.set_cons_zero, List.set_cons_succ, List.getElem_toArray, List.getElem_cons_zero, List.getElem_cons_succ])) | fail "take 0"
            first | (refine wpAnyH_take (i := 1) (v := ?_) rfl (by kernel_rfl) (by kernel_rfl) (by kernel_rfl) (fun _ _ _ h => h) (Or.inl ⟨by rfl, ?_⟩) (by assumption) ?_; rotate_left; (intro X hSw; (try dsimp only at hSw); go_simp; (try with_reducible rfl)); (try simp only [Act.put, List.setIfInBounds_toArray, List.set_cons_zero, List.set_cons_succ, List.getElem_toArray, List.getElem_cons_zero, List.getElem_cons_succ])) | fail "take 1"
            first | (refine wpAnyH_take (i := 3) (v := ?_) rfl (by kernel_rfl) (by kernel_rfl) (by kernel_rfl) (fun _ _ _ h => h) (Or.inl ⟨by rfl, ?_⟩) (by assumption) ?_; rotate_left; (intro X hSw; (try dsimp only at hSw); go_simp; (try with_reducible rfl)); (try simp only [Act.put, List.setIfInBounds_toArray, List.set_cons_zero, List.set_cons_succ, List.getElem_toArray, List.getElem_cons_zero, List.getElem_cons_succ])) | fail "take 3"
            refine wpAnyH_ready (rs := [2, 9]) (by kernel_rfl) (by simp) ?_
            refine AllReadyH.cons rfl (fun K hK => ?_) (AllReadyH.cons rfl (fun K hK => ?_) AllReadyH.nil)
            · go_simp
              refine (toInverse_own _ _ _ _ _ _ I _ (HI.out.below (HB.out.trans (HT.out.1.mono HB.out.size))) hm).mono ?_
              rintro e v1 ⟨vv, rfl, rr, hbb⟩
              obtain ⟨ia2, ic2, rfl, hRI⟩ := rr.read
              have HR := Lib.hid (fun X (h : Snc v1 X) => (show Nums .i64 X ia2 I.length ic2 I from hRI.below h.1))
              have HT := Lib.hid (HT.out.call hbb)
              clear hbb rr hRI
              (try dsimp only)
              refine hK.out _ _ (by exact SQ4.out _ HT.out) (fun hHeld => ?_)
              clear hK K
              (try simp only [Act.put, List.setIfInBounds_toArray, List.set_cons_zero, List.set_cons_succ, List.getElem_toArray, List.getElem_cons_zero, List.getElem_cons_succ])
              refine wpAnyH_ready (rs := [4, 9]) (by kernel_rfl) (by simp) ?_
              refine AllReadyH.cons rfl (fun K hK => ?_) (AllReadyH.cons rfl (fun K hK => ?_) AllReadyH.nil)
              · go_simp
                refine (toOp_any p x _).mono ?_
                rintro e v2 ⟨rfl, hbb⟩
                have HR := Lib.hid (fun X (h : Snc v2 X) => HR.out X ⟨hbb.trans (h.1.mono hbb.size), Nat.le_trans hbb.size h.2⟩)
                have HT := Lib.hid (HT.out.call hbb)
                clear hbb
                (try dsimp only)
                refine hK.out _ _ (by exact SQ4.out _ HT.out) (fun hHeld => ?_)
                clear hK K
                (try simp only [Act.put, List.setIfInBounds_toArray, List.set_cons_zero, List.set_cons_succ, List.getElem_toArray, List.getElem_cons_zero, List.getElem_cons_succ])
                refine wpAnyH_ready (rs := [5, 9]) (by kernel_rfl) (by simp) ?_
                refine AllReadyH.cons rfl (fun K hK => ?_) (AllReadyH.cons rfl (fun K hK => ?_) AllReadyH.nil)
                · go_simp
                  refine (H2.out _ _ _ (HR.out _ (Snc.refl _))).mono ?_
                  rintro e v3 ⟨vv, rfl, rr, hbb⟩
                  obtain ⟨ia9, ic9, rfl, -⟩ := rr.read
                  have HO := Lib.hid rr
                  have hloL := HT.out.2
                  have hloH := hbb.size
                  have HT := Lib.hid (HT.out.call hbb)
                  clear hbb rr
                  (try dsimp only)
                  refine hK.out _ _ (by exact SQ4.out _ HT.out) (fun hHeld => ?_)
                  clear hK K
                  (try simp only [Act.put, List.setIfInBounds_toArray, List.set_cons_zero, List.set_cons_succ, List.getElem_toArray, List.getElem_cons_zero, List.getElem_cons_succ])
                  first | (refine wpAnyH_take (i := 6) (v := ?_) rfl (by kernel_rfl) (by kernel_rfl) (by kernel_rfl) (fun _ _ _ h => h) (Or.inl ⟨by rfl, ?_⟩) (by assumption) ?_; rotate_left; (intro X hSw; (try dsimp only at hSw); go_simp; (try with_reducible rfl)); (try simp only [Act.put, List.setIfInBounds_toArray, List.set_cons_zero, List.set_cons_succ, List.getElem_toArray, List.getElem_cons_zero, List.getElem_cons_succ])) | fail "take 6"
                  first | (refine wpAnyH_take (i := 7) (v := ?_) rfl (by kernel_rfl) (by kernel_rfl) (by kernel_rfl) (fun _ _ _ h => h) (Or.inl ⟨by rfl, ?_⟩) (by assumption) ?_; rotate_left; (intro X hSw; (try dsimp only at hSw); go_simp; (try with_reducible rfl)); (try simp only [Act.put, List.setIfInBounds_toArray, List.set_cons_zero, List.set_cons_succ, List.getElem_toArray, List.getElem_cons_zero, List.getElem_cons_succ])) | fail "take 7"
                  first | (refine wpAnyH_take (i := 8) (v := ?_) rfl (by kernel_rfl) (by kernel_rfl) (by kernel_rfl) (fun _ _ _ h => h) (Or.inl ⟨by rfl, ?_⟩) (by assumption) ?_; rotate_left; (intro X hSw; (try dsimp only at hSw); go_simp; (try with_reducible rfl)); (try simp only [Act.put, List.setIfInBounds_toArray, List.set_cons_zero, List.set_cons_succ, List.getElem_toArray, List.getElem_cons_zero, List.getElem_cons_succ])) | fail "take 8"
                  refine wpAnyH_ready (rs := [9]) (by kernel_rfl) (by simp) ?_
                  refine AllReadyH.cons rfl (fun K hK => ?_) AllReadyH.nil
                  go_simp
                  (try dsimp only)
                  refine hK.out _ _ (by exact SQ4.out _ (HT.out.alloc _)) (fun hHeld => ?_)
                  clear hK K
                  (try simp only [Act.put, List.setIfInBounds_toArray, List.set_cons_zero, List.set_cons_succ, List.getElem_toArray, List.getElem_cons_zero, List.getElem_cons_succ])
                  refine wpAnyH_ready (rs := [10]) (by kernel_rfl) (by simp) ?_
                  refine AllReadyH.cons rfl (fun K hK => ?_) AllReadyH.nil
                  go_simp
                  (try dsimp only)
                  refine hK.out _ _ (by exact SQ4.out _ (HT.out.alloc _)) (fun hHeld => ?_)
                  clear hK K
                  (try simp only [Act.put, List.setIfInBounds_toArray, List.set_cons_zero, List.set_cons_succ, List.getElem_toArray, List.getElem_cons_zero, List.getElem_cons_succ])
                  first | (refine wpAnyH_take (i := 11) (v := ?_) rfl (by kernel_rfl) (by kernel_rfl) (by kernel_rfl) (fun _ _ _ h => h) (Or.inl ⟨by rfl, ?_⟩) (by assumption) ?_; rotate_left; (intro X hSw; (try dsimp only at hSw); go_simp; (try with_reducible rfl)); (try simp only [Act.put, List.setIfInBounds_toArray, List.set_cons_zero, List.set_cons_succ, List.getElem_toArray, List.getElem_cons_zero, List.getElem_cons_succ])) | fail "take 11"
                  refine wpAnyH_done (by kernel_rfl) ?_ _
                  go_wp2_with fail
                  go_meet
                  exact ⟨_, rfl, rfl, IvAns.new hloL hloH (Nat.le_refl _) HO.out, HT.out.alloc _⟩
                · go_simp
                  obtain ⟨Y, hY⟩ : ∃ Y, Y = (v2.alloc (.cells #[.slice none 0 0, .int .i64 0, .int .i64 0, .int .i64 0] 32)) := ⟨_, rfl⟩
                  have HN := Lib.hid (show Box4 Y v2.heap.size 32 (.slice none 0 0) (.int .i64 0) (.int .i64 0) (.int .i64 0) from by rw [hY]; exact Box4.new _ _ _ _ _ _)
                  have hYb : Below v2.heap.size v2 Y := by rw [hY]; exact ((Below.refl _ _).alloc (Nat.le_refl _) _)
                  have hcW : w11.heap.size ≤ v2.heap.size := HT.out.2
                  have HT := Lib.hid (show Snc w11 Y from HT.out.call hYb)
                  have hcl : v2.heap.size < Y.heap.size := HN.out.lt
                  have HR := Lib.hid (fun X (h : Snc Y X) => HR.out X ⟨(show Below v2.heap.size v2 X from hYb.trans (h.1.mono hYb.size)), Nat.le_trans hYb.size h.2⟩)
                  rw [← hY]
                  clear hY hYb
                  (try dsimp only)
                  refine hK.out _ _ (by exact SQ4.out _ HT.out) (fun hHeld => ?_)
                  clear hK K
                  (try simp only [Act.put, List.setIfInBounds_toArray, List.set_cons_zero, List.set_cons_succ, List.getElem_toArray, List.getElem_cons_zero, List.getElem_cons_succ])
                  refine wpAnyH_ready (rs := [5]) (by kernel_rfl) (by simp) ?_
                  refine AllReadyH.cons rfl (fun K hK => ?_) AllReadyH.nil
                  go_simp
                  refine (H2.out _ _ _ (HR.out _ (Snc.refl _))).mono ?_
                  rintro e v3 ⟨vv, rfl, rr, hbb⟩
                  obtain ⟨ia9, ic9, rfl, -⟩ := rr.read
                  have HO := Lib.hid rr
                  have hloL := HT.out.2
                  have hloH := hbb.size
                  have HT := Lib.hid (HT.out.call hbb)
                  have HN := Lib.hid (HN.out.call hbb)
                  clear hbb rr
                  (try dsimp only)
                  refine hK.out _ _ (by exact SQ4.out _ HT.out) (fun hHeld => ?_)
                  clear hK K
                  (try simp only [Act.put, List.setIfInBounds_toArray, List.set_cons_zero, List.set_cons_succ, List.getElem_toArray, List.getElem_cons_zero, List.getElem_cons_succ])
                  first | (refine wpAnyH_take (i := 6) (v := ?_) rfl (by kernel_rfl) (by kernel_rfl) (by kernel_rfl) (fun _ _ _ h => h) (Or.inl ⟨by rfl, ?_⟩) (by assumption) ?_; rotate_left; (intro X hSw; (try dsimp only at hSw); go_simp; (try with_reducible rfl)); (try simp only [Act.put, List.setIfInBounds_toArray, List.set_cons_zero, List.set_cons_succ, List.getElem_toArray, List.getElem_cons_zero, List.getElem_cons_succ])) | fail "take 6"
                  first | (refine wpAnyH_take (i := 7) (v := ?_) rfl (by kernel_rfl) (by kernel_rfl) (by kernel_rfl) (fun _ _ _ h => h) (Or.inl ⟨by rfl, ?_⟩) (by assumption) ?_; rotate_left; (intro X hSw; (try dsimp only at hSw); go_simp; (try with_reducible rfl)); (try simp only [Act.put, List.setIfInBounds_toArray, List.set_cons_zero, List.set_cons_succ, List.getElem_toArray, List.getElem_cons_zero, List.getElem_cons_succ])) | fail "take 7"
                  first | (refine wpAnyH_take (i := 8) (v := ?_) rfl (by kernel_rfl) (by kernel_rfl) (by kernel_rfl) (fun _ _ _ h => h) (Or.inl ⟨by rfl, ?_⟩) (by assumption) ?_; rotate_left; (intro X hSw; (try dsimp only at hSw); go_simp; (try with_reducible rfl)); (try simp only [Act.put, List.setIfInBounds_toArray, List.set_cons_zero, List.set_cons_succ, List.getElem_toArray, List.getElem_cons_zero, List.getElem_cons_succ])) | fail "take 8"
                  obtain ⟨z0, z1, z2, z3⟩ := HN.out.cells
                  have zf := HN.out.free
                  refine wpAnyH_ready (rs := [10]) (by kernel_rfl) (by simp) ?_
                  refine AllReadyH.cons rfl (fun K hK => ?_) AllReadyH.nil
                  go_simp
                  (try dsimp only)
                  refine hK.out _ _ (by exact SQ4.out _ ((((HT.out.set hcW _ _).set hcW _ _).set hcW _ _).set hcW _ _)) (fun hHeld => ?_)
                  clear hK K
                  (try simp only [Act.put, List.setIfInBounds_toArray, List.set_cons_zero, List.set_cons_succ, List.getElem_toArray, List.getElem_cons_zero, List.getElem_cons_succ])
                  first | (refine wpAnyH_take (i := 11) (v := ?_) rfl (by kernel_rfl) (by kernel_rfl) (by kernel_rfl) (fun _ _ _ h => h) (Or.inl ⟨by rfl, ?_⟩) (by assumption) ?_; rotate_left; (intro X hSw; (try dsimp only at hSw); go_simp; (try with_reducible rfl)); (try simp only [Act.put, List.setIfInBounds_toArray, List.set_cons_zero, List.set_cons_succ, List.getElem_toArray, List.getElem_cons_zero, List.getElem_cons_succ])) | fail "take 11"
                  refine wpAnyH_done (by kernel_rfl) ?_ _
                  go_wp2_with fail
                  go_meet
                  exact ⟨_, rfl, rfl, IvAns.set hcW (by omega) (Nat.le_refl _) HN.out HO.out, ((((HT.out.set hcW _ _).set hcW _ _).set hcW _ _).set hcW _ _)⟩
              · go_simp
                obtain ⟨Y, hY⟩ : ∃ Y, Y = (v1.alloc (.cells #[.slice none 0 0, .int .i64 0, .int .i64 0, .int .i64 0] 32)) := ⟨_, rfl⟩
                have HN := Lib.hid (show Box4 Y v1.heap.size 32 (.slice none 0 0) (.int .i64 0) (.int .i64 0) (.int .i64 0) from by rw [hY]; exact Box4.new _ _ _ _ _ _)
                have hYb : Below v1.heap.size v1 Y := by rw [hY]; exact ((Below.refl _ _).alloc (Nat.le_refl _) _)
                have hcW : w11.heap.size ≤ v1.heap.size := HT.out.2
                have HT := Lib.hid (show Snc w11 Y from HT.out.call hYb)
                have hcl : v1.heap.size < Y.heap.size := HN.out.lt
                have HR := Lib.hid (fun X (h : Snc Y X) => HR.out X ⟨(show Below v1.heap.size v1 X from hYb.trans (h.1.mono hYb.size)), Nat.le_trans hYb.size h.2⟩)
                rw [← hY]
                clear hY hYb
                (try dsimp only)
                refine hK.out _ _ (by exact SQ4.out _ HT.out) (fun hHeld => ?_)
                clear hK K
                (try simp only [Act.put, List.setIfInBounds_toArray, List.set_cons_zero, List.set_cons_succ, List.getElem_toArray, List.getElem_cons_zero, List.getElem_cons_succ])
                refine wpAnyH_ready (rs := [4]) (by kernel_rfl) (by simp) ?_
                refine AllReadyH.cons rfl (fun K hK => ?_) AllReadyH.nil
                go_simp
                refine (toOp_any p x _).mono ?_
                rintro e v2 ⟨rfl, hbb⟩
                have HR := Lib.hid (fun X (h : Snc v2 X) => HR.out X ⟨hbb.trans (h.1.mono hbb.size), Nat.le_trans hbb.size h.2⟩)
                have HT := Lib.hid (HT.out.call hbb)
                have HN := Lib.hid (HN.out.call hbb)
                have hcl : v1.heap.size < v2.heap.size := HN.out.lt
                clear hbb
                (try dsimp only)
                refine hK.out _ _ (by exact SQ4.out _ HT.out) (fun hHeld => ?_)
                clear hK K
                (try simp only [Act.put, List.setIfInBounds_toArray, List.set_cons_zero, List.set_cons_succ, List.getElem_toArray, List.getElem_cons_zero, List.getElem_cons_succ])
                refine wpAnyH_ready (rs := [5]) (by kernel_rfl) (by simp) ?_
                refine AllReadyH.cons rfl (fun K hK => ?_) AllReadyH.nil
                go_simp
                refine (H2.out _ _ _ (HR.out _ (Snc.refl _))).mono ?_
                rintro e v3 ⟨vv, rfl, rr, hbb⟩
                obtain ⟨ia9, ic9, rfl, -⟩ := rr.read
                have HO := Lib.hid rr
                have hloL := HT.out.2
                have hloH := hbb.size
                have HT := Lib.hid (HT.out.call hbb)
                have HN := Lib.hid (HN.out.call hbb)
                clear hbb rr
                (try dsimp only)
                refine hK.out _ _ (by exact SQ4.out _ HT.out) (fun hHeld => ?_)
                clear hK K
                (try simp only [Act.put, List.setIfInBounds_toArray, List.set_cons_zero, List.set_cons_succ, List.getElem_toArray, List.getElem_cons_zero, List.getElem_cons_succ])
                first | (refine wpAnyH_take (i := 6) (v := ?_) rfl (by kernel_rfl) (by kernel_rfl) (by kernel_rfl) (fun _ _ _ h => h) (Or.inl ⟨by rfl, ?_⟩) (by assumption) ?_; rotate_left; (intro X hSw; (try dsimp only at hSw); go_simp; (try with_reducible rfl)); (try simp only [Act.put, List.setIfInBounds_toArray, List.set_cons_zero, List.set_cons_succ, List.getElem_toArray, List.getElem_cons_zero, List.getElem_cons_succ])) | fail "take 6"
                first | (refine wpAnyH_take (i := 7) (v := ?_) rfl (by kernel_rfl) (by kernel_rfl) (by kernel_rfl) (fun _ _ _ h => h) (Or.inl ⟨by rfl, ?_⟩) (by assumption) ?_; rotate_left; (intro X hSw; (try dsimp only at hSw); go_simp; (try with_reducible rfl)); (try simp only [Act.put, List.setIfInBounds_toArray, List.set_cons_zero, List.set_cons_succ, List.getElem_toArray, List.getElem_cons_zero, List.getElem_cons_succ])) | fail "take 7"
                first | (refine wpAnyH_take (i := 8) (v := ?_) rfl (by kernel_rfl) (by kernel_rfl) (by kernel_rfl) (fun _ _ _ h => h) (Or.inl ⟨by rfl, ?_⟩) (by assumption) ?_; rotate_left; (intro X hSw; (try dsimp only at hSw); go_simp; (try with_reducible rfl)); (try simp only [Act.put, List.setIfInBounds_toArray, List.set_cons_zero, List.set_cons_succ, List.getElem_toArray, List.getElem_cons_zero, List.getElem_cons_succ])) | fail "take 8"
                obtain ⟨z0, z1, z2, z3⟩ := HN.out.cells
                have zf := HN.out.free
                refine wpAnyH_ready (rs := [10]) (by kernel_rfl) (by simp) ?_
                refine AllReadyH.cons rfl (fun K hK => ?_) AllReadyH.nil
                go_simp
                (try dsimp only)
                refine hK.out _ _ (by exact SQ4.out _ ((((HT.out.set hcW _ _).set hcW _ _).set hcW _ _).set hcW _ _)) (fun hHeld => ?_)
                clear hK K
                (try simp only [Act.put, List.setIfInBounds_toArray, List.set_cons_zero, List.set_cons_succ, List.getElem_toArray, List.getElem_cons_zero, List.getElem_cons_succ])
                first | (refine wpAnyH_take (i := 11) (v := ?_) rfl (by kernel_rfl) (by kernel_rfl) (by kernel_rfl) (fun _ _ _ h => h) (Or.inl ⟨by rfl, ?_⟩) (by assumption) ?_; rotate_left; (intro X hSw; (try dsimp only at hSw); go_simp; (try with_reducible rfl)); (try simp only [Act.put, List.setIfInBounds_toArray, List.set_cons_zero, List.set_cons_succ, List.getElem_toArray, List.getElem_cons_zero, List.getElem_cons_succ])) | fail "take 11"
                refine wpAnyH_done (by kernel_rfl) ?_ _
                go_wp2_with fail
                go_meet
                exact ⟨_, rfl, rfl, IvAns.set hcW (by omega) (Nat.le_refl _) HN.out HO.out, ((((HT.out.set hcW _ _).set hcW _ _).set hcW _ _).set hcW _ _)⟩
            · go_simp
              obtain ⟨Y, hY⟩ : ∃ Y, Y = (w11.alloc (.cells #[.slice none 0 0, .int .i64 0, .int .i64 0, .int .i64 0] 32)).drew := ⟨_, rfl⟩
              have HN := Lib.hid (show Box4 Y w11.heap.size 32 (.slice none 0 0) (.int .i64 0) (.int .i64 0) (.int .i64 0) from by rw [hY]; exact Box4.new _ _ _ _ _ _)
              have hYb : Below w11.heap.size w11 Y := by rw [hY]; exact ((Below.refl _ _).alloc (Nat.le_refl _) _).drew
              have hcW : w11.heap.size ≤ w11.heap.size := Nat.le_refl _
              have HT := Lib.hid (show Snc w11 Y from (Snc.refl w11).call hYb)
              have hcl : w11.heap.size < Y.heap.size := HN.out.lt
              rw [← hY]
              clear hY hYb
              (try dsimp only)
              refine hK.out _ _ (by exact SQ4.out _ HT.out) (fun hHeld => ?_)
              clear hK K
              (try simp only [Act.put, List.setIfInBounds_toArray, List.set_cons_zero, List.set_cons_succ, List.getElem_toArray, List.getElem_cons_zero, List.getElem_cons_succ])
              refine wpAnyH_ready (rs := [2]) (by kernel_rfl) (by simp) ?_
              refine AllReadyH.cons rfl (fun K hK => ?_) AllReadyH.nil
              go_simp
              refine (toInverse_own _ _ _ _ _ _ I _ (HI.out.below (HB.out.trans (HT.out.1.mono HB.out.size))) hm).mono ?_
              rintro e v1 ⟨vv, rfl, rr, hbb⟩
              obtain ⟨ia2, ic2, rfl, hRI⟩ := rr.read
              have HR := Lib.hid (fun X (h : Snc v1 X) => (show Nums .i64 X ia2 I.length ic2 I from hRI.below h.1))
              have HT := Lib.hid (HT.out.call hbb)
              have HN := Lib.hid (HN.out.call hbb)
              have hcl : w11.heap.size < v1.heap.size := HN.out.lt
              clear hbb rr hRI
              (try dsimp only)
              refine hK.out _ _ (by exact SQ4.out _ HT.out) (fun hHeld => ?_)
              clear hK K
              (try simp only [Act.put, List.setIfInBounds_toArray, List.set_cons_zero, List.set_cons_succ, List.getElem_toArray, List.getElem_cons_zero, List.getElem_cons_succ])
              refine wpAnyH_ready (rs := [4]) (by kernel_rfl) (by simp) ?_
              refine AllReadyH.cons rfl (fun K hK => ?_) AllReadyH.nil
              go_simp
              refine (toOp_any p x _).mono ?_
              rintro e v2 ⟨rfl, hbb⟩
              have HR := Lib.hid (fun X (h : Snc v2 X) => HR.out X ⟨hbb.trans (h.1.mono hbb.size), Nat.le_trans hbb.size h.2⟩)
              have HT := Lib.hid (HT.out.call hbb)
              have HN := Lib.hid (HN.out.call hbb)
              have hcl : w11.heap.size < v2.heap.size := HN.out.lt
              clear hbb
              (try dsimp only)
              refine hK.out _ _ (by exact SQ4.out _ HT.out) (fun hHeld => ?_)
              clear hK K
              (try simp only [Act.put, List.setIfInBounds_toArray, List.set_cons_zero, List.set_cons_succ, List.getElem_toArray, List.getElem_cons_zero, List.getElem_cons_succ])
              refine wpAnyH_ready (rs := [5]) (by kernel_rfl) (by simp) ?_
              refine AllReadyH.cons rfl (fun K hK => ?_) AllReadyH.nil
              go_simp
              refine (H2.out _ _ _ (HR.out _ (Snc.refl _))).mono ?_
              rintro e v3 ⟨vv, rfl, rr, hbb⟩
              obtain ⟨ia9, ic9, rfl, -⟩ := rr.read
              have HO := Lib.hid rr
              have hloL := HT.out.2
              have hloH := hbb.size
              have HT := Lib.hid (HT.out.call hbb)
              have HN := Lib.hid (HN.out.call hbb)
              clear hbb rr
              (try dsimp only)
              refine hK.out _ _ (by exact SQ4.out _ HT.out) (fun hHeld => ?_)
              clear hK K
              (try simp only [Act.put, List.setIfInBounds_toArray, List.set_cons_zero, List.set_cons_succ, List.getElem_toArray, List.getElem_cons_zero, List.getElem_cons_succ])
              first | (refine wpAnyH_take (i := 6) (v := ?_) rfl (by kernel_rfl) (by kernel_rfl) (by kernel_rfl) (fun _ _ _ h => h) (Or.inl ⟨by rfl, ?_⟩) (by assumption) ?_; rotate_left; (intro X hSw; (try dsimp only at hSw); go_simp; (try with_reducible rfl)); (try simp only [Act.put, List.setIfInBounds_toArray, List.set_cons_zero, List.set_cons_succ, List.getElem_toArray, List.getElem_cons_zero, List.getElem_cons_succ])) | fail "take 6"
              first | (refine wpAnyH_take (i := 7) (v := ?_) rfl (by kernel_rfl) (by kernel_rfl) (by kernel_rfl) (fun _ _ _ h => h) (Or.inl ⟨by rfl, ?_⟩) (by assumption) ?_; rotate_left; (intro X hSw; (try dsimp only at hSw); go_simp; (try with_reducible rfl)); (try simp only [Act.put, List.setIfInBounds_toArray, List.set_cons_zero, List.set_cons_succ, List.getElem_toArray, List.getElem_cons_zero, List.getElem_cons_succ])) | fail "take 7"
              first | (refine wpAnyH_take (i := 8) (v := ?_) rfl (by kernel_rfl) (by kernel_rfl) (by kernel_rfl) (fun _ _ _ h => h) (Or.inl ⟨by rfl, ?_⟩) (by assumption) ?_; rotate_left; (intro X hSw; (try dsimp only at hSw); go_simp; (try with_reducible rfl)); (try simp only [Act.put, List.setIfInBounds_toArray, List.set_cons_zero, List.set_cons_succ, List.getElem_toArray, List.getElem_cons_zero, List.getElem_cons_succ])) | fail "take 8"
              obtain ⟨z0, z1, z2, z3⟩ := HN.out.cells
              have zf := HN.out.free
              refine wpAnyH_ready (rs := [10]) (by kernel_rfl) (by simp) ?_
              refine AllReadyH.cons rfl (fun K hK => ?_) AllReadyH.nil
              go_simp
              (try dsimp only)
              refine hK.out _ _ (by exact SQ4.out _ ((((HT.out.set hcW _ _).set hcW _ _).set hcW _ _).set hcW _ _)) (fun hHeld => ?_)
              clear hK K
              (try simp only [Act.put, List.setIfInBounds_toArray, List.set_cons_zero, List.set_cons_succ, List.getElem_toArray, List.getElem_cons_zero, List.getElem_cons_succ])
              first | (refine wpAnyH_take (i := 11) (v := ?_) rfl (by kernel_rfl) (by kernel_rfl) (by kernel_rfl) (fun _ _ _ h => h) (Or.inl ⟨by rfl, ?_⟩) (by assumption) ?_; rotate_left; (intro X hSw; (try dsimp only at hSw); go_simp; (try with_reducible rfl)); (try simp only [Act.put, List.setIfInBounds_toArray, List.set_cons_zero, List.set_cons_succ, List.getElem_toArray, List.getElem_cons_zero, List.getElem_cons_succ])) | fail "take 11"
              refine wpAnyH_done (by kernel_rfl) ?_ _
              go_wp2_with fail
              go_meet
              exact ⟨_, rfl, rfl, IvAns.set hcW (by omega) (Nat.le_refl _) HN.out HO.out, ((((HT.out.set hcW _ _).set hcW _ _).set hcW _ _).set hcW _ _)⟩
          case rest =>
            obtain ⟨c2, rfl, rfl, hA2, hs2⟩ := hcut
            obtain ⟨lo2, hi2, ia7, ic7, -, -, -, -, -, -, f7, f8⟩ := hA2
            have B2 := Lib.hid f7
            have R2 := Lib.hid f8
            clear f7 f8
            have B0 := Lib.hid (B0.out.call hs2.1)
            have R0 := Lib.hid (R0.out.below hs2.1)
            have B1 := Lib.hid (B1.out.call hs2.1)
            have R1 := Lib.hid (R1.out.below hs2.1)
            have HB := Lib.hid (HB.out.trans (hs2.1.mono HB.out.size))
            clear hs2
            obtain ⟨y0, y1, y2, y3⟩ := B2.out.cells
            obtain ⟨r0, r1, r2, r3⟩ := B0.out.cells
            go_wp2_with fail
            refine (eqInverse_own _ R2.out R0.out).mono ?_
            rintro e w13 ⟨rfl, hb13⟩
            have B1 := Lib.hid (B1.out.call hb13)
            have R1 := Lib.hid (R1.out.below hb13)
            have HB := Lib.hid (HB.out.trans (hb13.mono HB.out.size))
            clear hb13
            clear y0 y1 y2 y3 r0 r1 r2 r3
            obtain ⟨g0, g1, g2, g3⟩ := B1.out.cells
            go_wp2_with fail
            refine (HH2.out _ _ _ _ R1.out).mono ?_
            rintro e w14 ⟨rfl, hb14⟩
            have HB := Lib.hid (HB.out.trans (hb14.mono HB.out.size))
            clear hb14
            go_wp2_with fail
            go_returns
            exact ⟨rfl, HB.out⟩
        · skip
          go_wp2_with fail
          refine (eqInverse_own _ R1.out R0.out).mono ?_
          rintro e w5 ⟨rfl, hb5⟩
          have HA := Lib.hid (HA.out.call hb5)
          have HP := Lib.hid (HP.out.call hb5)
          have B0 := Lib.hid (B0.out.call hb5)
          have R0 := Lib.hid (R0.out.below hb5)
          have B1 := Lib.hid (B1.out.call hb5)
          have R1 := Lib.hid (R1.out.below hb5)
          have HX := Lib.hid (HX.out.call hb5)
          have RX := Lib.hid (RX.out.below hb5)
          have HB := Lib.hid (HB.out.trans (hb5.mono HB.out.size))
          clear r0 r1 r2 r3 g0 g1 g2 g3
          clear hb5
          obtain ⟨x0, x1, x2, x3⟩ := HX.out.cells
          obtain ⟨q0, q1, q2, q3⟩ := HA.out.cells
          go_wp2_with fail
          clear x0 x1 x2 x3 q0 q1 q2 q3
          have sq3 : ∀ X, Snc w5 X → (X.cell? ⟨w2.heap.size, 0, none⟩ = some (.slice ia1 I.length ic1) ∧ X.cell? ⟨w2.heap.size, 1, none⟩ = some (.int .i64 ax) ∧ X.cell? ⟨w2.heap.size, 2, none⟩ = some (.int .i64 ay) ∧ X.cell? ⟨w2.heap.size, 3, none⟩ = some (.int .i64 az)) ∧ (X.cell? ⟨w.heap.size, 0, none⟩ = some (.slice ia m ic) ∧ X.cell? ⟨w.heap.size, 1, none⟩ = some (.int .i64 ax) ∧ X.cell? ⟨w.heap.size, 2, none⟩ = some (.int .i64 ay) ∧ X.cell? ⟨w.heap.size, 3, none⟩ = some (.int .i64 az)) := fun X h => ⟨(HX.out.call h.1).cells, (HA.out.call h.1).cells⟩
          have SQ3 := Lib.hid sq3
          clear sq3
          refine wp_region_held_drew (S := fun X => (X.cell? ⟨w2.heap.size, 0, none⟩ = some (.slice ia1 I.length ic1) ∧ X.cell? ⟨w2.heap.size, 1, none⟩ = some (.int .i64 ax) ∧ X.cell? ⟨w2.heap.size, 2, none⟩ = some (.int .i64 ay) ∧ X.cell? ⟨w2.heap.size, 3, none⟩ = some (.int .i64 az)) ∧ (X.cell? ⟨w.heap.size, 0, none⟩ = some (.slice ia m ic) ∧ X.cell? ⟨w.heap.size, 1, none⟩ = some (.int .i64 ax) ∧ X.cell? ⟨w.heap.size, 2, none⟩ = some (.int .i64 ay) ∧ X.cell? ⟨w.heap.size, 3, none⟩ = some (.int .i64 az))) (by kernel_rfl) (by exact SQ3.out _ (Snc.refl w5).drew) (fun hHeld => ?_)
          have HT := Lib.hid (Snc.refl w5).drew
          first | (refine wpAnyH_take (i := 0) (v := ?_) rfl (by kernel_rfl) (by kernel_rfl) (by kernel_rfl) (fun _ _ _ h => h) (Or.inl ⟨by rfl, ?_⟩) (by assumption) ?_; rotate_left; (intro X hSw; (try dsimp only at hSw); go_simp; (try with_reducible rfl)); (try simp only [Act.put, List.setIfInBounds_toArray, List.set_cons_zero, List.set_cons_succ, List.getElem_toArray, List.getElem_cons_zero, List.getElem_cons_succ])) | fail "take 0"
          first | (refine wpAnyH_take (i := 1) (v := ?_) rfl (by kernel_rfl) (by kernel_rfl) (by kernel_rfl) (fun _ _ _ h => h) (Or.inl ⟨by rfl, ?_⟩) (by assumption) ?_; rotate_left; (intro X hSw; (try dsimp only at hSw); go_simp; (try with_reducible rfl)); (try simp only [Act.put, List.setIfInBounds_toArray, List.set_cons_zero, List.set_cons_succ, List.getElem_toArray, List.getElem_cons_zero, List.getElem_cons_succ])) | fail "take 1"
          refine wpAnyH_ready (rs := [2]) (by kernel_rfl) (by simp) ?_
          refine AllReadyH.cons rfl (fun K hK => ?_) AllReadyH.nil
          go_simp
          refine (toInverse_own _ _ _ _ _ _ I _ (HI.out.below (HB.out.trans (HT.out.1.mono HB.out.size))) hm).mono ?_
          rintro e w6 ⟨vv, rfl, rr, hb6⟩
          have HT := Lib.hid (HT.out.call hb6)
          have R6 := Lib.hid rr
          clear hb6 rr
          (try dsimp only)
          refine hK.out _ _ (by exact SQ3.out _ HT.out) (fun hHeld => ?_)
          clear hK K
          (try simp only [Act.put, List.setIfInBounds_toArray, List.set_cons_zero, List.set_cons_succ, List.getElem_toArray, List.getElem_cons_zero, List.getElem_cons_succ])
          refine wpAnyH_ready (rs := [3]) (by kernel_rfl) (by simp) ?_
          refine AllReadyH.cons rfl (fun K hK => ?_) AllReadyH.nil
          go_simp
          refine (eqInverse_own _ (RX.out.below HT.out.1) R6.out).mono ?_
          rintro e w7 ⟨rfl, hb7⟩
          have HT := Lib.hid (HT.out.call hb7)
          clear hb7
          (try dsimp only)
          refine hK.out _ _ (by exact SQ3.out _ HT.out) (fun hHeld => ?_)
          clear hK K
          (try simp only [Act.put, List.setIfInBounds_toArray, List.set_cons_zero, List.set_cons_succ, List.getElem_toArray, List.getElem_cons_zero, List.getElem_cons_succ])
          first | (refine wpAnyH_take (i := 4) (v := ?_) rfl (by kernel_rfl) (by kernel_rfl) (by kernel_rfl) (fun _ _ _ h => h) (Or.inl ⟨by rfl, ?_⟩) (by assumption) ?_; rotate_left; (intro X hSw; (try dsimp only at hSw); go_simp; (try with_reducible rfl)); (try simp only [Act.put, List.setIfInBounds_toArray, List.set_cons_zero, List.set_cons_succ, List.getElem_toArray, List.getElem_cons_zero, List.getElem_cons_succ])) | fail "take 4"
          refine wpAnyH_done (by kernel_rfl) ?_ _
          have HA := Lib.hid (HA.out.call HT.out.1)
          have HP := Lib.hid (HP.out.call HT.out.1)
          have B0 := Lib.hid (B0.out.call HT.out.1)
          have R0 := Lib.hid (R0.out.below HT.out.1)
          have B1 := Lib.hid (B1.out.call HT.out.1)
          have R1 := Lib.hid (R1.out.below HT.out.1)
          have HX := Lib.hid (HX.out.call HT.out.1)
          have RX := Lib.hid (RX.out.below HT.out.1)
          have HB := Lib.hid (HB.out.trans (HT.out.1.mono HB.out.size))
          have hz7 := HT.out.2
          clear HT SQ3 R6
          obtain ⟨x0, x1, x2, x3⟩ := HX.out.cells
          go_wp2_with fail
          refine (HM1.out _ _ _ _ RX.out).mono ?_
          rintro e w8 ⟨rfl, -, ht8⟩
          have hA := HA.out.lt
          obtain ⟨i1, i2, i3, i4, i5⟩ := HIn.out
          have HB := Lib.hid (ht8.below HB.out (Nat.le_refl _) (by omega))
          have HA := Lib.hid (show Box4 w8 w.heap.size 26 (.slice ia m ic) (.int .i64 ax) (.int .i64 ay) (.int .i64 az) from touch_block HA.out ht8 (by omega))
          have HP := Lib.hid (show Box2q w8 (w.heap.size + 1) 28 (.bool p) (.int .i64 x) from touch_block HP.out ht8 (by omega))
          have B0 := Lib.hid (show Box4 w8 c0 32 (.slice ia0 S.items.length ic0) (.int .i64 S.agg.x) (.int .i64 S.agg.y) (.int .i64 S.agg.z) from touch_block B0.out ht8 (by omega))
          have R0 := Lib.hid (R0.out.touch ht8 (by omega))
          have B1 := Lib.hid (show Box4 w8 c1 32 (.slice ia5 S.items.length ic5) (.int .i64 S.agg.x) (.int .i64 S.agg.y) (.int .i64 S.agg.z) from touch_block B1.out ht8 (by omega))
          have R1 := Lib.hid (R1.out.touch ht8 (by omega))
          clear ht8 HX RX
          clear x0 x1 x2 x3
          obtain ⟨r0, r1, r2, r3⟩ := B0.out.cells
          obtain ⟨g0, g1, g2, g3⟩ := B1.out.cells
          go_wp2_with fail
          refine (eqInverse_own _ R1.out R0.out).mono ?_
          rintro e w9 ⟨rfl, hb9⟩
          have HA := Lib.hid (HA.out.call hb9)
          have HP := Lib.hid (HP.out.call hb9)
          have B0 := Lib.hid (B0.out.call hb9)
          have R0 := Lib.hid (R0.out.below hb9)
          have B1 := Lib.hid (B1.out.call hb9)
          have R1 := Lib.hid (R1.out.below hb9)
          have HB := Lib.hid (HB.out.trans (hb9.mono HB.out.size))
          clear hb9
          clear r0 r1 r2 r3 g0 g1 g2 g3
          obtain ⟨g0, g1, g2, g3⟩ := B1.out.cells
          go_wp2_with fail
          refine (HM2.out _ _ _ _ R1.out).mono ?_
          rintro e w10 ⟨rfl, rr10, ht10⟩
          have R1 := Lib.hid rr10
          have HB := Lib.hid (ht10.below HB.out (Nat.le_refl _) (by omega))
          have HA := Lib.hid (show Box4 w10 w.heap.size 26 (.slice ia m ic) (.int .i64 ax) (.int .i64 ay) (.int .i64 az) from touch_block HA.out ht10 (by omega))
          have HP := Lib.hid (show Box2q w10 (w.heap.size + 1) 28 (.bool p) (.int .i64 x) from touch_block HP.out ht10 (by omega))
          have B0 := Lib.hid (show Box4 w10 c0 32 (.slice ia0 S.items.length ic0) (.int .i64 S.agg.x) (.int .i64 S.agg.y) (.int .i64 S.agg.z) from touch_block B0.out ht10 (by omega))
          have R0 := Lib.hid (R0.out.touch ht10 (by omega))
          have B1 := Lib.hid (show Box4 w10 c1 32 (.slice ia5 S.items.length ic5) (.int .i64 S.agg.x) (.int .i64 S.agg.y) (.int .i64 S.agg.z) from touch_block B1.out ht10 (by omega))
          clear ht10 rr10
          clear g0 g1 g2 g3
          obtain ⟨g0, g1, g2, g3⟩ := B1.out.cells
          go_wp2_with fail
          refine (HH2.out _ _ _ _ R1.out).mono ?_
          rintro e w11 ⟨rfl, hb11⟩
          have HA := Lib.hid (HA.out.call hb11)
          have HP := Lib.hid (HP.out.call hb11)
          have B0 := Lib.hid (B0.out.call hb11)
          have R0 := Lib.hid (R0.out.below hb11)
          have B1 := Lib.hid (B1.out.call hb11)
          have R1 := Lib.hid (R1.out.below hb11)
          have HB := Lib.hid (HB.out.trans (hb11.mono HB.out.size))
          clear hb11
          clear g0 g1 g2 g3
          obtain ⟨q0, q1, q2, q3⟩ := HA.out.cells
          obtain ⟨p0, p1⟩ := HP.out.cells
          go_wp2_with fail
          clear p0 p1
          clear q0 q1 q2 q3
          have sq4 : ∀ X, Snc w11 X → (X.cell? ⟨w.heap.size, 0, none⟩ = some (.slice ia m ic) ∧ X.cell? ⟨w.heap.size, 1, none⟩ = some (.int .i64 ax) ∧ X.cell? ⟨w.heap.size, 2, none⟩ = some (.int .i64 ay) ∧ X.cell? ⟨w.heap.size, 3, none⟩ = some (.int .i64 az)) ∧ X.cell? ⟨w.heap.size + 1, 0, none⟩ = some (.bool p) ∧ X.cell? ⟨w.heap.size + 1, 1, none⟩ = some (.int .i64 x) := fun X h => ⟨(HA.out.call h.1).cells, (HP.out.call h.1).cells⟩
          have SQ4 := Lib.hid sq4
          clear sq4
          go_cut [16, 17] (fun s s' wx => ∃ c : Nat, s = .pointer (some ⟨c, 0, none⟩) ∧ s' = .bool (true) ∧ IvAns w11.heap.size wx.heap.size wx c S ∧ Snc w11 wx)
          case first =>
            refine wp_region_held_drew (S := (fun X => (X.cell? ⟨w.heap.size, 0, none⟩ = some (.slice ia m ic) ∧ X.cell? ⟨w.heap.size, 1, none⟩ = some (.int .i64 ax) ∧ X.cell? ⟨w.heap.size, 2, none⟩ = some (.int .i64 ay) ∧ X.cell? ⟨w.heap.size, 3, none⟩ = some (.int .i64 az)) ∧ X.cell? ⟨w.heap.size + 1, 0, none⟩ = some (.bool p) ∧ X.cell? ⟨w.heap.size + 1, 1, none⟩ = some (.int .i64 x))) (by kernel_rfl) (by exact SQ4.out _ (Snc.refl w11).drew) (fun hHeld => ?_)
            have HT := Lib.hid (Snc.refl w11).drew
            first | (refine wpAnyH_take (i := 0) (v := ?_) rfl (by kernel_rfl) (by kernel_rfl) (by kernel_rfl) (fun _ _ _ h => h) (Or.inl ⟨by rfl, ?_⟩) (by assumption) ?_; rotate_left; (intro X hSw; (try dsimp only at hSw); go_simp; (try with_reducible rfl)); (try simp only [Act.put, List.setIfInBounds_toArray, List.set_cons_zero, List.set_cons_succ, List.getElem_toArray, List.getElem_cons_zero, List.getElem_cons_succ])) | fail "take 0"
            first | (refine wpAnyH_take (i := 1) (v := ?_) rfl (by kernel_rfl) (by kernel_rfl) (by kernel_rfl) (fun _ _ _ h => h) (Or.inl ⟨by rfl, ?_⟩) (by assumption) ?_; rotate_left; (intro X hSw; (try dsimp only at hSw); go_simp; (try with_reducible rfl)); (try simp only [Act.put, List.setIfInBounds_toArray, List.set_cons_zero, List.set_cons_succ, List.getElem_toArray, List.getElem_cons_zero, List.getElem_cons_succ])) | fail "take 1"
            first | (refine wpAnyH_take (i := 3) (v := ?_) rfl (by kernel_rfl) (by kernel_rfl) (by kernel_rfl) (fun _ _ _ h => h) (Or.inl ⟨by rfl, ?_⟩) (by assumption) ?_; rotate_left; (intro X hSw; (try dsimp only at hSw); go_simp; (try with_reducible rfl)); (try simp only [Act.put, List.setIfInBounds_toArray, List.set_cons_zero, List.set_cons_succ, List.getElem_toArray, List.getElem_cons_zero, List.getElem_cons_succ])) | fail "take 3"
            refine wpAnyH_ready (rs := [2, 9]) (by kernel_rfl) (by simp) ?_
            refine AllReadyH.cons rfl (fun K hK => ?_) (AllReadyH.cons rfl (fun K hK => ?_) AllReadyH.nil)
            · go_simp
              refine (toInverse_own _ _ _ _ _ _ I _ (HI.out.below (HB.out.trans (HT.out.1.mono HB.out.size))) hm).mono ?_
              rintro e v1 ⟨vv, rfl, rr, hbb⟩
              obtain ⟨ia2, ic2, rfl, hRI⟩ := rr.read
              have HR := Lib.hid (fun X (h : Snc v1 X) => (show Nums .i64 X ia2 I.length ic2 I from hRI.below h.1))
              have HT := Lib.hid (HT.out.call hbb)
              clear hbb rr hRI
              (try dsimp only)
              refine hK.out _ _ (by exact SQ4.out _ HT.out) (fun hHeld => ?_)
              clear hK K
              (try simp only [Act.put, List.setIfInBounds_toArray, List.set_cons_zero, List.set_cons_succ, List.getElem_toArray, List.getElem_cons_zero, List.getElem_cons_succ])
              refine wpAnyH_ready (rs := [4, 9]) (by kernel_rfl) (by simp) ?_
              refine AllReadyH.cons rfl (fun K hK => ?_) (AllReadyH.cons rfl (fun K hK => ?_) AllReadyH.nil)
              · go_simp
                refine (toOp_any p x _).mono ?_
                rintro e v2 ⟨rfl, hbb⟩
                have HR := Lib.hid (fun X (h : Snc v2 X) => HR.out X ⟨hbb.trans (h.1.mono hbb.size), Nat.le_trans hbb.size h.2⟩)
                have HT := Lib.hid (HT.out.call hbb)
                clear hbb
                (try dsimp only)
                refine hK.out _ _ (by exact SQ4.out _ HT.out) (fun hHeld => ?_)
                clear hK K
                (try simp only [Act.put, List.setIfInBounds_toArray, List.set_cons_zero, List.set_cons_succ, List.getElem_toArray, List.getElem_cons_zero, List.getElem_cons_succ])
                refine wpAnyH_ready (rs := [5, 9]) (by kernel_rfl) (by simp) ?_
                refine AllReadyH.cons rfl (fun K hK => ?_) (AllReadyH.cons rfl (fun K hK => ?_) AllReadyH.nil)
                · go_simp
                  refine (H2.out _ _ _ (HR.out _ (Snc.refl _))).mono ?_
                  rintro e v3 ⟨vv, rfl, rr, hbb⟩
                  obtain ⟨ia9, ic9, rfl, -⟩ := rr.read
                  have HO := Lib.hid rr
                  have hloL := HT.out.2
                  have hloH := hbb.size
                  have HT := Lib.hid (HT.out.call hbb)
                  clear hbb rr
                  (try dsimp only)
                  refine hK.out _ _ (by exact SQ4.out _ HT.out) (fun hHeld => ?_)
                  clear hK K
                  (try simp only [Act.put, List.setIfInBounds_toArray, List.set_cons_zero, List.set_cons_succ, List.getElem_toArray, List.getElem_cons_zero, List.getElem_cons_succ])
                  first | (refine wpAnyH_take (i := 6) (v := ?_) rfl (by kernel_rfl) (by kernel_rfl) (by kernel_rfl) (fun _ _ _ h => h) (Or.inl ⟨by rfl, ?_⟩) (by assumption) ?_; rotate_left; (intro X hSw; (try dsimp only at hSw); go_simp; (try with_reducible rfl)); (try simp only [Act.put, List.setIfInBounds_toArray, List.set_cons_zero, List.set_cons_succ, List.getElem_toArray, List.getElem_cons_zero, List.getElem_cons_succ])) | fail "take 6"
                  first | (refine wpAnyH_take (i := 7) (v := ?_) rfl (by kernel_rfl) (by kernel_rfl) (by kernel_rfl) (fun _ _ _ h => h) (Or.inl ⟨by rfl, ?_⟩) (by assumption) ?_; rotate_left; (intro X hSw; (try dsimp only at hSw); go_simp; (try with_reducible rfl)); (try simp only [Act.put, List.setIfInBounds_toArray, List.set_cons_zero, List.set_cons_succ, List.getElem_toArray, List.getElem_cons_zero, List.getElem_cons_succ])) | fail "take 7"
                  first | (refine wpAnyH_take (i := 8) (v := ?_) rfl (by kernel_rfl) (by kernel_rfl) (by kernel_rfl) (fun _ _ _ h => h) (Or.inl ⟨by rfl, ?_⟩) (by assumption) ?_; rotate_left; (intro X hSw; (try dsimp only at hSw); go_simp; (try with_reducible rfl)); (try simp only [Act.put, List.setIfInBounds_toArray, List.set_cons_zero, List.set_cons_succ, List.getElem_toArray, List.getElem_cons_zero, List.getElem_cons_succ])) | fail "take 8"
                  refine wpAnyH_ready (rs := [9]) (by kernel_rfl) (by simp) ?_
                  refine AllReadyH.cons rfl (fun K hK => ?_) AllReadyH.nil
                  go_simp
                  (try dsimp only)
                  refine hK.out _ _ (by exact SQ4.out _ (HT.out.alloc _)) (fun hHeld => ?_)
                  clear hK K
                  (try simp only [Act.put, List.setIfInBounds_toArray, List.set_cons_zero, List.set_cons_succ, List.getElem_toArray, List.getElem_cons_zero, List.getElem_cons_succ])
                  refine wpAnyH_ready (rs := [10]) (by kernel_rfl) (by simp) ?_
                  refine AllReadyH.cons rfl (fun K hK => ?_) AllReadyH.nil
                  go_simp
                  (try dsimp only)
                  refine hK.out _ _ (by exact SQ4.out _ (HT.out.alloc _)) (fun hHeld => ?_)
                  clear hK K
                  (try simp only [Act.put, List.setIfInBounds_toArray, List.set_cons_zero, List.set_cons_succ, List.getElem_toArray, List.getElem_cons_zero, List.getElem_cons_succ])
                  first | (refine wpAnyH_take (i := 11) (v := ?_) rfl (by kernel_rfl) (by kernel_rfl) (by kernel_rfl) (fun _ _ _ h => h) (Or.inl ⟨by rfl, ?_⟩) (by assumption) ?_; rotate_left; (intro X hSw; (try dsimp only at hSw); go_simp; (try with_reducible rfl)); (try simp only [Act.put, List.setIfInBounds_toArray, List.set_cons_zero, List.set_cons_succ, List.getElem_toArray, List.getElem_cons_zero, List.getElem_cons_succ])) | fail "take 11"
                  refine wpAnyH_done (by kernel_rfl) ?_ _
                  go_wp2_with fail
                  go_meet
                  exact ⟨_, rfl, rfl, IvAns.new hloL hloH (Nat.le_refl _) HO.out, HT.out.alloc _⟩
                · go_simp
                  obtain ⟨Y, hY⟩ : ∃ Y, Y = (v2.alloc (.cells #[.slice none 0 0, .int .i64 0, .int .i64 0, .int .i64 0] 32)) := ⟨_, rfl⟩
                  have HN := Lib.hid (show Box4 Y v2.heap.size 32 (.slice none 0 0) (.int .i64 0) (.int .i64 0) (.int .i64 0) from by rw [hY]; exact Box4.new _ _ _ _ _ _)
                  have hYb : Below v2.heap.size v2 Y := by rw [hY]; exact ((Below.refl _ _).alloc (Nat.le_refl _) _)
                  have hcW : w11.heap.size ≤ v2.heap.size := HT.out.2
                  have HT := Lib.hid (show Snc w11 Y from HT.out.call hYb)
                  have hcl : v2.heap.size < Y.heap.size := HN.out.lt
                  have HR := Lib.hid (fun X (h : Snc Y X) => HR.out X ⟨(show Below v2.heap.size v2 X from hYb.trans (h.1.mono hYb.size)), Nat.le_trans hYb.size h.2⟩)
                  rw [← hY]
                  clear hY hYb
                  (try dsimp only)
                  refine hK.out _ _ (by exact SQ4.out _ HT.out) (fun hHeld => ?_)
                  clear hK K
                  (try simp only [Act.put, List.setIfInBounds_toArray, List.set_cons_zero, List.set_cons_succ, List.getElem_toArray, List.getElem_cons_zero, List.getElem_cons_succ])
                  refine wpAnyH_ready (rs := [5]) (by kernel_rfl) (by simp) ?_
                  refine AllReadyH.cons rfl (fun K hK => ?_) AllReadyH.nil
                  go_simp
                  refine (H2.out _ _ _ (HR.out _ (Snc.refl _))).mono ?_
                  rintro e v3 ⟨vv, rfl, rr, hbb⟩
                  obtain ⟨ia9, ic9, rfl, -⟩ := rr.read
                  have HO := Lib.hid rr
                  have hloL := HT.out.2
                  have hloH := hbb.size
                  have HT := Lib.hid (HT.out.call hbb)
                  have HN := Lib.hid (HN.out.call hbb)
                  clear hbb rr
                  (try dsimp only)
                  refine hK.out _ _ (by exact SQ4.out _ HT.out) (fun hHeld => ?_)
                  clear hK K
                  (try simp only [Act.put, List.setIfInBounds_toArray, List.set_cons_zero, List.set_cons_succ, List.getElem_toArray, List.getElem_cons_zero, List.getElem_cons_succ])
                  first | (refine wpAnyH_take (i := 6) (v := ?_) rfl (by kernel_rfl) (by kernel_rfl) (by kernel_rfl) (fun _ _ _ h => h) (Or.inl ⟨by rfl, ?_⟩) (by assumption) ?_; rotate_left; (intro X hSw; (try dsimp only at hSw); go_simp; (try with_reducible rfl)); (try simp only [Act.put, List.setIfInBounds_toArray, List.set_cons_zero, List.set_cons_succ, List.getElem_toArray, List.getElem_cons_zero, List.getElem_cons_succ])) | fail "take 6"
                  first | (refine wpAnyH_take (i := 7) (v := ?_) rfl (by kernel_rfl) (by kernel_rfl) (by kernel_rfl) (fun _ _ _ h => h) (Or.inl ⟨by rfl, ?_⟩) (by assumption) ?_; rotate_left; (intro X hSw; (try dsimp only at hSw); go_simp; (try with_reducible rfl)); (try simp only [Act.put, List.setIfInBounds_toArray, List.set_cons_zero, List.set_cons_succ, List.getElem_toArray, List.getElem_cons_zero, List.getElem_cons_succ])) | fail "take 7"
                  first | (refine wpAnyH_take (i := 8) (v := ?_) rfl (by kernel_rfl) (by kernel_rfl) (by kernel_rfl) (fun _ _ _ h => h) (Or.inl ⟨by rfl, ?_⟩) (by assumption) ?_; rotate_left; (intro X hSw; (try dsimp only at hSw); go_simp; (try with_reducible rfl)); (try simp only [Act.put, List.setIfInBounds_toArray, List.set_cons_zero, List.set_cons_succ, List.getElem_toArray, List.getElem_cons_zero, List.getElem_cons_succ])) | fail "take 8"
                  obtain ⟨z0, z1, z2, z3⟩ := HN.out.cells
                  have zf := HN.out.free
                  refine wpAnyH_ready (rs := [10]) (by kernel_rfl) (by simp) ?_
                  refine AllReadyH.cons rfl (fun K hK => ?_) AllReadyH.nil
                  go_simp
                  (try dsimp only)
                  refine hK.out _ _ (by exact SQ4.out _ ((((HT.out.set hcW _ _).set hcW _ _).set hcW _ _).set hcW _ _)) (fun hHeld => ?_)
                  clear hK K
                  (try simp only [Act.put, List.setIfInBounds_toArray, List.set_cons_zero, List.set_cons_succ, List.getElem_toArray, List.getElem_cons_zero, List.getElem_cons_succ])
                  first | (refine wpAnyH_take (i := 11) (v := ?_) rfl (by kernel_rfl) (by kernel_rfl) (by kernel_rfl) (fun _ _ _ h => h) (Or.inl ⟨by rfl, ?_⟩) (by assumption) ?_; rotate_left; (intro X hSw; (try dsimp only at hSw); go_simp; (try with_reducible rfl)); (try simp only [Act.put, List.setIfInBounds_toArray, List.set_cons_zero, List.set_cons_succ, List.getElem_toArray, List.getElem_cons_zero, List.getElem_cons_succ])) | fail "take 11"
                  refine wpAnyH_done (by kernel_rfl) ?_ _
                  go_wp2_with fail
                  go_meet
                  exact ⟨_, rfl, rfl, IvAns.set hcW (by omega) (Nat.le_refl _) HN.out HO.out, ((((HT.out.set hcW _ _).set hcW _ _).set hcW _ _).set hcW _ _)⟩
              · go_simp
                obtain ⟨Y, hY⟩ : ∃ Y, Y = (v1.alloc (.cells #[.slice none 0 0, .int .i64 0, .int .i64 0, .int .i64 0] 32)) := ⟨_, rfl⟩
                have HN := Lib.hid (show Box4 Y v1.heap.size 32 (.slice none 0 0) (.int .i64 0) (.int .i64 0) (.int .i64 0) from by rw [hY]; exact Box4.new _ _ _ _ _ _)
                have hYb : Below v1.heap.size v1 Y := by rw [hY]; exact ((Below.refl _ _).alloc (Nat.le_refl _) _)
                have hcW : w11.heap.size ≤ v1.heap.size := HT.out.2
                have HT := Lib.hid (show Snc w11 Y from HT.out.call hYb)
                have hcl : v1.heap.size < Y.heap.size := HN.out.lt
                have HR := Lib.hid (fun X (h : Snc Y X) => HR.out X ⟨(show Below v1.heap.size v1 X from hYb.trans (h.1.mono hYb.size)), Nat.le_trans hYb.size h.2⟩)
                rw [← hY]
                clear hY hYb
                (try dsimp only)
                refine hK.out _ _ (by exact SQ4.out _ HT.out) (fun hHeld => ?_)
                clear hK K
                (try simp only [Act.put, List.setIfInBounds_toArray, List.set_cons_zero, List.set_cons_succ, List.getElem_toArray, List.getElem_cons_zero, List.getElem_cons_succ])
                refine wpAnyH_ready (rs := [4]) (by kernel_rfl) (by simp) ?_
                refine AllReadyH.cons rfl (fun K hK => ?_) AllReadyH.nil
                go_simp
                refine (toOp_any p x _).mono ?_
                rintro e v2 ⟨rfl, hbb⟩
                have HR := Lib.hid (fun X (h : Snc v2 X) => HR.out X ⟨hbb.trans (h.1.mono hbb.size), Nat.le_trans hbb.size h.2⟩)
                have HT := Lib.hid (HT.out.call hbb)
                have HN := Lib.hid (HN.out.call hbb)
                have hcl : v1.heap.size < v2.heap.size := HN.out.lt
                clear hbb
                (try dsimp only)
                refine hK.out _ _ (by exact SQ4.out _ HT.out) (fun hHeld => ?_)
                clear hK K
                (try simp only [Act.put, List.setIfInBounds_toArray, List.set_cons_zero, List.set_cons_succ, List.getElem_toArray, List.getElem_cons_zero, List.getElem_cons_succ])
                refine wpAnyH_ready (rs := [5]) (by kernel_rfl) (by simp) ?_
                refine AllReadyH.cons rfl (fun K hK => ?_) AllReadyH.nil
                go_simp
                refine (H2.out _ _ _ (HR.out _ (Snc.refl _))).mono ?_
                rintro e v3 ⟨vv, rfl, rr, hbb⟩
                obtain ⟨ia9, ic9, rfl, -⟩ := rr.read
                have HO := Lib.hid rr
                have hloL := HT.out.2
                have hloH := hbb.size
                have HT := Lib.hid (HT.out.call hbb)
                have HN := Lib.hid (HN.out.call hbb)
                clear hbb rr
                (try dsimp only)
                refine hK.out _ _ (by exact SQ4.out _ HT.out) (fun hHeld => ?_)
                clear hK K
                (try simp only [Act.put, List.setIfInBounds_toArray, List.set_cons_zero, List.set_cons_succ, List.getElem_toArray, List.getElem_cons_zero, List.getElem_cons_succ])
                first | (refine wpAnyH_take (i := 6) (v := ?_) rfl (by kernel_rfl) (by kernel_rfl) (by kernel_rfl) (fun _ _ _ h => h) (Or.inl ⟨by rfl, ?_⟩) (by assumption) ?_; rotate_left; (intro X hSw; (try dsimp only at hSw); go_simp; (try with_reducible rfl)); (try simp only [Act.put, List.setIfInBounds_toArray, List.set_cons_zero, List.set_cons_succ, List.getElem_toArray, List.getElem_cons_zero, List.getElem_cons_succ])) | fail "take 6"
                first | (refine wpAnyH_take (i := 7) (v := ?_) rfl (by kernel_rfl) (by kernel_rfl) (by kernel_rfl) (fun _ _ _ h => h) (Or.inl ⟨by rfl, ?_⟩) (by assumption) ?_; rotate_left; (intro X hSw; (try dsimp only at hSw); go_simp; (try with_reducible rfl)); (try simp only [Act.put, List.setIfInBounds_toArray, List.set_cons_zero, List.set_cons_succ, List.getElem_toArray, List.getElem_cons_zero, List.getElem_cons_succ])) | fail "take 7"
                first | (refine wpAnyH_take (i := 8) (v := ?_) rfl (by kernel_rfl) (by kernel_rfl) (by kernel_rfl) (fun _ _ _ h => h) (Or.inl ⟨by rfl, ?_⟩) (by assumption) ?_; rotate_left; (intro X hSw; (try dsimp only at hSw); go_simp; (try with_reducible rfl)); (try simp only [Act.put, List.setIfInBounds_toArray, List.set_cons_zero, List.set_cons_succ, List.getElem_toArray, List.getElem_cons_zero, List.getElem_cons_succ])) | fail "take 8"
                obtain ⟨z0, z1, z2, z3⟩ := HN.out.cells
                have zf := HN.out.free
                refine wpAnyH_ready (rs := [10]) (by kernel_rfl) (by simp) ?_
                refine AllReadyH.cons rfl (fun K hK => ?_) AllReadyH.nil
                go_simp
                (try dsimp only)
                refine hK.out _ _ (by exact SQ4.out _ ((((HT.out.set hcW _ _).set hcW _ _).set hcW _ _).set hcW _ _)) (fun hHeld => ?_)
                clear hK K
                (try simp only [Act.put, List.setIfInBounds_toArray, List.set_cons_zero, List.set_cons_succ, List.getElem_toArray, List.getElem_cons_zero, List.getElem_cons_succ])
                first | (refine wpAnyH_take (i := 11) (v := ?_) rfl (by kernel_rfl) (by kernel_rfl) (by kernel_rfl) (fun _ _ _ h => h) (Or.inl ⟨by rfl, ?_⟩) (by assumption) ?_; rotate_left; (intro X hSw; (try dsimp only at hSw); go_simp; (try with_reducible rfl)); (try simp only [Act.put, List.setIfInBounds_toArray, List.set_cons_zero, List.set_cons_succ, List.getElem_toArray, List.getElem_cons_zero, List.getElem_cons_succ])) | fail "take 11"
                refine wpAnyH_done (by kernel_rfl) ?_ _
                go_wp2_with fail
                go_meet
                exact ⟨_, rfl, rfl, IvAns.set hcW (by omega) (Nat.le_refl _) HN.out HO.out, ((((HT.out.set hcW _ _).set hcW _ _).set hcW _ _).set hcW _ _)⟩
            · go_simp
              obtain ⟨Y, hY⟩ : ∃ Y, Y = (w11.alloc (.cells #[.slice none 0 0, .int .i64 0, .int .i64 0, .int .i64 0] 32)).drew := ⟨_, rfl⟩
              have HN := Lib.hid (show Box4 Y w11.heap.size 32 (.slice none 0 0) (.int .i64 0) (.int .i64 0) (.int .i64 0) from by rw [hY]; exact Box4.new _ _ _ _ _ _)
              have hYb : Below w11.heap.size w11 Y := by rw [hY]; exact ((Below.refl _ _).alloc (Nat.le_refl _) _).drew
              have hcW : w11.heap.size ≤ w11.heap.size := Nat.le_refl _
              have HT := Lib.hid (show Snc w11 Y from (Snc.refl w11).call hYb)
              have hcl : w11.heap.size < Y.heap.size := HN.out.lt
              rw [← hY]
              clear hY hYb
              (try dsimp only)
              refine hK.out _ _ (by exact SQ4.out _ HT.out) (fun hHeld => ?_)
              clear hK K
              (try simp only [Act.put, List.setIfInBounds_toArray, List.set_cons_zero, List.set_cons_succ, List.getElem_toArray, List.getElem_cons_zero, List.getElem_cons_succ])
              refine wpAnyH_ready (rs := [2]) (by kernel_rfl) (by simp) ?_
              refine AllReadyH.cons rfl (fun K hK => ?_) AllReadyH.nil
              go_simp
              refine (toInverse_own _ _ _ _ _ _ I _ (HI.out.below (HB.out.trans (HT.out.1.mono HB.out.size))) hm).mono ?_
              rintro e v1 ⟨vv, rfl, rr, hbb⟩
              obtain ⟨ia2, ic2, rfl, hRI⟩ := rr.read
              have HR := Lib.hid (fun X (h : Snc v1 X) => (show Nums .i64 X ia2 I.length ic2 I from hRI.below h.1))
              have HT := Lib.hid (HT.out.call hbb)
              have HN := Lib.hid (HN.out.call hbb)
              have hcl : w11.heap.size < v1.heap.size := HN.out.lt
              clear hbb rr hRI
              (try dsimp only)
              refine hK.out _ _ (by exact SQ4.out _ HT.out) (fun hHeld => ?_)
              clear hK K
              (try simp only [Act.put, List.setIfInBounds_toArray, List.set_cons_zero, List.set_cons_succ, List.getElem_toArray, List.getElem_cons_zero, List.getElem_cons_succ])
              refine wpAnyH_ready (rs := [4]) (by kernel_rfl) (by simp) ?_
              refine AllReadyH.cons rfl (fun K hK => ?_) AllReadyH.nil
              go_simp
              refine (toOp_any p x _).mono ?_
              rintro e v2 ⟨rfl, hbb⟩
              have HR := Lib.hid (fun X (h : Snc v2 X) => HR.out X ⟨hbb.trans (h.1.mono hbb.size), Nat.le_trans hbb.size h.2⟩)
              have HT := Lib.hid (HT.out.call hbb)
              have HN := Lib.hid (HN.out.call hbb)
              have hcl : w11.heap.size < v2.heap.size := HN.out.lt
              clear hbb
              (try dsimp only)
              refine hK.out _ _ (by exact SQ4.out _ HT.out) (fun hHeld => ?_)
              clear hK K
              (try simp only [Act.put, List.setIfInBounds_toArray, List.set_cons_zero, List.set_cons_succ, List.getElem_toArray, List.getElem_cons_zero, List.getElem_cons_succ])
              refine wpAnyH_ready (rs := [5]) (by kernel_rfl) (by simp) ?_
              refine AllReadyH.cons rfl (fun K hK => ?_) AllReadyH.nil
              go_simp
              refine (H2.out _ _ _ (HR.out _ (Snc.refl _))).mono ?_
              rintro e v3 ⟨vv, rfl, rr, hbb⟩
              obtain ⟨ia9, ic9, rfl, -⟩ := rr.read
              have HO := Lib.hid rr
              have hloL := HT.out.2
              have hloH := hbb.size
              have HT := Lib.hid (HT.out.call hbb)
              have HN := Lib.hid (HN.out.call hbb)
              clear hbb rr
              (try dsimp only)
              refine hK.out _ _ (by exact SQ4.out _ HT.out) (fun hHeld => ?_)
              clear hK K
              (try simp only [Act.put, List.setIfInBounds_toArray, List.set_cons_zero, List.set_cons_succ, List.getElem_toArray, List.getElem_cons_zero, List.getElem_cons_succ])
              first | (refine wpAnyH_take (i := 6) (v := ?_) rfl (by kernel_rfl) (by kernel_rfl) (by kernel_rfl) (fun _ _ _ h => h) (Or.inl ⟨by rfl, ?_⟩) (by assumption) ?_; rotate_left; (intro X hSw; (try dsimp only at hSw); go_simp; (try with_reducible rfl)); (try simp only [Act.put, List.setIfInBounds_toArray, List.set_cons_zero, List.set_cons_succ, List.getElem_toArray, List.getElem_cons_zero, List.getElem_cons_succ])) | fail "take 6"
              first | (refine wpAnyH_take (i := 7) (v := ?_) rfl (by kernel_rfl) (by kernel_rfl) (by kernel_rfl) (fun _ _ _ h => h) (Or.inl ⟨by rfl, ?_⟩) (by assumption) ?_; rotate_left; (intro X hSw; (try dsimp only at hSw); go_simp; (try with_reducible rfl)); (try simp only [Act.put, List.setIfInBounds_toArray, List.set_cons_zero, List.set_cons_succ, List.getElem_toArray, List.getElem_cons_zero, List.getElem_cons_succ])) | fail "take 7"
              first | (refine wpAnyH_take (i := 8) (v := ?_) rfl (by kernel_rfl) (by kernel_rfl) (by kernel_rfl) (fun _ _ _ h => h) (Or.inl ⟨by rfl, ?_⟩) (by assumption) ?_; rotate_left; (intro X hSw; (try dsimp only at hSw); go_simp; (try with_reducible rfl)); (try simp only [Act.put, List.setIfInBounds_toArray, List.set_cons_zero, List.set_cons_succ, List.getElem_toArray, List.getElem_cons_zero, List.getElem_cons_succ])) | fail "take 8"
              obtain ⟨z0, z1, z2, z3⟩ := HN.out.cells
              have zf := HN.out.free
              refine wpAnyH_ready (rs := [10]) (by kernel_rfl) (by simp) ?_
              refine AllReadyH.cons rfl (fun K hK => ?_) AllReadyH.nil
              go_simp
              (try dsimp only)
              refine hK.out _ _ (by exact SQ4.out _ ((((HT.out.set hcW _ _).set hcW _ _).set hcW _ _).set hcW _ _)) (fun hHeld => ?_)
              clear hK K
              (try simp only [Act.put, List.setIfInBounds_toArray, List.set_cons_zero, List.set_cons_succ, List.getElem_toArray, List.getElem_cons_zero, List.getElem_cons_succ])
              first | (refine wpAnyH_take (i := 11) (v := ?_) rfl (by kernel_rfl) (by kernel_rfl) (by kernel_rfl) (fun _ _ _ h => h) (Or.inl ⟨by rfl, ?_⟩) (by assumption) ?_; rotate_left; (intro X hSw; (try dsimp only at hSw); go_simp; (try with_reducible rfl)); (try simp only [Act.put, List.setIfInBounds_toArray, List.set_cons_zero, List.set_cons_succ, List.getElem_toArray, List.getElem_cons_zero, List.getElem_cons_succ])) | fail "take 11"
              refine wpAnyH_done (by kernel_rfl) ?_ _
              go_wp2_with fail
              go_meet
              exact ⟨_, rfl, rfl, IvAns.set hcW (by omega) (Nat.le_refl _) HN.out HO.out, ((((HT.out.set hcW _ _).set hcW _ _).set hcW _ _).set hcW _ _)⟩
          case rest =>
            obtain ⟨c2, rfl, rfl, hA2, hs2⟩ := hcut
            obtain ⟨lo2, hi2, ia7, ic7, -, -, -, -, -, -, f7, f8⟩ := hA2
            have B2 := Lib.hid f7
            have R2 := Lib.hid f8
            clear f7 f8
            have B0 := Lib.hid (B0.out.call hs2.1)
            have R0 := Lib.hid (R0.out.below hs2.1)
            have B1 := Lib.hid (B1.out.call hs2.1)
            have R1 := Lib.hid (R1.out.below hs2.1)
            have HB := Lib.hid (HB.out.trans (hs2.1.mono HB.out.size))
            clear hs2
            obtain ⟨y0, y1, y2, y3⟩ := B2.out.cells
            obtain ⟨r0, r1, r2, r3⟩ := B0.out.cells
            go_wp2_with fail
            refine (eqInverse_own _ R2.out R0.out).mono ?_
            rintro e w13 ⟨rfl, hb13⟩
            have B1 := Lib.hid (B1.out.call hb13)
            have R1 := Lib.hid (R1.out.below hb13)
            have HB := Lib.hid (HB.out.trans (hb13.mono HB.out.size))
            clear hb13
            clear y0 y1 y2 y3 r0 r1 r2 r3
            obtain ⟨g0, g1, g2, g3⟩ := B1.out.cells
            go_wp2_with fail
            refine (HH2.out _ _ _ _ R1.out).mono ?_
            rintro e w14 ⟨rfl, hb14⟩
            have HB := Lib.hid (HB.out.trans (hb14.mono HB.out.size))
            clear hb14
            go_wp2_with fail
            go_returns
            exact ⟨rfl, HB.out⟩
  · rw [if_neg hsz] at hSZ
    have HSZ := Lib.hid hSZ
    clear hSZ
    go_enter Tryz.func3, Tryz.ntmps3
    go_wp2_with fail
    rw [← hW]
    clear hW
    refine (HSZ.out _).mono ?_
    rintro e w1 ⟨rfl, hb1⟩
    have HB1 := Lib.hid (HB.out.trans (hb1.mono HB.out.size))
    clear hb1
    go_wp2_with fail
    go_returns
    exact ⟨rfl, HB1.out⟩
end Go.Proofs.YtehfijijapfomaaGreat

/-
  Arguments that are windows with an inverse, or deques, opened as the rows read them.
-/
namespace Go.Proofs.YtehfijijapfomaaGreat
open Go.RowKit Go.ChangeShapes Go.WideShapes Go.Joins Go.Deep
set_option linter.unusedVariables false
set_option linter.unusedSimpArgs false
section
variable {H : Type} {enc : TypeId × Value → H} {w : World} {base : Nat} {spare : Nat → Bool} {held : Bool}
theorem fs_cellsI : Tryz.prog.cellsOf 3 = 1 := by kernel_rfl
theorem fs_cellsN : Tryz.prog.cellsOf 22 = 1 := by kernel_rfl
theorem fs_array4 {α : Type} {cs : Array α} (h : cs.size = 4) : ∃ c0 c1 c2 c3, cs = #[c0, c1, c2, c3] := by
  obtain ⟨l⟩ := cs
  match l, h with
  | [c0, c1, c2, c3], _ => exact ⟨c0, c1, c2, c3, rfl⟩
theorem fs_array5 {α : Type} {cs : Array α} (h : cs.size = 5) : ∃ c0 c1 c2 c3 c4, cs = #[c0, c1, c2, c3, c4] := by
  obtain ⟨l⟩ := cs
  match l, h with
  | [c0, c1, c2, c3, c4], _ => exact ⟨c0, c1, c2, c3, c4, rfl⟩
theorem fs_ints {fuel : Nat} {c : Value} {x : DataW H × List MemPlace} (h : DataW.trod enc Tryz.prog w base (fun _ => true) held fuel 22 [c] = some x) : ∃ ia m ic I, c = .slice ia m ic ∧ Nums .i64 w ia m ic I := by
  rcases open_ints Tryz.underlying22 Tryz.underlying3 (by kernel_rfl) h with ⟨hcs, _⟩ | ⟨x, l, c, zs, hcs, _, hl, hm, hz, _, hcell, hwz⟩
  · simp only [List.cons.injEq, and_true] at hcs
    exact ⟨none, 0, 0, _, hcs, Nums.of_row (.inl ⟨rfl, rfl, rfl, rfl⟩)⟩
  · simp only [List.cons.injEq, and_true] at hcs
    exact ⟨some x, l, c, _, hcs, Nums.of_row (.inr ⟨_, rfl, hl, hm, by simpa using hz, hcell, hwz⟩)⟩
theorem fs_cellsV : Tryz.prog.cellsOf 24 = 3 := by kernel_rfl
theorem fs_cellsS : Tryz.prog.cellsOf 26 = 4 := by kernel_rfl
set_option maxRecDepth 100000 in
/-- A window with an inverse that came in. -/
theorem open_inverse {r : Reach} {b0 : Nat} {v : Value} {d : DataW H} {p : List MemPlace} (hv : Value.okWide Tryz.prog w r b0 26 v) (h : DataW.Trod enc Tryz.prog w base (fun _ => true) held 26 v d p) :
    ∃ (ia : Option Addr) (m ic : Nat) (ax ay az : Int) (I : List Int), v = .agg #[.slice ia m ic, .int .i64 ax, .int .i64 ay, .int .i64 az] ∧ Nums .i64 w ia m ic I := by
  obtain ⟨cs, rfl, hsz⟩ := okWide_struct Tryz.underlying26 hv
  obtain ⟨c0, c1, c2, c3, rfl⟩ := fs_array4 (hsz.trans fs_cellsS)
  obtain ⟨fuel, hf⟩ := h
  obtain ⟨xs, n, _, -, -, hlen, hfd⟩ := DataW.trod_struct Tryz.underlying26 hf
  match xs, hlen with
  | [y0, y1], _ =>
    have g0 := hfd 0 _ rfl
    have g1 := hfd 1 _ rfl
    simp [Value.cells, fs_cellsN, fs_cellsV, fs_cellsI] at g0 g1
    obtain ⟨ia, m, ic, I, e0, hI⟩ := fs_ints g0
    obtain ⟨xs2, n2, _, -, -, hlen2, hfd2⟩ := DataW.trod_struct Tryz.underlying24 g1
    match xs2, hlen2 with
    | [z0, z1, z2], _ =>
      have k0 := hfd2 0 _ rfl
      have k1 := hfd2 1 _ rfl
      have k2 := hfd2 2 _ rfl
      simp [fs_cellsI] at k0 k1 k2
      obtain ⟨q0, r0, -, -⟩ := DataW.trod_int Tryz.underlying3 k0
      obtain ⟨q1, r1, -, -⟩ := DataW.trod_int Tryz.underlying3 k1
      obtain ⟨q2, r2, -, -⟩ := DataW.trod_int Tryz.underlying3 k2
      simp only [List.cons.injEq, and_true] at r0 r1 r2
      subst e0 r0 r1 r2
      exact ⟨ia, m, ic, q0, q1, q2, I, rfl, hI⟩
end
end Go.Proofs.YtehfijijapfomaaGreat
