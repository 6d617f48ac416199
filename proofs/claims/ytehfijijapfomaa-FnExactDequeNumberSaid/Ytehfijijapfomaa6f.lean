/-
  Deques as the exact laws take, copy, compare, mark and hold them; an answer in a variable of its own.
-/
import Derived.Test.Ytehfijijapfomaa6e
import Derived.Test.Ytehfijijapfomaa6o
namespace Go.Proofs.Ytehfijijapfomaa
set_option linter.unusedSimpArgs false
set_option linter.unusedVariables false
open Go.RowKit
theorem OwnS.touch {W X : World} {lo hi lo' hi' n : Nat} {v : Value} {l : List Int} (h : OwnS W lo' hi' v n l) (ht : Touch lo hi W X) (hd : hi' ≤ lo ∨ hi ≤ lo') : OwnS X lo' hi' v n l := by
  obtain ⟨h1, h2, h3, h4⟩ := h
  refine ⟨h1, h2, Nat.le_trans h3 ht.2.2.2.1, ?_⟩
  rcases h4 with h4 | ⟨g, off, cap, hv, k1, k2, k3, k4, cur, hg, hn, hc⟩
  · exact .inl h4
  · exact .inr ⟨g, off, cap, hv, k1, k2, k3, k4, cur, touch_block hg ht (by omega), hn, hc⟩
theorem DqOwn.touch {W X : World} {lo hi lo' hi' : Nat} {v : Value} {s : Agg.Dq} (h : DqOwn W lo' hi' v s) (ht : Touch lo hi W X) (hd : hi' ≤ lo ∨ hi ≤ lo') : DqOwn X lo' hi' v s := by
  obtain ⟨iv, pv, hv, h1, h2, h3⟩ := h
  exact ⟨iv, pv, hv, h1.touch ht hd, h2.touch ht hd, h3⟩
theorem OwnS.setFar {w : World} {lo hi n d o : Nat} {v u : Value} {l : List Int} (h : OwnS w lo hi v n l) (hd : d < lo ∨ hi ≤ d) : OwnS (w.setCell ⟨d, o, none⟩ u) lo hi v n l :=
  h.kept (row := some d) ⟨rfl, rfl, rfl, by simp [World.setCell], fun k hk hne => Below.heap_setCell _ _ _ _ (fun e => hne (by rw [e]))⟩ (fun j e => by cases e; exact .inl hd)
theorem f6_size5 {wr : World} {c : Nat} (u0 u1 u2 u3 u4 : Value) : (((((wr.setCell ⟨c, 0, none⟩ u0).setCell ⟨c, 1, none⟩ u1).setCell ⟨c, 2, none⟩ u2).setCell ⟨c, 3, none⟩ u3).setCell ⟨c, 4, none⟩ u4).heap.size = wr.heap.size := by simp [World.setCell]
theorem f6_below5 {w wr : World} {c d : Nat} (h : Below d w wr) (hd : d ≤ c) (u0 u1 u2 u3 u4 : Value) :
    Below d w (((((wr.setCell ⟨c, 0, none⟩ u0).setCell ⟨c, 1, none⟩ u1).setCell ⟨c, 2, none⟩ u2).setCell ⟨c, 3, none⟩ u3).setCell ⟨c, 4, none⟩ u4) := ((((h.setCell hd u0).setCell hd u1).setCell hd u2).setCell hd u3).setCell hd u4
theorem OwnS.set5 {wr : World} {lo hi n c : Nat} {v : Value} {l : List Int} (h : OwnS wr lo hi v n l) (hd : c < lo ∨ hi ≤ c) (u0 u1 u2 u3 u4 : Value) :
    OwnS (((((wr.setCell ⟨c, 0, none⟩ u0).setCell ⟨c, 1, none⟩ u1).setCell ⟨c, 2, none⟩ u2).setCell ⟨c, 3, none⟩ u3).setCell ⟨c, 4, none⟩ u4) lo hi v n l :=
  ((((h.setFar hd).setFar hd).setFar hd).setFar hd).setFar hd
theorem OwnS.block {w : World} {lo hi n : Nat} {v : Value} {l : List Int} (h : OwnS w lo hi v n l) : ∀ g, v.ownBlock = some g → lo ≤ g ∧ g < hi := by
  intro g hg
  rcases h.2.2.2 with ⟨rfl, -⟩ | ⟨g', off, cap, rfl, k1, k2, -⟩
  · simp [Value.ownBlock] at hg
  · simp only [Value.ownBlock, Option.some.injEq] at hg
    omega
theorem OwnS.slice {w : World} {lo hi n : Nat} {v : Value} {l : List Int} (h : OwnS w lo hi v n l) : ∃ a c, v = .slice a n c := by
  obtain ⟨a, c, rfl, -⟩ := h.nums
  exact ⟨a, c, rfl⟩
/-- Rows that lie in different parts. -/
theorem parts_apart {w w' : World} {lo hi lo' hi' n n' : Nat} {v v' : Value} {l l' : List Int} (h : OwnS w lo hi v n l) (h' : OwnS w' lo' hi' v' n' l') (hd : hi ≤ lo') : v.ownBlock = none ∨ v.ownBlock ≠ v'.ownBlock := by
  cases hv : v.ownBlock with
  | none => exact .inl rfl
  | some g => exact .inr (fun e => by have := h.block g hv; have := h'.block g e.symm; omega)
theorem szIntS_any6 (a : Option Addr) (n cap : Nat) (left : Int) (w : World) (hn : n ≤ 9223372036854775807) (h0 : 0 ≤ left) (h1 : left ≤ 1048576) :
    Calls Try.prog 39 #[.slice a n cap, .int .i64 left] w fun e w' => e = .returned (.int .i64 (if left < n then -1 else left - n)) ∧ w = w' := by
  by_cases h : left < (n : Int)
  · rw [if_pos h]
    have h2 : left - (n : Int) < 0 := by omega
    go_enter Try.func39, Try.ntmps39
    go_wp2
    go_returns
    exact ⟨rfl, rfl⟩
  · rw [if_neg h]
    have h2 : ¬ (left - (n : Int) < 0) := by omega
    go_enter Try.func39, Try.ntmps39
    go_wp2
    go_returns
    exact ⟨rfl, rfl⟩
theorem szDeque_any (ia : Option Addr) (n ic : Nat) (pa : Option Addr) (m pc : Nat) (fi nx dr : Int) (w : World) (hn : n ≤ 9223372036854775807) (hm : m ≤ 9223372036854775807) :
    Calls Try.prog 14 #[.agg #[.slice ia n ic, .slice pa m pc, .int .i64 fi, .int .i64 nx, .int .i64 dr], .int .i64 1048576] w fun e w' => e = .returned (.int .i64 (if n + m ≤ 1048576 then 1048576 - (n : Int) - (m : Int) else -1)) ∧ Below w.heap.size w w' := by
  have hS := fun w => szIntS_any6 ia n ic 1048576 w hn (by omega) (by omega)
  by_cases h : (1048576 : Int) < (n : Int)
  · rw [if_neg (show ¬ n + m ≤ 1048576 by omega)]
    rw [if_pos h] at hS
    have HS := Lib.hid hS
    clear hS
    go_enter Try.func14, Try.ntmps14
    go_wp2_with fail
    refine (HS.out _).mono ?_
    rintro e w1 ⟨rfl, rfl⟩
    go_wp2_with fail
    go_returns
    exact ⟨rfl, (by first | (go_grown; done) | (refine below_drewN ?_ _; go_grown; done) | (refine (below_drewN _ ?_); go_grown; done))⟩
  · rw [if_neg h] at hS
    have HS := Lib.hid hS
    have h0 : 0 ≤ 1048576 - (n : Int) := by omega
    have h0' : ¬ (1048576 - (n : Int) < 0) := by omega
    have hT := fun w => szIntS_any6 pa m pc (1048576 - (n : Int)) w hm h0 (by omega)
    by_cases h2 : 1048576 - (n : Int) < (m : Int)
    · rw [if_neg (show ¬ n + m ≤ 1048576 by omega)]
      rw [if_pos h2] at hT
      have HT := Lib.hid hT
      clear hS hT
      go_enter Try.func14, Try.ntmps14
      go_wp2_with fail
      refine (HS.out _).mono ?_
      rintro e w1 ⟨rfl, rfl⟩
      go_wp2_with fail
      refine (HT.out _).mono ?_
      rintro e w1 ⟨rfl, rfl⟩
      go_wp2_with fail
      go_returns
      exact ⟨rfl, (by first | (go_grown; done) | (refine below_drewN ?_ _; go_grown; done) | (refine (below_drewN _ ?_); go_grown; done))⟩
    · rw [if_pos (show n + m ≤ 1048576 by omega)]
      rw [if_neg h2] at hT
      have HT := Lib.hid hT
      clear hS hT
      have h3 : ¬ (1048576 - (n : Int) - (m : Int) < 0) := by omega
      go_enter Try.func14, Try.ntmps14
      go_wp2_with fail
      refine (HS.out _).mono ?_
      rintro e w1 ⟨rfl, rfl⟩
      go_wp2_with fail
      refine (HT.out _).mono ?_
      rintro e w1 ⟨rfl, rfl⟩
      go_wp2_with fail
      go_returns
      exact ⟨rfl, (by first | (go_grown; done) | (refine below_drewN ?_ _; go_grown; done) | (refine (below_drewN _ ?_); go_grown; done))⟩
/-- A deque is made anew. -/
def MadeDq (s : Agg.Dq) (w : World) (e : Ending) (w' : World) : Prop := ∃ v, e = .returned v ∧ DqOwn w' w.heap.size w'.heap.size v s ∧ Below w.heap.size w w'
set_option maxRecDepth 8000 in
set_option maxHeartbeats 4000000 in
theorem toDeque_own (ia : Option Addr) (n ic : Nat) (pa : Option Addr) (m pc : Nat) (fi nx dr : Int) (I P : List Int) (w : World) (hI : Nums .i64 w ia n ic I) (hP : Nums .i64 w pa m pc P) (h1 : n ≤ 1048576) (h2 : m ≤ 1048576) :
    Calls Try.prog 16 #[.agg #[.slice ia n ic, .slice pa m pc, .int .i64 fi, .int .i64 nx, .int .i64 dr]] w (MadeDq ⟨I, P, fi, nx, dr⟩ w) := by
  have HIL := Lib.hid (show I.length = n from hI.1)
  have HPL := Lib.hid (show P.length = m from hP.1)
  have HI := Lib.hid hI
  have HP := Lib.hid hP
  obtain ⟨W, hW⟩ : ∃ W, W = (((w.alloc (.cells #[.slice ia n ic, .slice pa m pc, .int .i64 fi, .int .i64 nx, .int .i64 dr] 36)).alloc (.cells #[.slice none 0 0, .slice none 0 0, .int .i64 0, .int .i64 0, .int .i64 0] 39)).alloc (.cells #[.slice none 0 0, .slice none 0 0, .int .i64 0, .int .i64 0, .int .i64 0] 39)) := ⟨_, rfl⟩
  have HA := Lib.hid (show Box5 W w.heap.size 36 (.slice ia n ic) (.slice pa m pc) (.int .i64 fi) (.int .i64 nx) (.int .i64 dr) from by rw [hW]; exact ((Box5.new w _ _ _ _ _ _).alloc _).alloc _)
  have HR := Lib.hid (show Box5 W (w.heap.size + 1) 39 (.slice none 0 0) (.slice none 0 0) (.int .i64 0) (.int .i64 0) (.int .i64 0) from by rw [hW]; exact (Box5.new1 (Y := w.alloc _) _ _ _ _ _ _ (by simp)).alloc _)
  have HO := Lib.hid (show Box5 W (w.heap.size + 2) 39 (.slice none 0 0) (.slice none 0 0) (.int .i64 0) (.int .i64 0) (.int .i64 0) from by rw [hW]; exact Box5.new1 (Y := (w.alloc _).alloc _) _ _ _ _ _ _ (by simp))
  have HB := Lib.hid (show Below w.heap.size w W from by rw [hW]; exact (((Below.refl _ _).alloc (Nat.le_refl _) _).alloc (by simp) _).alloc (by simp; omega) _)
  have hbs : w.heap.size + 2 < W.heap.size := HO.out.lt
  have HBS := Lib.hid hbs
  clear hI hP hbs
  go_enter Try.func16, Try.ntmps16
  go_wp2_with fail
  rw [← hW]
  clear hW
  refine (toIntS_own _ _ _ I _ (HI.out.below HB.out) h1).mono ?_
  rintro e w1 ⟨v1, rfl, ho1, hb1⟩
  obtain ⟨a1, c1, rfl⟩ := e6_slice ho1.1
  have HA1 := Lib.hid (HA.out.call hb1)
  have HR1 := Lib.hid (HR.out.call hb1)
  have HO1 := Lib.hid (HO.out.call hb1)
  have HB1 := Lib.hid (HB.out.trans (hb1.mono HB.out.size))
  have HJ1 := Lib.hid ho1.s
  have HZ1 := Lib.hid hb1.size
  obtain ⟨q0, q1, q2, q3, q4⟩ := HA1.out.cells
  obtain ⟨p0, p1, p2, p3, p4⟩ := HO1.out.cells
  have g1 := HO1.out.free
  clear hb1 ho1 HA HR HO HB
  go_wp2_with fail
  obtain ⟨X1, hX1⟩ : ∃ X1, X1 = w1.setCell ⟨w.heap.size + 2, 0, none⟩ (.slice a1 n c1) := ⟨_, rfl⟩
  have HB2 := Lib.hid (show Below w.heap.size w X1 from by rw [hX1]; exact HB1.out.setCell (by simp) _)
  have HA2 := Lib.hid (show Box5 X1 w.heap.size 36 (.slice ia n ic) (.slice pa m pc) (.int .i64 fi) (.int .i64 nx) (.int .i64 dr) from by rw [hX1]; exact HA1.out.other (by omega) _ _)
  have HR2 := Lib.hid (show Box5 X1 (w.heap.size + 1) 39 (.slice none 0 0) (.slice none 0 0) (.int .i64 0) (.int .i64 0) (.int .i64 0) from by rw [hX1]; exact HR1.out.other (by omega) _ _)
  have HO2 := Lib.hid (show Box5 X1 (w.heap.size + 2) 39 (.slice a1 n c1) (.slice none 0 0) (.int .i64 0) (.int .i64 0) (.int .i64 0) from by rw [hX1]; exact HO1.out.set0 _)
  have HJ2 := Lib.hid (show OwnS X1 W.heap.size w1.heap.size (.slice a1 n c1) n I from by rw [hX1]; exact HJ1.out.setFar (.inl HBS.out))
  have HZ2 := Lib.hid (show w1.heap.size ≤ X1.heap.size ∧ X1.heap.size ≤ w1.heap.size from by rw [hX1]; simp [World.setCell])
  rw [← hX1]
  clear hX1 HB1 HA1 HR1 HO1 HJ1 q0 q1 q2 q3 q4 p0 p1 p2 p3 p4 g1
  refine (toIntS_own _ _ _ P _ (HP.out.below HB2.out) h2).mono ?_
  rintro e w2 ⟨v2, rfl, ho2, hb2⟩
  obtain ⟨a2, c2, rfl⟩ := e6_slice ho2.1
  have HA3 := Lib.hid (HA2.out.call hb2)
  have HR3 := Lib.hid (HR2.out.call hb2)
  have HO3 := Lib.hid (HO2.out.call hb2)
  have HB3 := Lib.hid (HB2.out.trans (hb2.mono HB2.out.size))
  have HJ3 := Lib.hid (HJ2.out.below hb2)
  have HG3 := Lib.hid ho2.s
  have HAP := Lib.hid (parts_apart HJ2.out ho2.s HZ2.out.1)
  have HZ3 := Lib.hid hb2.size
  clear hb2 ho2 HA2 HR2 HO2 HB2 HJ2
  obtain ⟨q0, q1, q2, q3, q4⟩ := HA3.out.cells
  obtain ⟨p0, p1, p2, p3, p4⟩ := HO3.out.cells
  have g2 := HO3.out.free
  go_upto_region 6 with (fail)
  obtain ⟨X2, hX2⟩ : ∃ X2, X2 = ((w2.setCell ⟨w.heap.size + 2, 1, none⟩ (.slice a2 m c2)).setCell ⟨w.heap.size + 2, 2, none⟩ (.int .i64 fi)).setCell ⟨w.heap.size + 2, 3, none⟩ (.int .i64 nx) := ⟨_, rfl⟩
  have HB4 := Lib.hid (show Below w.heap.size w X2 from by rw [hX2]; exact ((HB3.out.setCell (by simp) _).setCell (by simp) _).setCell (by simp) _)
  have HA4 := Lib.hid (show Box5 X2 w.heap.size 36 (.slice ia n ic) (.slice pa m pc) (.int .i64 fi) (.int .i64 nx) (.int .i64 dr) from by rw [hX2]; exact ((HA3.out.other (by omega) _ _).other (by omega) _ _).other (by omega) _ _)
  have HR4 := Lib.hid (show Box5 X2 (w.heap.size + 1) 39 (.slice none 0 0) (.slice none 0 0) (.int .i64 0) (.int .i64 0) (.int .i64 0) from by rw [hX2]; exact ((HR3.out.other (by omega) _ _).other (by omega) _ _).other (by omega) _ _)
  have HO4 := Lib.hid (show Box5 X2 (w.heap.size + 2) 39 (.slice a1 n c1) (.slice a2 m c2) (.int .i64 fi) (.int .i64 nx) (.int .i64 0) from by rw [hX2]; exact ((HO3.out.set1 _).set2 _).set3 _)
  have hfar : w.heap.size + 2 < X1.heap.size := by have := HZ1.out; have := HZ2.out.1; have := HBS.out; omega
  have HJ4 := Lib.hid (show OwnS X2 W.heap.size w1.heap.size (.slice a1 n c1) n I from by rw [hX2]; exact ((HJ3.out.setFar (.inl HBS.out)).setFar (.inl HBS.out)).setFar (.inl HBS.out))
  have HG4 := Lib.hid (show OwnS X2 X1.heap.size w2.heap.size (.slice a2 m c2) m P from by rw [hX2]; exact ((HG3.out.setFar (.inl hfar)).setFar (.inl hfar)).setFar (.inl hfar))
  have HF := Lib.hid hfar
  rw [← hX2]
  clear hX2 hfar HB3 HA3 HR3 HO3 HJ3 HG3 q0 q1 q2 q3 q4 p0 p1 p2 p3 p4 g2
  obtain ⟨q0, q1, q2, q3, q4⟩ := HA4.out.cells
  obtain ⟨p0, p1, p2, p3, p4⟩ := HO4.out.cells
  have g2 := HO4.out.free
  go_upto_region 7 with (fail)
  obtain ⟨X3, hX3⟩ : ∃ X3, X3 = X2.setCell ⟨w.heap.size + 2, 4, none⟩ (.int .i64 dr) := ⟨_, rfl⟩
  have HB5 := Lib.hid (show Below w.heap.size w X3 from by rw [hX3]; exact HB4.out.setCell (by simp) _)
  have HR5 := Lib.hid (show Box5 X3 (w.heap.size + 1) 39 (.slice none 0 0) (.slice none 0 0) (.int .i64 0) (.int .i64 0) (.int .i64 0) from by rw [hX3]; exact HR4.out.other (by omega) _ _)
  have HO5 := Lib.hid (show Box5 X3 (w.heap.size + 2) 39 (.slice a1 n c1) (.slice a2 m c2) (.int .i64 fi) (.int .i64 nx) (.int .i64 dr) from by rw [hX3]; exact HO4.out.set4 _)
  have HJ5 := Lib.hid (show OwnS X3 W.heap.size w1.heap.size (.slice a1 n c1) n I from by rw [hX3]; exact HJ4.out.setFar (.inl HBS.out))
  have HG5 := Lib.hid (show OwnS X3 X1.heap.size w2.heap.size (.slice a2 m c2) m P from by rw [hX3]; exact HG4.out.setFar (.inl HF.out))
  rw [← hX3]
  clear hX3 HB4 HA4 HR4 HO4 HJ4 HG4 q0 q1 q2 q3 q4 p0 p1 p2 p3 p4 g2
  obtain ⟨p0, p1, p2, p3, p4⟩ := HO5.out.cells
  obtain ⟨r0, r1, r2, r3, r4⟩ := HR5.out.cells
  have g3 := HR5.out.free
  go_wp2_with fail
  refine bodyPost_ret (by simp [results, Try.results16, go_sem, *]; try rfl) rfl ?_
  have hi2 := HIL.out
  have hp2 := HPL.out
  subst hi2
  subst hp2
  have hWW := f6_below5 (c := w.heap.size + 1) HB5.out (by omega) (.slice a1 I.length c1) (.slice a2 P.length c2) (.int .i64 fi) (.int .i64 nx) (.int .i64 dr)
  have k1 := HBS.out
  have k2 := HF.out
  have k3 := HZ1.out
  have k4 := HZ2.out
  have k5 := HZ3.out
  have hJJ := HJ5.out.set5 (c := w.heap.size + 1) (.inl (by omega)) (.slice a1 I.length c1) (.slice a2 P.length c2) (.int .i64 fi) (.int .i64 nx) (.int .i64 dr)
  have hGG := HG5.out.set5 (c := w.heap.size + 1) (.inl (by omega)) (.slice a1 I.length c1) (.slice a2 P.length c2) (.int .i64 fi) (.int .i64 nx) (.int .i64 dr)
  refine ⟨_, rfl, ⟨_, _, rfl, hJJ.wide (by omega) hJJ.2.2.1 (Nat.le_refl _), hGG.wide (by omega) hGG.2.2.1 (Nat.le_refl _), HAP.out⟩, hWW⟩
set_option maxRecDepth 8000 in
set_option maxHeartbeats 4000000 in
theorem eqDeque_own {lo hi lo' hi' : Nat} {v v' : Value} {s : Agg.Dq} (w : World) (h : DqOwn w lo hi v s) (h' : DqOwn w lo' hi' v' s) :
    Calls Try.prog 18 #[v, v'] w fun e w' => e = .returned (.bool true) ∧ Below w.heap.size w w' := by
  obtain ⟨ia, ic, pa, pc, rfl, hI, hP⟩ := h.read
  obtain ⟨ia', ic', pa', pc', rfl, hI', hP'⟩ := h'.read
  obtain ⟨I, P, fi, nx, dr⟩ := s
  simp only at hI hI' hP hP'
  have HI := Lib.hid hI
  have HI' := Lib.hid hI'
  have HP := Lib.hid hP
  have HP' := Lib.hid hP'
  clear h h' hI hI' hP hP'
  obtain ⟨n, hn⟩ : ∃ n, n = I.length := ⟨_, rfl⟩
  obtain ⟨m, hm⟩ : ∃ m, m = P.length := ⟨_, rfl⟩
  rw [← hn] at HI HI'
  rw [← hm] at HP HP'
  simp only [← hn, ← hm]
  clear hm hn
  obtain ⟨W, hW⟩ : ∃ W, W = ((w.alloc (.cells #[.slice ia n ic, .slice pa m pc, .int .i64 fi, .int .i64 nx, .int .i64 dr] 39)).alloc (.cells #[.slice ia' n ic', .slice pa' m pc', .int .i64 fi, .int .i64 nx, .int .i64 dr] 39)) := ⟨_, rfl⟩
  have HA := Lib.hid (show Box5 W w.heap.size 39 (.slice ia n ic) (.slice pa m pc) (.int .i64 fi) (.int .i64 nx) (.int .i64 dr) from by rw [hW]; exact (Box5.new w _ _ _ _ _ _).alloc _)
  have HR := Lib.hid (show Box5 W (w.heap.size + 1) 39 (.slice ia' n ic') (.slice pa' m pc') (.int .i64 fi) (.int .i64 nx) (.int .i64 dr) from by rw [hW]; exact Box5.new1 (Y := w.alloc _) _ _ _ _ _ _ (by simp))
  have HB := Lib.hid (show Below w.heap.size w W from by rw [hW]; exact ((Below.refl _ _).alloc (Nat.le_refl _) _).alloc (by simp) _)
  go_enter Try.func18, Try.ntmps18
  go_wp2_with fail
  rw [← hW]
  clear hW
  refine (eqIntS_same _ _ _ _ _ _ I _ (HI.out.below HB.out) (HI'.out.below HB.out)).mono ?_
  rintro e w1 ⟨rfl, hb1⟩
  have HA1 := Lib.hid (HA.out.call hb1)
  have HR1 := Lib.hid (HR.out.call hb1)
  have HB1 := Lib.hid (HB.out.trans (hb1.mono HB.out.size))
  obtain ⟨q0, q1, q2, q3, q4⟩ := HA1.out.cells
  obtain ⟨r0, r1, r2, r3, r4⟩ := HR1.out.cells
  clear hb1 HA HR HB
  go_wp2_with fail
  refine (eqIntS_same _ _ _ _ _ _ P _ (HP.out.below HB1.out) (HP'.out.below HB1.out)).mono ?_
  rintro e w2 ⟨rfl, hb2⟩
  have HA2 := Lib.hid (HA1.out.call hb2)
  have HR2 := Lib.hid (HR1.out.call hb2)
  have HB2 := Lib.hid (HB1.out.trans (hb2.mono HB1.out.size))
  clear hb2 q0 q1 q2 q3 q4 r0 r1 r2 r3 r4
  obtain ⟨q0, q1, q2, q3, q4⟩ := HA2.out.cells
  obtain ⟨r0, r1, r2, r3, r4⟩ := HR2.out.cells
  go_wp2_with fail
  go_returns
  exact ⟨rfl, HB2.out⟩
end Go.Proofs.Ytehfijijapfomaa
