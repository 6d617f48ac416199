/-
  The model's change of stacks, whole: where it is refused; StacksStep in the model.
-/
import Derived.Test.YticoalgnkddapaaGreat3k
import Derived.Test.YticoalgnkddapaaGreat3t
namespace Go.Proofs.YticoalgnkddapaaGreat
set_option linter.unusedSimpArgs false
set_option linter.unusedVariables false
open Go.RowKit
/-- A change is refused: the stacks themselves. -/
def RefusedStk (v : Value) (w : World) (e : Ending) (w' : World) : Prop := e = .returned (.tuple #[v, .bool false]) ∧ Below w.heap.size w w'
set_option maxRecDepth 8000 in
set_option maxHeartbeats 2000000 in
theorem s_l3Step_item (k : Int) (fa : Option Addr) (fn fc : Nat) (ia : Option Addr) (m ic : Nat) (bx by' bz fl co : Int) (F : List Agg.V) (I : List Int) (x : Int) (w : World) (hF : Vals w fa fn fc F) (hI : Nums .i64 w ia m ic I) (hok : Agg.sOk k ⟨F, I, ⟨bx, by', bz⟩, fl, co⟩ = true) (hx : Agg.isItem x = false) :
    Calls Tryz.prog 44 #[.int .i64 k, .agg #[.slice fa fn fc, .slice ia m ic, .int .i64 bx, .int .i64 by', .int .i64 bz, .int .i64 fl, .int .i64 co], .agg #[.bool true, .int .i64 x]] w (RefusedStk (.agg #[.slice fa fn fc, .slice ia m ic, .int .i64 bx, .int .i64 by', .int .i64 bz, .int .i64 fl, .int .i64 co]) w) := by
  have hFl : F.length = fn := hF.1
  have hIl : I.length = m := hI.1
  have HF := Lib.hid hF
  have HI := Lib.hid hI
  have hsz60 : fn + m ≤ 60 := by have := (Agg.sOk_parts hok).2.1; simp [Agg.S.size] at this; omega
  have hco : co ≤ 1000000 := (Agg.sOk_bounds hok).2.2.2
  have HXH := Lib.hid hx
  clear hF hI hok hFl hIl hco hx
  obtain ⟨W, hW⟩ : ∃ W, W = ((w.alloc (.cells #[.slice fa fn fc, .slice ia m ic, .int .i64 bx, .int .i64 by', .int .i64 bz, .int .i64 fl, .int .i64 co] 31)).alloc (.cells #[.bool true, .int .i64 x] 43)).alloc (.cells #[.slice none 0 0, .slice none 0 0, .int .i64 0, .int .i64 0, .int .i64 0, .int .i64 0, .int .i64 0] 31) := ⟨_, rfl⟩
  have HA := Lib.hid (show Box7 W w.heap.size 31 (.slice fa fn fc) (.slice ia m ic) (.int .i64 bx) (.int .i64 by') (.int .i64 bz) (.int .i64 fl) (.int .i64 co) from by rw [hW]; exact ((Box7.new w _ _ _ _ _ _ _ _).alloc _).alloc _)
  have HP := Lib.hid (show Box2 W (w.heap.size + 1) 43 (.bool true) (.int .i64 x) from by rw [hW]; exact (Box2.new1 _ _ _ (by simp)).alloc _)
  have HR := Lib.hid (show Box7 W (w.heap.size + 1 + 1) 31 (.slice none 0 0) (.slice none 0 0) (.int .i64 0) (.int .i64 0) (.int .i64 0) (.int .i64 0) (.int .i64 0) from by rw [hW]; exact Box7.new1 _ _ _ _ _ _ _ _ (by simp))
  have HB := Lib.hid (show Below w.heap.size w W from by rw [hW]; exact (((Below.refl _ _).alloc (Nat.le_refl _) _).alloc (by simp) _).alloc (by simp; omega) _)
  go_enter Tryz.func44, Tryz.ntmps44
  go_wp2_with fail
  rw [← hW]
  clear hW
  refine (s_l3Copy_any fa fn fc ia m ic bx by' bz fl co F I _ (HF.out.below HB.out) (HI.out.below HB.out) (by omega) (by omega)).mono ?_
  rintro e w1 ⟨v, rfl, hown, hb1⟩
  obtain ⟨ga, gc, ja, jc, rfl, -, -⟩ := hown.read
  simp only at *
  have HA1 := Lib.hid (HA.out.call hb1)
  have HP1 := Lib.hid (HP.out.call hb1)
  have HR1 := Lib.hid (HR.out.call hb1)
  have HB1 := Lib.hid (HB.out.trans (hb1.mono HB.out.size))
  clear hb1 hown HA HP HR HB
  obtain ⟨W2, hW2⟩ : ∃ W2, W2 = w1.alloc (.cells #[.slice ga F.length gc, .slice ja I.length jc, .int .i64 bx, .int .i64 by', .int .i64 bz, .int .i64 fl, .int .i64 co] 31) := ⟨_, rfl⟩
  have HA2 := Lib.hid (show Box7 W2 w.heap.size 31 (.slice fa fn fc) (.slice ia m ic) (.int .i64 bx) (.int .i64 by') (.int .i64 bz) (.int .i64 fl) (.int .i64 co) from by rw [hW2]; exact HA1.out.alloc _)
  have HP2 := Lib.hid (show Box2 W2 (w.heap.size + 1) 43 (.bool true) (.int .i64 x) from by rw [hW2]; exact HP1.out.alloc _)
  have HR2 := Lib.hid (show Box7 W2 (w.heap.size + 1 + 1) 31 (.slice none 0 0) (.slice none 0 0) (.int .i64 0) (.int .i64 0) (.int .i64 0) (.int .i64 0) (.int .i64 0) from by rw [hW2]; exact HR1.out.alloc _)
  have HB2 := Lib.hid (show Below w.heap.size w W2 from by rw [hW2]; exact HB1.out.alloc HB1.out.size _)
  obtain ⟨p0, p1⟩ := HP1.out.cells
  have hl1 := HR1.out.lt
  have hl2 : w.heap.size + 1 < w1.heap.size := by omega
  go_upto_region 2 with (fail)
  rw [← hW2]
  clear hW2 HA1 HP1 HR1 HB1 p0 p1 hl1 hl2
  obtain ⟨p0, p1⟩ := HP2.out.cells
  obtain ⟨q0, q1, q2, q3, q4, q5, q6⟩ := HA2.out.cells
  obtain ⟨s0, s1, s2, s3, s4, s5, s6⟩ := HR2.out.cells
  have e0 := HR2.out.free
  have hwr2 : IntKind.i64.wrap ((fn : Int) + (m : Int)) = (fn : Int) + (m : Int) := IntWalk.i64_in _ (by omega)
  have hx := HXH.out
  (try have hszI : (60 : Int) ≤ (fn : Int) + (m : Int) := by omega)
  (try have hszZ : (fn : Int) + (m : Int) = 0 := by omega)
  go_wp2_with fail
  (try (refine (s_in_item _ _).mono ?_; rintro e wk ⟨rfl, rfl⟩; rw [hx]; go_wp2_with fail))
  refine bodyPost_ret (by simp [results, Tryz.results44, go_sem, *]; try rfl) rfl ?_
  exact ⟨rfl, ((((((HB2.out.setCell (by simp <;> omega) _).setCell (by simp <;> omega) _).setCell (by simp <;> omega) _).setCell (by simp <;> omega) _).setCell (by simp <;> omega) _).setCell (by simp <;> omega) _).setCell (by simp <;> omega) _⟩
set_option maxRecDepth 8000 in
set_option maxHeartbeats 2000000 in
theorem s_l3Step_full (k : Int) (fa : Option Addr) (fn fc : Nat) (ia : Option Addr) (m ic : Nat) (bx by' bz fl co : Int) (F : List Agg.V) (I : List Int) (x : Int) (w : World) (hF : Vals w fa fn fc F) (hI : Nums .i64 w ia m ic I) (hok : Agg.sOk k ⟨F, I, ⟨bx, by', bz⟩, fl, co⟩ = true) (hx : Agg.isItem x = true) (hsz : 60 ≤ fn + m) :
    Calls Tryz.prog 44 #[.int .i64 k, .agg #[.slice fa fn fc, .slice ia m ic, .int .i64 bx, .int .i64 by', .int .i64 bz, .int .i64 fl, .int .i64 co], .agg #[.bool true, .int .i64 x]] w (RefusedStk (.agg #[.slice fa fn fc, .slice ia m ic, .int .i64 bx, .int .i64 by', .int .i64 bz, .int .i64 fl, .int .i64 co]) w) := by
  have hFl : F.length = fn := hF.1
  have hIl : I.length = m := hI.1
  have HF := Lib.hid hF
  have HI := Lib.hid hI
  have hsz60 : fn + m ≤ 60 := by have := (Agg.sOk_parts hok).2.1; simp [Agg.S.size] at this; omega
  have hco : co ≤ 1000000 := (Agg.sOk_bounds hok).2.2.2
  have HXH := Lib.hid hx
  clear hF hI hok hFl hIl hco hx
  obtain ⟨W, hW⟩ : ∃ W, W = ((w.alloc (.cells #[.slice fa fn fc, .slice ia m ic, .int .i64 bx, .int .i64 by', .int .i64 bz, .int .i64 fl, .int .i64 co] 31)).alloc (.cells #[.bool true, .int .i64 x] 43)).alloc (.cells #[.slice none 0 0, .slice none 0 0, .int .i64 0, .int .i64 0, .int .i64 0, .int .i64 0, .int .i64 0] 31) := ⟨_, rfl⟩
  have HA := Lib.hid (show Box7 W w.heap.size 31 (.slice fa fn fc) (.slice ia m ic) (.int .i64 bx) (.int .i64 by') (.int .i64 bz) (.int .i64 fl) (.int .i64 co) from by rw [hW]; exact ((Box7.new w _ _ _ _ _ _ _ _).alloc _).alloc _)
  have HP := Lib.hid (show Box2 W (w.heap.size + 1) 43 (.bool true) (.int .i64 x) from by rw [hW]; exact (Box2.new1 _ _ _ (by simp)).alloc _)
  have HR := Lib.hid (show Box7 W (w.heap.size + 1 + 1) 31 (.slice none 0 0) (.slice none 0 0) (.int .i64 0) (.int .i64 0) (.int .i64 0) (.int .i64 0) (.int .i64 0) from by rw [hW]; exact Box7.new1 _ _ _ _ _ _ _ _ (by simp))
  have HB := Lib.hid (show Below w.heap.size w W from by rw [hW]; exact (((Below.refl _ _).alloc (Nat.le_refl _) _).alloc (by simp) _).alloc (by simp; omega) _)
  go_enter Tryz.func44, Tryz.ntmps44
  go_wp2_with fail
  rw [← hW]
  clear hW
  refine (s_l3Copy_any fa fn fc ia m ic bx by' bz fl co F I _ (HF.out.below HB.out) (HI.out.below HB.out) (by omega) (by omega)).mono ?_
  rintro e w1 ⟨v, rfl, hown, hb1⟩
  obtain ⟨ga, gc, ja, jc, rfl, -, -⟩ := hown.read
  simp only at *
  have HA1 := Lib.hid (HA.out.call hb1)
  have HP1 := Lib.hid (HP.out.call hb1)
  have HR1 := Lib.hid (HR.out.call hb1)
  have HB1 := Lib.hid (HB.out.trans (hb1.mono HB.out.size))
  clear hb1 hown HA HP HR HB
  obtain ⟨W2, hW2⟩ : ∃ W2, W2 = w1.alloc (.cells #[.slice ga F.length gc, .slice ja I.length jc, .int .i64 bx, .int .i64 by', .int .i64 bz, .int .i64 fl, .int .i64 co] 31) := ⟨_, rfl⟩
  have HA2 := Lib.hid (show Box7 W2 w.heap.size 31 (.slice fa fn fc) (.slice ia m ic) (.int .i64 bx) (.int .i64 by') (.int .i64 bz) (.int .i64 fl) (.int .i64 co) from by rw [hW2]; exact HA1.out.alloc _)
  have HP2 := Lib.hid (show Box2 W2 (w.heap.size + 1) 43 (.bool true) (.int .i64 x) from by rw [hW2]; exact HP1.out.alloc _)
  have HR2 := Lib.hid (show Box7 W2 (w.heap.size + 1 + 1) 31 (.slice none 0 0) (.slice none 0 0) (.int .i64 0) (.int .i64 0) (.int .i64 0) (.int .i64 0) (.int .i64 0) from by rw [hW2]; exact HR1.out.alloc _)
  have HB2 := Lib.hid (show Below w.heap.size w W2 from by rw [hW2]; exact HB1.out.alloc HB1.out.size _)
  obtain ⟨p0, p1⟩ := HP1.out.cells
  have hl1 := HR1.out.lt
  have hl2 : w.heap.size + 1 < w1.heap.size := by omega
  go_upto_region 2 with (fail)
  rw [← hW2]
  clear hW2 HA1 HP1 HR1 HB1 p0 p1 hl1 hl2
  obtain ⟨p0, p1⟩ := HP2.out.cells
  obtain ⟨q0, q1, q2, q3, q4, q5, q6⟩ := HA2.out.cells
  obtain ⟨s0, s1, s2, s3, s4, s5, s6⟩ := HR2.out.cells
  have e0 := HR2.out.free
  have hwr2 : IntKind.i64.wrap ((fn : Int) + (m : Int)) = (fn : Int) + (m : Int) := IntWalk.i64_in _ (by omega)
  have hx := HXH.out
  (try have hszI : (60 : Int) ≤ (fn : Int) + (m : Int) := by omega)
  (try have hszZ : (fn : Int) + (m : Int) = 0 := by omega)
  go_wp2_with fail
  (try (refine (s_in_item _ _).mono ?_; rintro e wk ⟨rfl, rfl⟩; rw [hx]; go_wp2_with fail))
  refine bodyPost_ret (by simp [results, Tryz.results44, go_sem, *]; try rfl) rfl ?_
  exact ⟨rfl, ((((((HB2.out.setCell (by simp <;> omega) _).setCell (by simp <;> omega) _).setCell (by simp <;> omega) _).setCell (by simp <;> omega) _).setCell (by simp <;> omega) _).setCell (by simp <;> omega) _).setCell (by simp <;> omega) _⟩
set_option maxRecDepth 8000 in
set_option maxHeartbeats 2000000 in
theorem s_l3Step_some (k : Int) (fa : Option Addr) (fn fc : Nat) (ia : Option Addr) (m ic : Nat) (bx by' bz fl co : Int) (F : List Agg.V) (I : List Int) (x : Int) (w : World) (hF : Vals w fa fn fc F) (hI : Nums .i64 w ia m ic I) (hok : Agg.sOk k ⟨F, I, ⟨bx, by', bz⟩, fl, co⟩ = true) (hx : ¬ x = 0) :
    Calls Tryz.prog 44 #[.int .i64 k, .agg #[.slice fa fn fc, .slice ia m ic, .int .i64 bx, .int .i64 by', .int .i64 bz, .int .i64 fl, .int .i64 co], .agg #[.bool false, .int .i64 x]] w (RefusedStk (.agg #[.slice fa fn fc, .slice ia m ic, .int .i64 bx, .int .i64 by', .int .i64 bz, .int .i64 fl, .int .i64 co]) w) := by
  have hFl : F.length = fn := hF.1
  have hIl : I.length = m := hI.1
  have HF := Lib.hid hF
  have HI := Lib.hid hI
  have hsz60 : fn + m ≤ 60 := by have := (Agg.sOk_parts hok).2.1; simp [Agg.S.size] at this; omega
  have hco : co ≤ 1000000 := (Agg.sOk_bounds hok).2.2.2
  have HXH := Lib.hid hx
  clear hF hI hok hFl hIl hco hx
  obtain ⟨W, hW⟩ : ∃ W, W = ((w.alloc (.cells #[.slice fa fn fc, .slice ia m ic, .int .i64 bx, .int .i64 by', .int .i64 bz, .int .i64 fl, .int .i64 co] 31)).alloc (.cells #[.bool false, .int .i64 x] 43)).alloc (.cells #[.slice none 0 0, .slice none 0 0, .int .i64 0, .int .i64 0, .int .i64 0, .int .i64 0, .int .i64 0] 31) := ⟨_, rfl⟩
  have HA := Lib.hid (show Box7 W w.heap.size 31 (.slice fa fn fc) (.slice ia m ic) (.int .i64 bx) (.int .i64 by') (.int .i64 bz) (.int .i64 fl) (.int .i64 co) from by rw [hW]; exact ((Box7.new w _ _ _ _ _ _ _ _).alloc _).alloc _)
  have HP := Lib.hid (show Box2 W (w.heap.size + 1) 43 (.bool false) (.int .i64 x) from by rw [hW]; exact (Box2.new1 _ _ _ (by simp)).alloc _)
  have HR := Lib.hid (show Box7 W (w.heap.size + 1 + 1) 31 (.slice none 0 0) (.slice none 0 0) (.int .i64 0) (.int .i64 0) (.int .i64 0) (.int .i64 0) (.int .i64 0) from by rw [hW]; exact Box7.new1 _ _ _ _ _ _ _ _ (by simp))
  have HB := Lib.hid (show Below w.heap.size w W from by rw [hW]; exact (((Below.refl _ _).alloc (Nat.le_refl _) _).alloc (by simp) _).alloc (by simp; omega) _)
  go_enter Tryz.func44, Tryz.ntmps44
  go_wp2_with fail
  rw [← hW]
  clear hW
  refine (s_l3Copy_any fa fn fc ia m ic bx by' bz fl co F I _ (HF.out.below HB.out) (HI.out.below HB.out) (by omega) (by omega)).mono ?_
  rintro e w1 ⟨v, rfl, hown, hb1⟩
  obtain ⟨ga, gc, ja, jc, rfl, -, -⟩ := hown.read
  simp only at *
  have HA1 := Lib.hid (HA.out.call hb1)
  have HP1 := Lib.hid (HP.out.call hb1)
  have HR1 := Lib.hid (HR.out.call hb1)
  have HB1 := Lib.hid (HB.out.trans (hb1.mono HB.out.size))
  clear hb1 hown HA HP HR HB
  obtain ⟨W2, hW2⟩ : ∃ W2, W2 = w1.alloc (.cells #[.slice ga F.length gc, .slice ja I.length jc, .int .i64 bx, .int .i64 by', .int .i64 bz, .int .i64 fl, .int .i64 co] 31) := ⟨_, rfl⟩
  have HA2 := Lib.hid (show Box7 W2 w.heap.size 31 (.slice fa fn fc) (.slice ia m ic) (.int .i64 bx) (.int .i64 by') (.int .i64 bz) (.int .i64 fl) (.int .i64 co) from by rw [hW2]; exact HA1.out.alloc _)
  have HP2 := Lib.hid (show Box2 W2 (w.heap.size + 1) 43 (.bool false) (.int .i64 x) from by rw [hW2]; exact HP1.out.alloc _)
  have HR2 := Lib.hid (show Box7 W2 (w.heap.size + 1 + 1) 31 (.slice none 0 0) (.slice none 0 0) (.int .i64 0) (.int .i64 0) (.int .i64 0) (.int .i64 0) (.int .i64 0) from by rw [hW2]; exact HR1.out.alloc _)
  have HB2 := Lib.hid (show Below w.heap.size w W2 from by rw [hW2]; exact HB1.out.alloc HB1.out.size _)
  obtain ⟨p0, p1⟩ := HP1.out.cells
  have hl1 := HR1.out.lt
  have hl2 : w.heap.size + 1 < w1.heap.size := by omega
  go_upto_region 2 with (fail)
  rw [← hW2]
  clear hW2 HA1 HP1 HR1 HB1 p0 p1 hl1 hl2
  obtain ⟨p0, p1⟩ := HP2.out.cells
  obtain ⟨q0, q1, q2, q3, q4, q5, q6⟩ := HA2.out.cells
  obtain ⟨s0, s1, s2, s3, s4, s5, s6⟩ := HR2.out.cells
  have e0 := HR2.out.free
  have hwr2 : IntKind.i64.wrap ((fn : Int) + (m : Int)) = (fn : Int) + (m : Int) := IntWalk.i64_in _ (by omega)
  have hx := HXH.out
  (try have hszI : (60 : Int) ≤ (fn : Int) + (m : Int) := by omega)
  (try have hszZ : (fn : Int) + (m : Int) = 0 := by omega)
  go_wp2_with fail
  (try (refine (s_in_item _ _).mono ?_; rintro e wk ⟨rfl, rfl⟩; rw [hx]; go_wp2_with fail))
  refine bodyPost_ret (by simp [results, Tryz.results44, go_sem, *]; try rfl) rfl ?_
  exact ⟨rfl, ((((((HB2.out.setCell (by simp <;> omega) _).setCell (by simp <;> omega) _).setCell (by simp <;> omega) _).setCell (by simp <;> omega) _).setCell (by simp <;> omega) _).setCell (by simp <;> omega) _).setCell (by simp <;> omega) _⟩
set_option maxRecDepth 8000 in
set_option maxHeartbeats 2000000 in
theorem s_l3Step_none (k : Int) (fa : Option Addr) (fn fc : Nat) (ia : Option Addr) (m ic : Nat) (bx by' bz fl co : Int) (F : List Agg.V) (I : List Int) (x : Int) (w : World) (hF : Vals w fa fn fc F) (hI : Nums .i64 w ia m ic I) (hok : Agg.sOk k ⟨F, I, ⟨bx, by', bz⟩, fl, co⟩ = true) (hx : x = 0) (hsz : fn + m = 0) :
    Calls Tryz.prog 44 #[.int .i64 k, .agg #[.slice fa fn fc, .slice ia m ic, .int .i64 bx, .int .i64 by', .int .i64 bz, .int .i64 fl, .int .i64 co], .agg #[.bool false, .int .i64 x]] w (RefusedStk (.agg #[.slice fa fn fc, .slice ia m ic, .int .i64 bx, .int .i64 by', .int .i64 bz, .int .i64 fl, .int .i64 co]) w) := by
  have hFl : F.length = fn := hF.1
  have hIl : I.length = m := hI.1
  have HF := Lib.hid hF
  have HI := Lib.hid hI
  have hsz60 : fn + m ≤ 60 := by have := (Agg.sOk_parts hok).2.1; simp [Agg.S.size] at this; omega
  have hco : co ≤ 1000000 := (Agg.sOk_bounds hok).2.2.2
  have HXH := Lib.hid hx
  clear hF hI hok hFl hIl hco hx
  obtain ⟨W, hW⟩ : ∃ W, W = ((w.alloc (.cells #[.slice fa fn fc, .slice ia m ic, .int .i64 bx, .int .i64 by', .int .i64 bz, .int .i64 fl, .int .i64 co] 31)).alloc (.cells #[.bool false, .int .i64 x] 43)).alloc (.cells #[.slice none 0 0, .slice none 0 0, .int .i64 0, .int .i64 0, .int .i64 0, .int .i64 0, .int .i64 0] 31) := ⟨_, rfl⟩
  have HA := Lib.hid (show Box7 W w.heap.size 31 (.slice fa fn fc) (.slice ia m ic) (.int .i64 bx) (.int .i64 by') (.int .i64 bz) (.int .i64 fl) (.int .i64 co) from by rw [hW]; exact ((Box7.new w _ _ _ _ _ _ _ _).alloc _).alloc _)
  have HP := Lib.hid (show Box2 W (w.heap.size + 1) 43 (.bool false) (.int .i64 x) from by rw [hW]; exact (Box2.new1 _ _ _ (by simp)).alloc _)
  have HR := Lib.hid (show Box7 W (w.heap.size + 1 + 1) 31 (.slice none 0 0) (.slice none 0 0) (.int .i64 0) (.int .i64 0) (.int .i64 0) (.int .i64 0) (.int .i64 0) from by rw [hW]; exact Box7.new1 _ _ _ _ _ _ _ _ (by simp))
  have HB := Lib.hid (show Below w.heap.size w W from by rw [hW]; exact (((Below.refl _ _).alloc (Nat.le_refl _) _).alloc (by simp) _).alloc (by simp; omega) _)
  go_enter Tryz.func44, Tryz.ntmps44
  go_wp2_with fail
  rw [← hW]
  clear hW
  refine (s_l3Copy_any fa fn fc ia m ic bx by' bz fl co F I _ (HF.out.below HB.out) (HI.out.below HB.out) (by omega) (by omega)).mono ?_
  rintro e w1 ⟨v, rfl, hown, hb1⟩
  obtain ⟨ga, gc, ja, jc, rfl, -, -⟩ := hown.read
  simp only at *
  have HA1 := Lib.hid (HA.out.call hb1)
  have HP1 := Lib.hid (HP.out.call hb1)
  have HR1 := Lib.hid (HR.out.call hb1)
  have HB1 := Lib.hid (HB.out.trans (hb1.mono HB.out.size))
  clear hb1 hown HA HP HR HB
  obtain ⟨W2, hW2⟩ : ∃ W2, W2 = w1.alloc (.cells #[.slice ga F.length gc, .slice ja I.length jc, .int .i64 bx, .int .i64 by', .int .i64 bz, .int .i64 fl, .int .i64 co] 31) := ⟨_, rfl⟩
  have HA2 := Lib.hid (show Box7 W2 w.heap.size 31 (.slice fa fn fc) (.slice ia m ic) (.int .i64 bx) (.int .i64 by') (.int .i64 bz) (.int .i64 fl) (.int .i64 co) from by rw [hW2]; exact HA1.out.alloc _)
  have HP2 := Lib.hid (show Box2 W2 (w.heap.size + 1) 43 (.bool false) (.int .i64 x) from by rw [hW2]; exact HP1.out.alloc _)
  have HR2 := Lib.hid (show Box7 W2 (w.heap.size + 1 + 1) 31 (.slice none 0 0) (.slice none 0 0) (.int .i64 0) (.int .i64 0) (.int .i64 0) (.int .i64 0) (.int .i64 0) from by rw [hW2]; exact HR1.out.alloc _)
  have HB2 := Lib.hid (show Below w.heap.size w W2 from by rw [hW2]; exact HB1.out.alloc HB1.out.size _)
  obtain ⟨p0, p1⟩ := HP1.out.cells
  have hl1 := HR1.out.lt
  have hl2 : w.heap.size + 1 < w1.heap.size := by omega
  go_upto_region 2 with (fail)
  rw [← hW2]
  clear hW2 HA1 HP1 HR1 HB1 p0 p1 hl1 hl2
  obtain ⟨p0, p1⟩ := HP2.out.cells
  obtain ⟨q0, q1, q2, q3, q4, q5, q6⟩ := HA2.out.cells
  obtain ⟨s0, s1, s2, s3, s4, s5, s6⟩ := HR2.out.cells
  have e0 := HR2.out.free
  have hwr2 : IntKind.i64.wrap ((fn : Int) + (m : Int)) = (fn : Int) + (m : Int) := IntWalk.i64_in _ (by omega)
  have hx := HXH.out
  (try have hszI : (60 : Int) ≤ (fn : Int) + (m : Int) := by omega)
  (try have hszZ : (fn : Int) + (m : Int) = 0 := by omega)
  go_wp2_with fail
  (try (refine (s_in_item _ _).mono ?_; rintro e wk ⟨rfl, rfl⟩; rw [hx]; go_wp2_with fail))
  refine bodyPost_ret (by simp [results, Tryz.results44, go_sem, *]; try rfl) rfl ?_
  exact ⟨rfl, ((((((HB2.out.setCell (by simp <;> omega) _).setCell (by simp <;> omega) _).setCell (by simp <;> omega) _).setCell (by simp <;> omega) _).setCell (by simp <;> omega) _).setCell (by simp <;> omega) _).setCell (by simp <;> omega) _⟩
/-- A change of valid stacks in the model, whole. -/
def ChangedStk (b : Bool) (v : Value) (s : Agg.S) (w : World) (e : Ending) (w' : World) : Prop :=
  (b = true → SteppedStk s w e w') ∧ (b = false → RefusedStk v w e w')
theorem s_l3Step_any (k : Int) (fa : Option Addr) (fn fc : Nat) (ia : Option Addr) (m ic : Nat) (bx by' bz fl co : Int) (F : List Agg.V) (I : List Int) (p : Bool) (x : Int) (w : World) (hF : Vals w fa fn fc F) (hI : Nums .i64 w ia m ic I) (hok : Agg.sOk k ⟨F, I, ⟨bx, by', bz⟩, fl, co⟩ = true) :
    Calls Tryz.prog 44 #[.int .i64 k, .agg #[.slice fa fn fc, .slice ia m ic, .int .i64 bx, .int .i64 by', .int .i64 bz, .int .i64 fl, .int .i64 co], .agg #[.bool p, .int .i64 x]] w (ChangedStk (Agg.can (p, x) (Agg.S.size ⟨F, I, ⟨bx, by', bz⟩, fl, co⟩)) (.agg #[.slice fa fn fc, .slice ia m ic, .int .i64 bx, .int .i64 by', .int .i64 bz, .int .i64 fl, .int .i64 co]) (Agg.stepS k ⟨F, I, ⟨bx, by', bz⟩, fl, co⟩ (p, x)) w) := by
  have hFl : F.length = fn := hF.1
  have hIl : I.length = m := hI.1
  have hsz : (Agg.S.size ⟨F, I, ⟨bx, by', bz⟩, fl, co⟩) = fn + m := by simp [Agg.S.size, hFl, hIl]
  cases p
  · by_cases hx : x = 0
    · by_cases h0 : fn + m = 0
      · have e : Agg.can (false, x) (Agg.S.size ⟨F, I, ⟨bx, by', bz⟩, fl, co⟩) = false := by rw [hsz]; simp [Agg.can, h0]
        rw [e]
        exact (s_l3Step_none k fa fn fc ia m ic bx by' bz fl co F I x w hF hI hok hx h0).mono fun e w' h => ⟨fun hb => (by cases hb), fun _ => h⟩
      · have e : Agg.can (false, x) (Agg.S.size ⟨F, I, ⟨bx, by', bz⟩, fl, co⟩) = true := by rw [hsz]; simp [Agg.can, Agg.opOk, hx]; omega
        rw [e]
        subst hx
        by_cases hf : fn = 0
        · have hs : Agg.stepS k ⟨F, I, ⟨bx, by', bz⟩, fl, co⟩ (false, 0) = Agg.popS (Agg.flipS k ⟨F, I, ⟨bx, by', bz⟩, fl, co⟩) := by simp [Agg.stepS, Agg.readyS, hFl, hf]
          rw [hs]
          exact (s_l3Step_flip k fa fn fc ia m ic bx by' bz fl co F I w hF hI hok hf (by omega)).mono fun e w' h => ⟨fun _ => h, fun hb => (by cases hb)⟩
        · have hs : Agg.stepS k ⟨F, I, ⟨bx, by', bz⟩, fl, co⟩ (false, 0) = Agg.popS ⟨F, I, ⟨bx, by', bz⟩, fl, co⟩ := by simp [Agg.stepS, Agg.readyS, hFl, hf]
          rw [hs]
          exact (s_l3Step_pop k fa fn fc ia m ic bx by' bz fl co F I w hF hI hok (by omega)).mono fun e w' h => ⟨fun _ => h, fun hb => (by cases hb)⟩
    · have e : Agg.can (false, x) (Agg.S.size ⟨F, I, ⟨bx, by', bz⟩, fl, co⟩) = false := by simp [Agg.can, Agg.opOk, hx]
      rw [e]
      exact (s_l3Step_some k fa fn fc ia m ic bx by' bz fl co F I x w hF hI hok hx).mono fun e w' h => ⟨fun hb => (by cases hb), fun _ => h⟩
  · cases hx : Agg.isItem x
    · have e : Agg.can (true, x) (Agg.S.size ⟨F, I, ⟨bx, by', bz⟩, fl, co⟩) = false := by simp [Agg.can, Agg.opOk, hx]
      rw [e]
      exact (s_l3Step_item k fa fn fc ia m ic bx by' bz fl co F I x w hF hI hok hx).mono fun e w' h => ⟨fun hb => (by cases hb), fun _ => h⟩
    · by_cases h6 : 60 ≤ fn + m
      · have e : Agg.can (true, x) (Agg.S.size ⟨F, I, ⟨bx, by', bz⟩, fl, co⟩) = false := by rw [hsz]; simp [Agg.can]; intro _; omega
        rw [e]
        exact (s_l3Step_full k fa fn fc ia m ic bx by' bz fl co F I x w hF hI hok hx h6).mono fun e w' h => ⟨fun hb => (by cases hb), fun _ => h⟩
      · have e : Agg.can (true, x) (Agg.S.size ⟨F, I, ⟨bx, by', bz⟩, fl, co⟩) = true := by rw [hsz]; simp [Agg.can, Agg.opOk, hx]; omega
        have hs : Agg.stepS k ⟨F, I, ⟨bx, by', bz⟩, fl, co⟩ (true, x) = Agg.pushS k ⟨F, I, ⟨bx, by', bz⟩, fl, co⟩ x := by simp [Agg.stepS]
        rw [e, hs]
        exact (s_l3Step_push k fa fn fc ia m ic bx by' bz fl co F I x w hF hI hok hx (by omega)).mono fun e w' h => ⟨fun _ => h, fun hb => (by cases hb)⟩
end Go.Proofs.YticoalgnkddapaaGreat
