import Derived.Test.YtolgclajlklmaaaGreatSr
import Derived.Test.YtolgclajlklmaaaGreatSc
import Derived.Test.YtolgclajlklmaaaGreatSd
import Derived.Test.YtolgclajlklmaaaGreat3y
namespace Go.Proofs.YtolgclajlklmaaaGreat
set_option linter.unusedSimpArgs false
set_option linter.unusedVariables false
open Go.RowKit
def Agg.runAt (k : Int) (l : List (Bool × Int)) (j : Nat) : Agg.S := if Agg.isKind k then Agg.stAt k l j else Agg.zeroS
theorem Agg.run60 {k : Int} {l : List (Bool × Int)} (hk : Agg.isKind k = true) (h : Agg.opsOk l = true) {j : Nat} (hj : j ≤ l.length) : (Agg.stAt k l j).front.length ≤ 60 ∧ (Agg.stAt k l j).items.length ≤ 60 := by
  simp only [Agg.opsOk, Bool.and_eq_true, decide_eq_true_eq] at h
  obtain ⟨⟨hn200, hall⟩, hfit⟩ := h
  have h0 := (Agg.stands_at hk j (Agg.fitTo_down hj hfit)).size
  have h1 := Agg.win_len j (Agg.fitTo_down hj hfit)
  simp only [Agg.S.size] at h0
  omega
theorem Agg.run_step2 {k : Int} {l : List (Bool × Int)} (hk : Agg.isKind k = true) (h : Agg.opsOk l = true) {j : Nat} (hj : j < l.length) :
    Agg.stepOk k (Agg.stAt k l j) (Agg.opAt l j) = true ∧ Agg.sOk k (Agg.stAt k l (j + 1)) = true ∧ Agg.valS k (Agg.stAt k l (j + 1)) = Agg.fold k (Agg.winAt l (j + 1)) ∧ Agg.ok k (Agg.valS k (Agg.stAt k l (j + 1))) = true := by
  simp only [Agg.opsOk, Bool.and_eq_true, decide_eq_true_eq] at h
  obtain ⟨⟨hn200, hall⟩, hfit⟩ := h
  exact Agg.run_step hk hn200 hall hfit hj
def RunApart (b : Bool) (s : Agg.S) (q : List Int) (w : World) (e : Ending) (w' : World) : Prop :=
  ∃ v u n mid, e = .returned (.tuple #[v, u, .bool b]) ∧ StkOwn w' w.heap.size mid v s ∧ OwnR w' mid w'.heap.size u n q ∧ w.heap.size ≤ mid ∧ mid ≤ w'.heap.size ∧ Below w.heap.size w w'
theorem RunApart.out {b : Bool} {s : Agg.S} {q : List Int} {w : World} {e : Ending} {w' : World} (h : RunApart b s q w e w') : RunOut b s q w e w' := by
  obtain ⟨v, u, n, mid, he, h1, h2, h3, h4, h5⟩ := h
  exact ⟨v, u, n, he, h1.wide (Nat.le_refl _) h4 (Nat.le_refl _), h2.wide h3 (Nat.le_refl _) (Nat.le_refl _), h5⟩
theorem Agg.run_bound (k : Int) (l : List (Bool × Int)) : (Agg.runS k l).front.length + (Agg.runS k l).items.length ≤ 120 ∧ (Agg.runN k l).length ≤ 200 := by
  cases h : Agg.runOk k l
  · simp [Agg.runS, Agg.runN, h, Agg.zeroS]
  · have h2 := h
    simp only [Agg.runOk, Bool.and_eq_true] at h2
    have h60 := Agg.run60 h2.1 h2.2 (Nat.le_refl _)
    have h3 := h2.2
    simp only [Agg.opsOk, Bool.and_eq_true, decide_eq_true_eq] at h3
    have e1 : Agg.runS k l = Agg.stAt k l l.length := by simp [Agg.runS, h]
    have e2 : Agg.runN k l = Agg.stNums k l l.length := by simp [Agg.runN, h]
    rw [e1, e2, Agg.stNums_len]
    omega
theorem stacksStart_run (k : Int) (l : List (Bool × Int)) (w : World) : Calls Tryz.prog 52 #[.int .i64 k] w (StkOut (Agg.isKind k) (Agg.runAt k l 0) w) := by
  refine (stacksStart_any k w).mono ?_
  rintro e w1 ⟨rfl, hb⟩
  have e : Agg.runAt k l 0 = ⟨[], [], Agg.first k, 0, 0⟩ := by
    unfold Agg.runAt Agg.first
    cases hk : Agg.isKind k <;> rfl
  rw [e]
  exact ⟨_, rfl, ⟨_, _, rfl, ⟨World.ownsRow_nil _ _ _ _, hb.size, Nat.le_refl _, fun g hg => by simp [Value.ownBlock] at hg⟩, ⟨World.ownsRow_nil _ _ _ _, hb.size, Nat.le_refl _, fun g hg => by simp [Value.ownBlock] at hg⟩⟩, hb⟩
theorem stacksStep_run {k : Int} {l : List (Bool × Int)} (hk : Agg.isKind k = true) (h : Agg.opsOk l = true) {j : Nat} (hj : j < l.length) (w : World) (fa : Option Addr) (fc : Nat) (ia : Option Addr) (ic : Nat)
    (hF : Vals w fa (Agg.runAt k l j).front.length fc (Agg.runAt k l j).front) (hI : Nums .i64 w ia (Agg.runAt k l j).items.length ic (Agg.runAt k l j).items) :
    Calls Tryz.prog 53 #[.int .i64 k, .agg #[.slice fa (Agg.runAt k l j).front.length fc, .slice ia (Agg.runAt k l j).items.length ic, .int .i64 (Agg.runAt k l j).back.x, .int .i64 (Agg.runAt k l j).back.y, .int .i64 (Agg.runAt k l j).back.z, .int .i64 (Agg.runAt k l j).flips, .int .i64 (Agg.runAt k l j).cost], .agg #[.bool (Agg.opAt l j).1, .int .i64 (Agg.opAt l j).2]] w (StkOut true (Agg.runAt k l (j + 1)) w) := by
  have e : ∀ i, Agg.runAt k l i = Agg.stAt k l i := fun i => by simp [Agg.runAt, hk]
  rw [e] at hF hI ⊢
  rw [e]
  have h60 := Agg.run60 hk h (show j ≤ l.length by omega)
  have hs := (Agg.run_step2 hk h hj).1
  have := stacksStep_any k fa _ fc ia _ ic (Agg.stAt k l j).back.x (Agg.stAt k l j).back.y (Agg.stAt k l j).back.z (Agg.stAt k l j).flips (Agg.stAt k l j).cost _ _ (Agg.opAt l j).1 (Agg.opAt l j).2 w hF hI (by omega) (by omega)
  rw [show Agg.stepOk k ⟨(Agg.stAt k l j).front, (Agg.stAt k l j).items, ⟨(Agg.stAt k l j).back.x, (Agg.stAt k l j).back.y, (Agg.stAt k l j).back.z⟩, (Agg.stAt k l j).flips, (Agg.stAt k l j).cost⟩ ((Agg.opAt l j).1, (Agg.opAt l j).2) = true from hs,
    show Agg.aStep k ⟨(Agg.stAt k l j).front, (Agg.stAt k l j).items, ⟨(Agg.stAt k l j).back.x, (Agg.stAt k l j).back.y, (Agg.stAt k l j).back.z⟩, (Agg.stAt k l j).flips, (Agg.stAt k l j).cost⟩ ((Agg.opAt l j).1, (Agg.opAt l j).2) = Agg.stAt k l (j + 1) from Agg.aStep_of hs] at this
  exact this
theorem stacksValue_run {k : Int} {l : List (Bool × Int)} (hk : Agg.isKind k = true) (h : Agg.opsOk l = true) {j : Nat} (hj : j < l.length) (w : World) (fa : Option Addr) (fc : Nat) (ia : Option Addr) (ic : Nat)
    (hF : Vals w fa (Agg.stAt k l (j + 1)).front.length fc (Agg.stAt k l (j + 1)).front) (hI : Nums .i64 w ia (Agg.stAt k l (j + 1)).items.length ic (Agg.stAt k l (j + 1)).items) :
    Calls Tryz.prog 55 #[.int .i64 k, .agg #[.slice fa (Agg.stAt k l (j + 1)).front.length fc, .slice ia (Agg.stAt k l (j + 1)).items.length ic, .int .i64 (Agg.stAt k l (j + 1)).back.x, .int .i64 (Agg.stAt k l (j + 1)).back.y, .int .i64 (Agg.stAt k l (j + 1)).back.z, .int .i64 (Agg.stAt k l (j + 1)).flips, .int .i64 (Agg.stAt k l (j + 1)).cost]] w
      fun e w2 => e = .returned (.tuple #[.agg #[.int .i64 (Agg.valS k (Agg.stAt k l (j + 1))).x, .int .i64 (Agg.valS k (Agg.stAt k l (j + 1))).y, .int .i64 (Agg.valS k (Agg.stAt k l (j + 1))).z], .bool true]) ∧ Below w.heap.size w w2 := by
  have h60 := Agg.run60 hk h (show j + 1 ≤ l.length by omega)
  obtain ⟨-, hs, -, ho⟩ := Agg.run_step2 hk h hj
  have := stacksValue_any k fa _ fc ia _ ic (Agg.stAt k l (j + 1)).back.x (Agg.stAt k l (j + 1)).back.y (Agg.stAt k l (j + 1)).back.z (Agg.stAt k l (j + 1)).flips (Agg.stAt k l (j + 1)).cost _ _ w hF hI (by omega) (by omega)
  rw [show Agg.aValS k ⟨(Agg.stAt k l (j + 1)).front, (Agg.stAt k l (j + 1)).items, ⟨(Agg.stAt k l (j + 1)).back.x, (Agg.stAt k l (j + 1)).back.y, (Agg.stAt k l (j + 1)).back.z⟩, (Agg.stAt k l (j + 1)).flips, (Agg.stAt k l (j + 1)).cost⟩ = (Agg.valS k (Agg.stAt k l (j + 1)), true) from by
    show Agg.aValS k (Agg.stAt k l (j + 1)) = _
    simp [Agg.aValS, Agg.give, hs, ho]] at this
  exact this
theorem statesOf_run (k : Int) (a : Option Addr) (n cap : Nat) (l : List (Bool × Int)) (w : World) (h : Ops w a n cap l) :
    Calls Tryz.prog 51 #[.int .i64 k, .slice a n cap, .func (.func 52) #[] #[], .func (.func 53) #[] #[]] w (StatesOut (Agg.runOk k l) (n + 1) (Agg.runAt k l) w) :=
  statesOf_stacks k 52 53 (fun args w => by kernel_rfl) (fun args w => by kernel_rfl) (Agg.isKind k) (Agg.runAt k l) a n cap l w h (fun w' => stacksStart_run k l w')
    (fun hk ho j hj w' fa fc ia ic hF hI => stacksStep_run hk ho (by rw [h.1]; exact hj) w' fa fc ia ic hF hI)
theorem Agg.numsV_run (k : Int) (l : List (Bool × Int)) (n : Nat) : Agg.numsV k (fun j => Agg.valS k (Agg.stAt k l (1 + j))) n = Agg.stNums k l n := by
  unfold Agg.numsV Agg.stNums
  apply List.map_congr_left
  intro i _
  rw [Nat.add_comm]
set_option maxRecDepth 8000 in
set_option maxHeartbeats 4000000 in
theorem stacksRun_apart (k : Int) (a : Option Addr) (n cap : Nat) (l : List (Bool × Int)) (w : World) (h : Ops w a n cap l) :
    Calls Tryz.prog 14 #[.int .i64 k, .slice a n cap] w (RunApart (Agg.runOk k l) (Agg.runS k l) (Agg.runN k l) w) := by
  obtain ⟨W, hW⟩ : ∃ W, W = w.alloc (.cells #[.slice none 0 0, .slice none 0 0, .int .i64 0, .int .i64 0, .int .i64 0, .int .i64 0, .int .i64 0] 42) := ⟨_, rfl⟩
  have HZ := Lib.hid (show Box7 W w.heap.size 42 (.slice none 0 0) (.slice none 0 0) (.int .i64 0) (.int .i64 0) (.int .i64 0) (.int .i64 0) (.int .i64 0) from by rw [hW]; exact Box7.new w _ _ _ _ _ _ _ _)
  have HB := Lib.hid (show Below w.heap.size w W from by rw [hW]; exact (Below.refl _ _).alloc (Nat.le_refl _) _)
  have hll : l.length = n := h.1
  have HLL := Lib.hid hll
  have HST := Lib.hid (statesOf_run k a n cap l W (h.below HB.out))
  obtain ⟨RB, hRB⟩ : ∃ RB, RB = Agg.runOk k l := ⟨_, rfl⟩
  rw [← hRB] at HST ⊢
  have HRB := Lib.hid hRB
  obtain ⟨RS, hRS⟩ : ∃ RS, RS = Agg.runS k l := ⟨_, rfl⟩
  obtain ⟨RN, hRN⟩ : ∃ RN, RN = Agg.runN k l := ⟨_, rfl⟩
  rw [← hRS, ← hRN]
  have HRS := Lib.hid hRS
  have HRN := Lib.hid hRN
  clear hRS hRN
  have hWs : w.heap.size < W.heap.size := HZ.out.lt
  have hnm : n ≤ 9223372036854775807 := by have := h.2.1; have := h.2.2.1; unfold maxLen at this; omega
  clear hRB hll h
  go_enter Tryz.func14, Tryz.ntmps14
  go_upto_region 1 with (fail)
  rw [← hW]
  clear hW
  go_wp2_with fail
  refine HST.out.mono ?_
  rintro e w1 ⟨v1, rfl, hr1, hb1⟩
  have HZ1 := Lib.hid (HZ.out.call hb1)
  have HB1 := Lib.hid (HB.out.trans (hb1.mono HB.out.size))
  have hw1 : W.heap.size ≤ w1.heap.size := hb1.size
  clear hb1 HST HZ HB
  cases RB
  · obtain rfl : RS = Agg.zeroS := by rw [HRS.out]; unfold Agg.runS; rw [← HRB.out]; rfl
    obtain rfl : RN = [] := by rw [HRN.out]; unfold Agg.runN; rw [← HRB.out]; rfl
    clear hr1
    obtain ⟨s0, s1, s2, s3, s4, s5, s6⟩ := HZ1.out.cells
    have e0 := HZ1.out.free
    go_wp2_with fail
    refine bodyPost_ret (by simp [results, Tryz.results14, go_sem, *]; try rfl) rfl ?_
    have hbb := sets7 HB1.out (Nat.le_refl _) (.slice none 0 0) (.slice none 0 0) (.int .i64 0) (.int .i64 0) (.int .i64 0) (.int .i64 0) (.int .i64 0)
    exact ⟨_, _, 0, _, rfl, ⟨_, _, rfl, ⟨World.ownsRow_nil _ _ _ _, hbb.size, Nat.le_refl _, fun g hg => by simp [Value.ownBlock] at hg⟩, ⟨World.ownsRow_nil _ _ _ _, hbb.size, Nat.le_refl _, fun g hg => by simp [Value.ownBlock] at hg⟩⟩, OwnR.of (lo := _) (World.ownsRow_nil _ _ _ _) (Nat.le_refl _) (Nat.le_refl _), hbb.size, Nat.le_refl _, hbb⟩
  · have hro := HRB.out.symm
    simp only [Agg.runOk, Bool.and_eq_true] at hro
    obtain ⟨hk, hops⟩ := hro
    have hn2 : n ≤ 200 := by
      have ho := hops
      simp only [Agg.opsOk, Bool.and_eq_true, decide_eq_true_eq] at ho
      have := ho.1.1
      have := HLL.out
      omega
    have e1 : RS = Agg.stAt k l n := by rw [HRS.out]; unfold Agg.runS; rw [← HRB.out, HLL.out]; rfl
    have e2 : RN = Agg.numsV k (fun j => Agg.valS k (Agg.stAt k l (1 + j))) n := by rw [HRN.out]; unfold Agg.runN; rw [← HRB.out, HLL.out, Agg.numsV_run]; rfl
    have e3 : Agg.runAt k l = Agg.stAt k l := by funext j; simp [Agg.runAt, hk]
    rw [e3] at hr1
    obtain ⟨c, hrow⟩ := hr1 (by first | rfl | trivial)
    obtain ⟨g, cap1, fv, iv, rfl, ⟨q0, q1, q2, q3, q4, q5, q6⟩, hown⟩ := hrow.own (i := n) (by omega)
    obtain ⟨g', cap', e4, hgb, hg, hcap1, hcm1, hread⟩ := hrow.read (by omega)
    simp only [Value.slice.injEq, Option.some.injEq, Addr.mk.injEq, and_true, true_and] at e4
    obtain ⟨rfl, rfl⟩ := e4
    have hat := hread 1 (by omega)
    rw [Nat.one_mul, Nat.add_sub_cancel] at hat
    have HAT := Lib.hid hat
    have HN := Lib.hid (fun (a' : Option Addr) (n' c' : Nat) (W' : World) (hn' : n' = n) (H : StksAt W' a' n' c' (fun j => Agg.stAt k l (1 + j))) => show Calls Tryz.prog 54 #[.int .i64 k, .slice a' n' c', .func (.func 55) #[] #[]] W' (MadeRow (Agg.numsV k (fun j => Agg.valS k (Agg.stAt k l (1 + j))) n) n W') from by
      subst hn'
      exact numbersOf_stacks k 55 (fun args w => by kernel_rfl) (fun j => Agg.stAt k l (1 + j)) (fun j => Agg.valS k (Agg.stAt k l (1 + j))) a' n' c' (by omega) W' H
        (fun j hj w' fa fc ia ic hF hI => by
          have e : (1 + j) = j + 1 := Nat.add_comm _ _
          simp only [e] at hF hI ⊢
          exact stacksValue_run hk hops (by rw [HLL.out]; exact hj) w' fa fc ia ic hF hI))
    rw [← e2] at HN
    rw [← e1] at hown q2 q3 q4 q5 q6
    clear e1 e2 HRS HRN
    obtain ⟨F, I, ⟨bx, by', bz⟩, fl, co⟩ := RS
    simp only at hown q2 q3 q4 q5 q6
    obtain ⟨fa, fc, rfl, -⟩ := id hown.rows.1.vals
    obtain ⟨ia, ic, rfl, -, -⟩ := id hown.rows.2.nums
    simp only at hown q0 q1
    have HOWN := Lib.hid hown
    have hk0 : (0 : Int) ≤ (n : Int) := Int.natCast_nonneg _
    obtain ⟨N1, hN1⟩ : ∃ N1, N1 = n + 1 := ⟨_, rfl⟩
    rw [← hN1] at hcap1 ⊢
    have hkn : (n : Int) < (N1 : Int) := by omega
    have h1n : (1 : Int) ≤ (N1 : Int) := by omega
    have hnc1 : (N1 : Int) ≤ (cap1 : Int) := by omega
    have HN1 := Lib.hid hN1
    clear hr1 hread hrow e3 hk hops hat hown hN1
    go_wp2_with fail
    have HG := Lib.hid (show g ≠ w.heap.size from by omega)
    have HGL := Lib.hid hg
    have HN2 := Lib.hid (show N1 - 1 = n from by have := HN1.out; omega)
    clear hgb hg
    by_cases hc1 : cap1 = 1
    · subst hc1
      have HAT2 := Lib.hid (fun (X : World) (h : Below w1.heap.size w1 X) => show StksAt X (some ⟨g, 0, none⟩) 0 0 (fun j => Agg.stAt k l (1 + j)) from ⟨by omega, by omega, .inl rfl⟩)
      have HNN := Lib.hid (show 0 = n from by have := HN1.out; omega)
      refine wp_region_held_drew (S := (fun X => X.cell? ⟨g, n * 7, none⟩ = some (.slice fa F.length fc) ∧ X.cell? ⟨g, n * 7 + 1, none⟩ = some (.slice ia I.length ic) ∧ X.cell? ⟨g, n * 7 + 2, none⟩ = some (.int .i64 bx) ∧ X.cell? ⟨g, n * 7 + 3, none⟩ = some (.int .i64 by') ∧ X.cell? ⟨g, n * 7 + 4, none⟩ = some (.int .i64 bz) ∧ X.cell? ⟨g, n * 7 + 5, none⟩ = some (.int .i64 fl) ∧ X.cell? ⟨g, n * 7 + 6, none⟩ = some (.int .i64 co))) (by kernel_rfl) (by first | (refine ⟨?_, ?_, ?_, ?_, ?_, ?_, ?_⟩ <;> assumption)) (fun hHeld => ?_)
      refine zqt 0 ?_ ?_ (by assumption) ?_; rotate_left; (intro X hSw; (try dsimp only at hSw); go_simp; (try with_reducible rfl)); (try simp only [Act.put, zq1, zq2, zq3, zq4, zq5, zq6])
      refine zqt 1 ?_ ?_ (by assumption) ?_; rotate_left; (intro X hSw; (try dsimp only at hSw); go_simp; (try with_reducible rfl)); (try simp only [Act.put, zq1, zq2, zq3, zq4, zq5, zq6])
      refine zqt 2 ?_ ?_ (by assumption) ?_; rotate_left; (intro X hSw; (try dsimp only at hSw); go_simp; (try with_reducible rfl)); (try simp only [Act.put, zq1, zq2, zq3, zq4, zq5, zq6])
      refine zqt 3 ?_ ?_ (by assumption) ?_; rotate_left; (intro X hSw; (try dsimp only at hSw); go_simp; (try with_reducible rfl)); (try simp only [Act.put, zq1, zq2, zq3, zq4, zq5, zq6])
      refine zqt 4 ?_ ?_ (by assumption) ?_; rotate_left; (intro X hSw; (try dsimp only at hSw); go_simp; (try with_reducible rfl)); (try simp only [Act.put, zq1, zq2, zq3, zq4, zq5, zq6])
      refine zqt 5 ?_ ?_ (by assumption) ?_; rotate_left; (intro X hSw; (try dsimp only at hSw); go_simp; (try with_reducible rfl)); (try simp only [Act.put, zq1, zq2, zq3, zq4, zq5, zq6])
      refine zqt 6 ?_ ?_ (by assumption) ?_; rotate_left; (intro X hSw; (try dsimp only at hSw); go_simp; (try with_reducible rfl)); (try simp only [Act.put, zq1, zq2, zq3, zq4, zq5, zq6])
      refine zqt 7 ?_ ?_ (by assumption) ?_; rotate_left; (intro X hSw; (try dsimp only at hSw); go_simp; (try with_reducible rfl)); (try simp only [Act.put, zq1, zq2, zq3, zq4, zq5, zq6])
      refine wpAnyH_ready (rs := [8]) (by kernel_rfl) (by simp) ?_
      refine AllReadyH.cons rfl (fun K hK => ?_) AllReadyH.nil
      go_simp
      refine (HN.out _ _ _ _ HNN.out (HAT2.out w1.drew (Below.refl _ _).drew)).mono ?_
      rintro e w2 ⟨u2, rfl, hu2, hb2⟩
      have HZ2 := Lib.hid (HZ1.out.callD hb2)
      have HB2 := Lib.hid (v_below_callD HB1.out hb2)
      have HOWN2 := Lib.hid (StkOwn.below (w := w1.drew) HOWN.out hb2)
      have HU2 := Lib.hid hu2
      have k2 := fun o => Below.cell (w := w1.drew) (p := ⟨g, o, none⟩) hb2 HGL.out
      have q0 := (k2 _).trans q0
      have q1 := (k2 _).trans q1
      have q2 := (k2 _).trans q2
      have q3 := (k2 _).trans q3
      have q4 := (k2 _).trans q4
      have q5 := (k2 _).trans q5
      have q6 := (k2 _).trans q6
      have hw2 : w1.heap.size ≤ w2.heap.size := hb2.size
      clear k2 hb2 hu2
      (try dsimp only)
      refine hK.out _ _ (by first | (refine ⟨?_, ?_, ?_, ?_, ?_, ?_, ?_⟩ <;> assumption)) (fun hHeld => ?_)
      clear hK K
      (try simp only [Act.put, zq1, zq2, zq3, zq4, zq5, zq6])
      refine wpAnyH_ready (rs := [9]) (by kernel_rfl) (by simp) ?_
      refine AllReadyH.cons rfl (fun K hK => ?_) AllReadyH.nil
      obtain ⟨X3, hX3⟩ : ∃ X3, X3 = (((((((w2.setCell ⟨w.heap.size, 0, none⟩ (.slice fa F.length fc)).setCell ⟨w.heap.size, 1, none⟩ (.slice ia I.length ic)).setCell ⟨w.heap.size, 2, none⟩ (.int .i64 bx)).setCell ⟨w.heap.size, 3, none⟩ (.int .i64 by')).setCell ⟨w.heap.size, 4, none⟩ (.int .i64 bz)).setCell ⟨w.heap.size, 5, none⟩ (.int .i64 fl)).setCell ⟨w.heap.size, 6, none⟩ (.int .i64 co)) := ⟨_, rfl⟩
      have HZ3 := Lib.hid (show Box7 X3 w.heap.size 42 (.slice fa F.length fc) (.slice ia I.length ic) (.int .i64 bx) (.int .i64 by') (.int .i64 bz) (.int .i64 fl) (.int .i64 co) from by rw [hX3]; exact HZ2.out.sets _ _ _ _ _ _ _)
      have HB3 := Lib.hid (show Below w.heap.size w X3 from by rw [hX3]; exact sets7 HB2.out (Nat.le_refl _) _ _ _ _ _ _ _)
      have HOWN3 := Lib.hid (show StkOwn X3 w.heap.size w1.heap.size (.agg #[.slice fa F.length fc, .slice ia I.length ic, .int .i64 bx, .int .i64 by', .int .i64 bz, .int .i64 fl, .int .i64 co]) ⟨F, I, ⟨bx, by', bz⟩, fl, co⟩ from by
        rw [hX3]
        exact (HOWN2.out.set7 (.inl hWs) _ _ _ _ _ _ _).wide (Nat.le_of_lt hWs) (Nat.le_refl _) (by rw [size_sets7]; exact hw2))
      have HU3 := Lib.hid (show OwnR X3 w1.heap.size X3.heap.size u2 n RN from by
        rw [hX3]
        have hww : w.heap.size < w1.drew.heap.size := by show w.heap.size < w1.heap.size; omega
        exact (((((((HU2.out.set (.inl hww)).set (.inl hww)).set (.inl hww)).set (.inl hww)).set (.inl hww)).set (.inl hww)).set (.inl hww)).wide (Nat.le_refl _) (by rw [size_sets7]; exact Nat.le_refl _) (Nat.le_refl _))
      have HX1 := Lib.hid (show w1.heap.size ≤ X3.heap.size from by rw [hX3, size_sets7]; exact hw2)
      have kk : X3.cell? ⟨g, n * 7, none⟩ = some (.slice fa F.length fc) ∧ X3.cell? ⟨g, n * 7 + 1, none⟩ = some (.slice ia I.length ic) ∧ X3.cell? ⟨g, n * 7 + 2, none⟩ = some (.int .i64 bx) ∧ X3.cell? ⟨g, n * 7 + 3, none⟩ = some (.int .i64 by') ∧ X3.cell? ⟨g, n * 7 + 4, none⟩ = some (.int .i64 bz) ∧ X3.cell? ⟨g, n * 7 + 5, none⟩ = some (.int .i64 fl) ∧ X3.cell? ⟨g, n * 7 + 6, none⟩ = some (.int .i64 co) := by
        rw [hX3]
        exact ⟨(set7_far HG.out).trans q0, (set7_far HG.out).trans q1, (set7_far HG.out).trans q2, (set7_far HG.out).trans q3, (set7_far HG.out).trans q4, (set7_far HG.out).trans q5, (set7_far HG.out).trans q6⟩
      have KK := Lib.hid kk
      clear kk
      obtain ⟨z0, z1, z2, z3, z4, z5, z6⟩ := HZ2.out.cells
      have zf := HZ2.out.free
      go_simp
      rw [← hX3]
      (try dsimp only)
      refine hK.out _ _ (by exact KK.out) (fun hHeld => ?_)
      clear hK K z0 z1 z2 z3 z4 z5 z6 zf
      (try simp only [Act.put, zq1, zq2, zq3, zq4, zq5, zq6])
      refine zqt 10 ?_ ?_ (by assumption) ?_; rotate_left; (intro X hSw; (try dsimp only at hSw); go_simp; (try with_reducible rfl)); (try simp only [Act.put, zq1, zq2, zq3, zq4, zq5, zq6])
      refine zqt 11 ?_ ?_ (by assumption) ?_; rotate_left; (intro X hSw; (try dsimp only at hSw); go_simp; (try with_reducible rfl)); (try simp only [Act.put, zq1, zq2, zq3, zq4, zq5, zq6])
      refine wpAnyH_done (by kernel_rfl) ?_ _
      clear hX3 q0 q1 q2 q3 q4 q5 q6 HZ2 HB2 HOWN2 HU2 HZ1 HOWN hHeld
      obtain ⟨q0, q1, q2, q3, q4, q5, q6⟩ := HZ3.out.cells
      go_wp2_with fail
      refine bodyPost_ret (by simp [results, Tryz.results14, go_sem, *]; try rfl) rfl ?_
      exact ⟨_, _, n, w1.heap.size, rfl, HOWN3.out, HU3.out, by omega, HX1.out, HB3.out⟩
    · have hcc : (1 : Int) < (cap1 : Int) := by omega
      have hcn : ¬ (1 : Int) = (cap1 : Int) := by omega
      have HAT2 := Lib.hid (fun (X : World) (h : Below w1.heap.size w1 X) => show StksAt X (some ⟨g, 7, none⟩) (N1 - 1) (cap1 - 1) (fun j => Agg.stAt k l (1 + j)) from by rw [HN2.out]; exact HAT.out.below h)
      have HNN := HN2
      refine wp_region_held_drew (S := (fun X => X.cell? ⟨g, n * 7, none⟩ = some (.slice fa F.length fc) ∧ X.cell? ⟨g, n * 7 + 1, none⟩ = some (.slice ia I.length ic) ∧ X.cell? ⟨g, n * 7 + 2, none⟩ = some (.int .i64 bx) ∧ X.cell? ⟨g, n * 7 + 3, none⟩ = some (.int .i64 by') ∧ X.cell? ⟨g, n * 7 + 4, none⟩ = some (.int .i64 bz) ∧ X.cell? ⟨g, n * 7 + 5, none⟩ = some (.int .i64 fl) ∧ X.cell? ⟨g, n * 7 + 6, none⟩ = some (.int .i64 co))) (by kernel_rfl) (by first | (refine ⟨?_, ?_, ?_, ?_, ?_, ?_, ?_⟩ <;> assumption)) (fun hHeld => ?_)
      refine zqt 0 ?_ ?_ (by assumption) ?_; rotate_left; (intro X hSw; (try dsimp only at hSw); go_simp; (try with_reducible rfl)); (try simp only [Act.put, zq1, zq2, zq3, zq4, zq5, zq6])
      refine zqt 1 ?_ ?_ (by assumption) ?_; rotate_left; (intro X hSw; (try dsimp only at hSw); go_simp; (try with_reducible rfl)); (try simp only [Act.put, zq1, zq2, zq3, zq4, zq5, zq6])
      refine zqt 2 ?_ ?_ (by assumption) ?_; rotate_left; (intro X hSw; (try dsimp only at hSw); go_simp; (try with_reducible rfl)); (try simp only [Act.put, zq1, zq2, zq3, zq4, zq5, zq6])
      refine zqt 3 ?_ ?_ (by assumption) ?_; rotate_left; (intro X hSw; (try dsimp only at hSw); go_simp; (try with_reducible rfl)); (try simp only [Act.put, zq1, zq2, zq3, zq4, zq5, zq6])
      refine zqt 4 ?_ ?_ (by assumption) ?_; rotate_left; (intro X hSw; (try dsimp only at hSw); go_simp; (try with_reducible rfl)); (try simp only [Act.put, zq1, zq2, zq3, zq4, zq5, zq6])
      refine zqt 5 ?_ ?_ (by assumption) ?_; rotate_left; (intro X hSw; (try dsimp only at hSw); go_simp; (try with_reducible rfl)); (try simp only [Act.put, zq1, zq2, zq3, zq4, zq5, zq6])
      refine zqt 6 ?_ ?_ (by assumption) ?_; rotate_left; (intro X hSw; (try dsimp only at hSw); go_simp; (try with_reducible rfl)); (try simp only [Act.put, zq1, zq2, zq3, zq4, zq5, zq6])
      refine zqt 7 ?_ ?_ (by assumption) ?_; rotate_left; (intro X hSw; (try dsimp only at hSw); go_simp; (try with_reducible rfl)); (try simp only [Act.put, zq1, zq2, zq3, zq4, zq5, zq6])
      refine wpAnyH_ready (rs := [8]) (by kernel_rfl) (by simp) ?_
      refine AllReadyH.cons rfl (fun K hK => ?_) AllReadyH.nil
      go_simp
      refine (HN.out _ _ _ _ HNN.out (HAT2.out w1.drew (Below.refl _ _).drew)).mono ?_
      rintro e w2 ⟨u2, rfl, hu2, hb2⟩
      have HZ2 := Lib.hid (HZ1.out.callD hb2)
      have HB2 := Lib.hid (v_below_callD HB1.out hb2)
      have HOWN2 := Lib.hid (StkOwn.below (w := w1.drew) HOWN.out hb2)
      have HU2 := Lib.hid hu2
      have k2 := fun o => Below.cell (w := w1.drew) (p := ⟨g, o, none⟩) hb2 HGL.out
      have q0 := (k2 _).trans q0
      have q1 := (k2 _).trans q1
      have q2 := (k2 _).trans q2
      have q3 := (k2 _).trans q3
      have q4 := (k2 _).trans q4
      have q5 := (k2 _).trans q5
      have q6 := (k2 _).trans q6
      have hw2 : w1.heap.size ≤ w2.heap.size := hb2.size
      clear k2 hb2 hu2
      (try dsimp only)
      refine hK.out _ _ (by first | (refine ⟨?_, ?_, ?_, ?_, ?_, ?_, ?_⟩ <;> assumption)) (fun hHeld => ?_)
      clear hK K
      (try simp only [Act.put, zq1, zq2, zq3, zq4, zq5, zq6])
      refine wpAnyH_ready (rs := [9]) (by kernel_rfl) (by simp) ?_
      refine AllReadyH.cons rfl (fun K hK => ?_) AllReadyH.nil
      obtain ⟨X3, hX3⟩ : ∃ X3, X3 = (((((((w2.setCell ⟨w.heap.size, 0, none⟩ (.slice fa F.length fc)).setCell ⟨w.heap.size, 1, none⟩ (.slice ia I.length ic)).setCell ⟨w.heap.size, 2, none⟩ (.int .i64 bx)).setCell ⟨w.heap.size, 3, none⟩ (.int .i64 by')).setCell ⟨w.heap.size, 4, none⟩ (.int .i64 bz)).setCell ⟨w.heap.size, 5, none⟩ (.int .i64 fl)).setCell ⟨w.heap.size, 6, none⟩ (.int .i64 co)) := ⟨_, rfl⟩
      have HZ3 := Lib.hid (show Box7 X3 w.heap.size 42 (.slice fa F.length fc) (.slice ia I.length ic) (.int .i64 bx) (.int .i64 by') (.int .i64 bz) (.int .i64 fl) (.int .i64 co) from by rw [hX3]; exact HZ2.out.sets _ _ _ _ _ _ _)
      have HB3 := Lib.hid (show Below w.heap.size w X3 from by rw [hX3]; exact sets7 HB2.out (Nat.le_refl _) _ _ _ _ _ _ _)
      have HOWN3 := Lib.hid (show StkOwn X3 w.heap.size w1.heap.size (.agg #[.slice fa F.length fc, .slice ia I.length ic, .int .i64 bx, .int .i64 by', .int .i64 bz, .int .i64 fl, .int .i64 co]) ⟨F, I, ⟨bx, by', bz⟩, fl, co⟩ from by
        rw [hX3]
        exact (HOWN2.out.set7 (.inl hWs) _ _ _ _ _ _ _).wide (Nat.le_of_lt hWs) (Nat.le_refl _) (by rw [size_sets7]; exact hw2))
      have HU3 := Lib.hid (show OwnR X3 w1.heap.size X3.heap.size u2 n RN from by
        rw [hX3]
        have hww : w.heap.size < w1.drew.heap.size := by show w.heap.size < w1.heap.size; omega
        exact (((((((HU2.out.set (.inl hww)).set (.inl hww)).set (.inl hww)).set (.inl hww)).set (.inl hww)).set (.inl hww)).set (.inl hww)).wide (Nat.le_refl _) (by rw [size_sets7]; exact Nat.le_refl _) (Nat.le_refl _))
      have HX1 := Lib.hid (show w1.heap.size ≤ X3.heap.size from by rw [hX3, size_sets7]; exact hw2)
      have kk : X3.cell? ⟨g, n * 7, none⟩ = some (.slice fa F.length fc) ∧ X3.cell? ⟨g, n * 7 + 1, none⟩ = some (.slice ia I.length ic) ∧ X3.cell? ⟨g, n * 7 + 2, none⟩ = some (.int .i64 bx) ∧ X3.cell? ⟨g, n * 7 + 3, none⟩ = some (.int .i64 by') ∧ X3.cell? ⟨g, n * 7 + 4, none⟩ = some (.int .i64 bz) ∧ X3.cell? ⟨g, n * 7 + 5, none⟩ = some (.int .i64 fl) ∧ X3.cell? ⟨g, n * 7 + 6, none⟩ = some (.int .i64 co) := by
        rw [hX3]
        exact ⟨(set7_far HG.out).trans q0, (set7_far HG.out).trans q1, (set7_far HG.out).trans q2, (set7_far HG.out).trans q3, (set7_far HG.out).trans q4, (set7_far HG.out).trans q5, (set7_far HG.out).trans q6⟩
      have KK := Lib.hid kk
      clear kk
      obtain ⟨z0, z1, z2, z3, z4, z5, z6⟩ := HZ2.out.cells
      have zf := HZ2.out.free
      go_simp
      rw [← hX3]
      (try dsimp only)
      refine hK.out _ _ (by exact KK.out) (fun hHeld => ?_)
      clear hK K z0 z1 z2 z3 z4 z5 z6 zf
      (try simp only [Act.put, zq1, zq2, zq3, zq4, zq5, zq6])
      refine zqt 10 ?_ ?_ (by assumption) ?_; rotate_left; (intro X hSw; (try dsimp only at hSw); go_simp; (try with_reducible rfl)); (try simp only [Act.put, zq1, zq2, zq3, zq4, zq5, zq6])
      refine zqt 11 ?_ ?_ (by assumption) ?_; rotate_left; (intro X hSw; (try dsimp only at hSw); go_simp; (try with_reducible rfl)); (try simp only [Act.put, zq1, zq2, zq3, zq4, zq5, zq6])
      refine wpAnyH_done (by kernel_rfl) ?_ _
      clear hX3 q0 q1 q2 q3 q4 q5 q6 HZ2 HB2 HOWN2 HU2 HZ1 HOWN hHeld
      obtain ⟨q0, q1, q2, q3, q4, q5, q6⟩ := HZ3.out.cells
      go_wp2_with fail
      refine bodyPost_ret (by simp [results, Tryz.results14, go_sem, *]; try rfl) rfl ?_
      exact ⟨_, _, n, w1.heap.size, rfl, HOWN3.out, HU3.out, by omega, HX1.out, HB3.out⟩
theorem stacksRun_any (k : Int) (a : Option Addr) (n cap : Nat) (l : List (Bool × Int)) (w : World) (h : Ops w a n cap l) :
    Calls Tryz.prog 14 #[.int .i64 k, .slice a n cap] w (RunOut (Agg.runOk k l) (Agg.runS k l) (Agg.runN k l) w) :=
  (stacksRun_apart k a n cap l w h).mono fun _ _ hh => hh.out
end Go.Proofs.YtolgclajlklmaaaGreat
