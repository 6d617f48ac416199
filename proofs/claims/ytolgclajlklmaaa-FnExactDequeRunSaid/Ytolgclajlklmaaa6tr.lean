/-
  The exact law of DequeRun, walked.
-/
import Derived.Test.Ytolgclajlklmaaa6td
import Derived.Test.YtolgclajlklmaaaQx
import Derived.Test.Ytolgclajlklmaaa6fx
import Derived.Test.Ytolgclajlklmaaa6zo
import Derived.Deep.Cut
namespace Go.Proofs.Ytolgclajlklmaaa
set_option linter.unusedSimpArgs false
set_option linter.unusedVariables false
open Go.RowKit
theorem Agg.dqRun_bound (k : Int) (l : List (Bool × Int)) : (Agg.dqRunS k l).items.length + (Agg.dqRunS k l).places.length ≤ 120 ∧ (Agg.dqRunN k l).length ≤ 200 := by
  cases h : Agg.dqRunOk k l
  · simp [Agg.dqRunS, Agg.dqRunN, h, Agg.zeroDq]
  · have h2 := h
    simp only [Agg.dqRunOk, Bool.and_eq_true] at h2
    obtain ⟨h60, hpl⟩ := Agg.dq_run_len h2.1 h2.2 l.length (Nat.le_refl _)
    have h3 := (Agg.opsOk_parts h2.2).1
    have e1 : Agg.dqRunS k l = Agg.dqAt k l l.length := by simp [Agg.dqRunS, h]
    have e2 : Agg.dqRunN k l = Agg.dqNs k l := by simp [Agg.dqRunN, h]
    rw [e1, e2, Agg.dqNs_len]
    omega
theorem szOpS_big_r (a : Option Addr) (n cap : Nat) (w : World) (hn : n ≤ 1048576) :
    Calls Try.prog 12 #[.slice a n cap, .int .i64 1048576] w fun e w' => e = .returned (.int .i64 (1048576 - n)) ∧ w = w' := by
  have := szOpS_any a n cap 1048576 w (by omega) (by omega) (by omega)
  rw [if_neg (by omega)] at this
  exact this
theorem szOpS_neg_r (a : Option Addr) (n cap : Nat) (w : World) (hn : 1048576 < n) (hc : n ≤ 9223372036854775807) :
    Calls Try.prog 12 #[.slice a n cap, .int .i64 1048576] w fun e w' => e = .returned (.int .i64 (-1)) ∧ w = w' := by
  have h2 : (1048576 : Int) - (n : Int) < 0 := by omega
  go_enter Try.func12, Try.ntmps12
  go_wp2
  go_returns
  exact ⟨rfl, rfl⟩
set_option maxRecDepth 8000 in
set_option maxHeartbeats 8000000 in
theorem law_FnExactDequeRun (k : Int) (a : Option Addr) (n cap : Nat) (l : List (Bool × Int)) (w : World) (h : Ops w a n cap l) :
    Calls Try.prog 3 #[.int .i64 k, .slice a n cap] w fun e w' => e = .returned (.bool true) ∧ Below w.heap.size w w' := by
  have hm : cap ≤ 9223372036854775807 := by have := h.2.2.1; unfold maxLen at this; omega
  have hnc : n ≤ cap := h.2.1
  have H0 := Lib.hid h
  clear h
  by_cases hn : n ≤ 1048576
  · have hbd := Agg.dqRun_bound k l
    have h1 := fun a cap w h => s_dequeRun_any k a n cap l w h
    have h2 := fun a cap w h => dequeRun_apart k a n cap l w h
    obtain ⟨S, hS⟩ : ∃ S, S = Agg.dqRunS k l := ⟨_, rfl⟩
    obtain ⟨NL, hNL⟩ : ∃ NL, NL = Agg.dqRunN k l := ⟨_, rfl⟩
    obtain ⟨b, hb⟩ : ∃ b, b = Agg.dqRunOk k l := ⟨_, rfl⟩
    rw [← hS, ← hNL, ← hb] at h1 h2
    rw [← hS, ← hNL] at hbd
    have H1 := Lib.hid h1
    have H2 := Lib.hid h2
    have HBD := Lib.hid hbd
    clear h1 h2 hS hNL hb hbd
    have hge : ¬ ((1048576 : Int) - (n : Int) < 0) := by omega
    have hkp : ¬ ((1 : Int) + 2 * (n : Int) < 0) := by omega
    have HSZ := Lib.hid (szOpS_big_r a n cap w (by omega))
    have HB := Lib.hid (Below.refl w.heap.size w)
    go_enter Try.func3, Try.ntmps3
    go_wp2_with fail
    refine HSZ.out.mono ?_
    rintro e wz ⟨rfl, rfl⟩
    go_wp2_with fail
    refine (toOpS_own _ _ _ l _ (H0.out.below HB.out) hn).mono ?_
    rintro e w1 ⟨v1, rfl, r1, hb1⟩
    obtain ⟨a1, c1, rfl, hN1⟩ := r1.ops
    have HN1 := Lib.hid hN1
    have a1' : w.heap.size ≤ w1.heap.size := hb1.size
    have HB := Lib.hid (HB.out.trans (hb1.mono HB.out.size))
    clear r1 hN1 hb1
    go_wp2_with fail
    refine (H1.out _ _ _ HN1.out).mono ?_
    rintro e w2 ⟨v2, u2, n2, rfl, r2, ru2, hb2⟩
    have a2' : w1.heap.size ≤ w2.heap.size := hb2.size
    obtain ⟨ia2, ic2, pa2, pc2, rfl, -, -⟩ := r2.read
    obtain ⟨W2, hW2⟩ : ∃ W2, W2 = w2.alloc (.cells #[.slice ia2 S.items.length ic2, .slice pa2 S.places.length pc2, .int .i64 S.first, .int .i64 S.next, .int .i64 S.drops] 26) := ⟨_, rfl⟩
    have hbn2 : Below w2.heap.size w2 W2 := by rw [hW2]; exact (Below.refl _ _).alloc (Nat.le_refl _) _
    have B2 := Lib.hid (show Box5 W2 w2.heap.size 26 (.slice ia2 S.items.length ic2) (.slice pa2 S.places.length pc2) (.int .i64 S.first) (.int .i64 S.next) (.int .i64 S.drops) from by rw [hW2]; exact Box5.new _ _ _ _ _ _ _)
    have A2 := Lib.hid (r2.below hbn2)
    have U2 := Lib.hid (ru2.below hbn2)
    have hcs2 : w2.heap.size < W2.heap.size := B2.out.lt
    have hb12 := hb2.trans (hbn2.mono hb2.size)
    clear hb2 hbn2 r2 ru2
    have HB := Lib.hid (HB.out.trans (hb12.mono HB.out.size))
    clear hb12
    go_upto_region 6 with (fail)
    rw [← hW2]
    clear hW2
    clear HN1
    go_wp2_with fail
    refine (toOpS_own _ _ _ l _ (H0.out.below HB.out) hn).mono ?_
    rintro e w3 ⟨v3, rfl, r3, hb3⟩
    obtain ⟨a3, c3, rfl, hN3⟩ := r3.ops
    have HN3 := Lib.hid hN3
    have X3 := Lib.hid r3
    have a4' : W2.heap.size ≤ w3.heap.size := hb3.size
    clear r3 hN3
    have B2 := Lib.hid (B2.out.call hb3)
    have A2 := Lib.hid (A2.out.below hb3)
    have U2 := Lib.hid (U2.out.below hb3)
    have HB := Lib.hid (HB.out.trans (hb3.mono HB.out.size))
    clear hb3
    go_wp2_with fail
    refine (H2.out _ _ _ HN3.out).mono ?_
    rintro e w4 ⟨v4, u4, n4, mid, rfl, r4, ru4, hmid1, hmid2, hb4⟩
    obtain ⟨ia4, ic4, pa4, pc4, rfl, -, -⟩ := r4.read
    obtain ⟨W4, hW4⟩ : ∃ W4, W4 = w4.alloc (.cells #[.slice ia4 S.items.length ic4, .slice pa4 S.places.length pc4, .int .i64 S.first, .int .i64 S.next, .int .i64 S.drops] 26) := ⟨_, rfl⟩
    have hbn4 : Below w4.heap.size w4 W4 := by rw [hW4]; exact (Below.refl _ _).alloc (Nat.le_refl _) _
    have B4 := Lib.hid (show Box5 W4 w4.heap.size 26 (.slice ia4 S.items.length ic4) (.slice pa4 S.places.length pc4) (.int .i64 S.first) (.int .i64 S.next) (.int .i64 S.drops) from by rw [hW4]; exact Box5.new _ _ _ _ _ _ _)
    have A4 := Lib.hid (r4.below hbn4)
    have U4 := Lib.hid (ru4.below hbn4)
    have hcs4 : w4.heap.size < W4.heap.size := B4.out.lt
    have hb14 := hb4.trans (hbn4.mono hb4.size)
    clear hb4 hbn4 r4 ru4
    have B2 := Lib.hid (B2.out.call hb14)
    have A2 := Lib.hid (A2.out.below hb14)
    have U2 := Lib.hid (U2.out.below hb14)
    have X3 := Lib.hid (X3.out.below hb14)
    have HB := Lib.hid (HB.out.trans (hb14.mono HB.out.size))
    clear hb14
    go_upto_region 8 with (fail)
    rw [← hW4]
    clear hW4
    clear HN3
    cases b
    all_goals
      obtain ⟨p0, p1, p2, p3, p4⟩ := B4.out.cells
      obtain ⟨q0, q1, q2, q3, q4⟩ := B2.out.cells
      go_wp2_with fail
      refine (eqDeque_own _ A4.out A2.out).mono ?_
      rintro e w5 ⟨rfl, hbe⟩
      have B2 := Lib.hid (B2.out.call hbe)
      have A2 := Lib.hid (A2.out.below hbe)
      have U2 := Lib.hid (U2.out.below hbe)
      have X3 := Lib.hid (X3.out.below hbe)
      have B4 := Lib.hid (B4.out.call hbe)
      have A4 := Lib.hid (A4.out.below hbe)
      have U4 := Lib.hid (U4.out.below hbe)
      have HB := Lib.hid (HB.out.trans (hbe.mono HB.out.size))
      clear hbe
      clear p0 p1 p2 p3 p4 q0 q1 q2 q3 q4
      go_wp2_with fail
      refine (eqIntS_own _ U4.out U2.out).mono ?_
      rintro e w6 ⟨rfl, hbe⟩
      have B2 := Lib.hid (B2.out.call hbe)
      have A2 := Lib.hid (A2.out.below hbe)
      have U2 := Lib.hid (U2.out.below hbe)
      have X3 := Lib.hid (X3.out.below hbe)
      have B4 := Lib.hid (B4.out.call hbe)
      have A4 := Lib.hid (A4.out.below hbe)
      have U4 := Lib.hid (U4.out.below hbe)
      have HB := Lib.hid (HB.out.trans (hbe.mono HB.out.size))
      clear hbe
      go_wp2_with fail
      refine (toOpS_own _ _ _ l _ (H0.out.below HB.out) hn).mono ?_
      rintro e w7 ⟨v7, rfl, r7, hb7⟩
      have X7 := Lib.hid r7
      clear r7
      have B2 := Lib.hid (B2.out.call hb7)
      have A2 := Lib.hid (A2.out.below hb7)
      have U2 := Lib.hid (U2.out.below hb7)
      have X3 := Lib.hid (X3.out.below hb7)
      have B4 := Lib.hid (B4.out.call hb7)
      have A4 := Lib.hid (A4.out.below hb7)
      have U4 := Lib.hid (U4.out.below hb7)
      have HB := Lib.hid (HB.out.trans (hb7.mono HB.out.size))
      clear hb7
      go_wp2_with fail
      refine (eqOpS_own _ X3.out X7.out).mono ?_
      rintro e w8 ⟨rfl, hb8⟩
      have B2 := Lib.hid (B2.out.call hb8)
      have A2 := Lib.hid (A2.out.below hb8)
      have U2 := Lib.hid (U2.out.below hb8)
      have X3 := Lib.hid (X3.out.below hb8)
      have B4 := Lib.hid (B4.out.call hb8)
      have A4 := Lib.hid (A4.out.below hb8)
      have U4 := Lib.hid (U4.out.below hb8)
      have HB := Lib.hid (HB.out.trans (hb8.mono HB.out.size))
      clear hb8
      clear X7
      go_wp2_with fail
      refine (markOpS_own _ 1 X3.out (by omega) (by omega) hn).mono ?_
      rintro e w9 ⟨rfl, -, hg9⟩
      have hblk : ∀ j, (Value.slice a3 n c3).ownBlock = some j → W2.heap.size ≤ j ∧ j < w3.heap.size := fun j hj => ⟨(X3.out.1.lt j hj).1, X3.out.2.2.2 j hj⟩
      have A2 := Lib.hid (A2.out.kept hg9 (fun j hj => by have := hblk j hj; omega))
      have U2 := Lib.hid (U2.out.kept hg9 (fun j hj => by have := hblk j hj; omega))
      have A4 := Lib.hid (A4.out.kept hg9 (fun j hj => by have := hblk j hj; omega))
      have U4 := Lib.hid (U4.out.kept hg9 (fun j hj => by have := hblk j hj; omega))
      have B2 := Lib.hid (B2.out.grown hg9 (fun e => by have := hblk _ e; omega))
      have B4 := Lib.hid (B4.out.grown hg9 (fun e => by have := hblk _ e; omega))
      have HB := Lib.hid (HB.out.grown hg9 HB.out.size (fun j hj => by have := hblk j hj; omega))
      clear hg9 hblk X3
      obtain ⟨p0, p1, p2, p3, p4⟩ := B4.out.cells
      obtain ⟨q0, q1, q2, q3, q4⟩ := B2.out.cells
      go_wp2_with fail
      refine (eqDeque_own _ A4.out A2.out).mono ?_
      rintro e w10 ⟨rfl, hbe⟩
      have B2 := Lib.hid (B2.out.call hbe)
      have A2 := Lib.hid (A2.out.below hbe)
      have U2 := Lib.hid (U2.out.below hbe)
      have B4 := Lib.hid (B4.out.call hbe)
      have A4 := Lib.hid (A4.out.below hbe)
      have U4 := Lib.hid (U4.out.below hbe)
      have HB := Lib.hid (HB.out.trans (hbe.mono HB.out.size))
      clear hbe
      clear p0 p1 p2 p3 p4 q0 q1 q2 q3 q4
      go_wp2_with fail
      refine (eqIntS_own _ U4.out U2.out).mono ?_
      rintro e w11 ⟨rfl, hbe⟩
      have B2 := Lib.hid (B2.out.call hbe)
      have A2 := Lib.hid (A2.out.below hbe)
      have U2 := Lib.hid (U2.out.below hbe)
      have B4 := Lib.hid (B4.out.call hbe)
      have A4 := Lib.hid (A4.out.below hbe)
      have U4 := Lib.hid (U4.out.below hbe)
      have HB := Lib.hid (HB.out.trans (hbe.mono HB.out.size))
      clear hbe
      obtain ⟨p0, p1, p2, p3, p4⟩ := B4.out.cells
      go_wp2_with fail
      refine (markDeque_own _ 1 A4.out (by omega) (by omega) (by have := HBD.out; omega)).mono ?_
      rintro e w12 ⟨rfl, rm, ht⟩
      have A4 := Lib.hid rm
      have A2 := Lib.hid (A2.out.touch ht (by omega))
      have U2 := Lib.hid (U2.out.touch ht (by omega))
      have U4 := Lib.hid (U4.out.touch ht (by omega))
      have B2 := Lib.hid (show Box5 w12 _ _ _ _ _ _ _ from touch_block B2.out ht (by omega))
      have B4 := Lib.hid (show Box5 w12 _ _ _ _ _ _ _ from touch_block B4.out ht (by omega))
      have HB := Lib.hid (ht.below HB.out (Nat.le_refl _) (by omega))
      clear ht rm
      clear p0 p1 p2 p3 p4
      obtain ⟨M, hM⟩ : ∃ M, M = markND S := ⟨_, rfl⟩
      have hM0 : 0 ≤ M ∧ M ≤ 1000 := by rw [hM]; have := HBD.out; unfold markND; omega
      have HH := Lib.hid (fun lo hi v w h => heldDeque_own (lo := lo) (hi := hi) (v := v) (s := S) w 1 h (by omega) (by omega) (by have := HBD.out; omega))
      rw [← hM] at HH
      have hn4 : n4 ≤ 1000 := by obtain ⟨_, _, _, _, hl⟩ := U4.out.nums; have := HBD.out; omega
      rw [← hM]
      clear hM
      go_wp2_with fail
      refine (markIntS_own _ (1 + M) U4.out (by omega) (by omega) (by omega)).mono ?_
      rintro e w13 ⟨rfl, rm, hg13⟩
      have hblk : ∀ j, u4.ownBlock = some j → mid ≤ j ∧ j < w4.heap.size := fun j hj => ⟨(U4.out.1.lt j hj).1, U4.out.2.2.2 j hj⟩
      have A2 := Lib.hid (A2.out.kept hg13 (fun j hj => by have := hblk j hj; omega))
      have U2 := Lib.hid (U2.out.kept hg13 (fun j hj => by have := hblk j hj; omega))
      have A4 := Lib.hid (A4.out.kept hg13 (fun j hj => by have := hblk j hj; omega))
      have U4 := Lib.hid rm
      have B2 := Lib.hid (B2.out.grown hg13 (fun e => by have := hblk _ e; omega))
      have B4 := Lib.hid (B4.out.grown hg13 (fun e => by have := hblk _ e; omega))
      have HB := Lib.hid (HB.out.grown hg13 HB.out.size (fun j hj => by have := hblk j hj; omega))
      clear hg13 hblk rm
      obtain ⟨p0, p1, p2, p3, p4⟩ := B4.out.cells
      have hn14 : ¬ ((1 : Int) + M < 0) := by omega
      have hn15 : ¬ ((1 : Int) + M + (n4 : Int) < 0) := by omega
      go_wp2_with fail
      refine (HH.out _ _ _ _ A4.out).mono ?_
      rintro e w14 ⟨rfl, hbe⟩
      have B2 := Lib.hid (B2.out.call hbe)
      have A2 := Lib.hid (A2.out.below hbe)
      have U2 := Lib.hid (U2.out.below hbe)
      have B4 := Lib.hid (B4.out.call hbe)
      have A4 := Lib.hid (A4.out.below hbe)
      have U4 := Lib.hid (U4.out.below hbe)
      have HB := Lib.hid (HB.out.trans (hbe.mono HB.out.size))
      clear hbe
      clear p0 p1 p2 p3 p4
      go_wp2_with fail
      refine (heldIntS_own _ (1 + M) U4.out (by omega) (by omega) (by omega)).mono ?_
      rintro e w15 ⟨rfl, hbe⟩
      have B2 := Lib.hid (B2.out.call hbe)
      have A2 := Lib.hid (A2.out.below hbe)
      have U2 := Lib.hid (U2.out.below hbe)
      have B4 := Lib.hid (B4.out.call hbe)
      have A4 := Lib.hid (A4.out.below hbe)
      have U4 := Lib.hid (U4.out.below hbe)
      have HB := Lib.hid (HB.out.trans (hbe.mono HB.out.size))
      clear hbe
      go_wp2_with fail
      refine (toOpS_own _ _ _ l _ (H0.out.below HB.out) hn).mono ?_
      rintro e w16 ⟨v16, rfl, r16, hb16⟩
      obtain ⟨a16, c16, rfl, hN16⟩ := r16.ops
      have HN16 := Lib.hid hN16
      clear r16 hN16
      have B2 := Lib.hid (B2.out.call hb16)
      have A2 := Lib.hid (A2.out.below hb16)
      have U2 := Lib.hid (U2.out.below hb16)
      have B4 := Lib.hid (B4.out.call hb16)
      have A4 := Lib.hid (A4.out.below hb16)
      have U4 := Lib.hid (U4.out.below hb16)
      have HB := Lib.hid (HB.out.trans (hb16.mono HB.out.size))
      clear hb16
      go_wp2_with fail
      refine (H2.out _ _ _ HN16.out).mono ?_
      rintro e w17 ⟨v17, u17, n17, mid17, rfl, r17, ru17, -, -, hb17⟩
      obtain ⟨ia17, ic17, pa17, pc17, rfl, -, -⟩ := r17.read
      obtain ⟨W17, hW17⟩ : ∃ W17, W17 = w17.alloc (.cells #[.slice ia17 S.items.length ic17, .slice pa17 S.places.length pc17, .int .i64 S.first, .int .i64 S.next, .int .i64 S.drops] 26) := ⟨_, rfl⟩
      have hbn17 : Below w17.heap.size w17 W17 := by rw [hW17]; exact (Below.refl _ _).alloc (Nat.le_refl _) _
      have B17 := Lib.hid (show Box5 W17 w17.heap.size 26 (.slice ia17 S.items.length ic17) (.slice pa17 S.places.length pc17) (.int .i64 S.first) (.int .i64 S.next) (.int .i64 S.drops) from by rw [hW17]; exact Box5.new _ _ _ _ _ _ _)
      have A17 := Lib.hid (r17.below hbn17)
      have U17 := Lib.hid (ru17.below hbn17)
      have hcs17 : w17.heap.size < W17.heap.size := B17.out.lt
      have hb117 := hb17.trans (hbn17.mono hb17.size)
      clear hb17 hbn17 r17 ru17
      have B2 := Lib.hid (B2.out.call hb117)
      have A2 := Lib.hid (A2.out.below hb117)
      have U2 := Lib.hid (U2.out.below hb117)
      have B4 := Lib.hid (B4.out.call hb117)
      have A4 := Lib.hid (A4.out.below hb117)
      have U4 := Lib.hid (U4.out.below hb117)
      have HB := Lib.hid (HB.out.trans (hb117.mono HB.out.size))
      clear hb117
      go_upto_region 29 with (fail)
      rw [← hW17]
      clear hW17
      clear HN16
      obtain ⟨p0, p1, p2, p3, p4⟩ := B17.out.cells
      obtain ⟨q0, q1, q2, q3, q4⟩ := B2.out.cells
      go_wp2_with fail
      refine (eqDeque_own _ A17.out A2.out).mono ?_
      rintro e w18 ⟨rfl, hbe⟩
      have B2 := Lib.hid (B2.out.call hbe)
      have A2 := Lib.hid (A2.out.below hbe)
      have U2 := Lib.hid (U2.out.below hbe)
      have B4 := Lib.hid (B4.out.call hbe)
      have A4 := Lib.hid (A4.out.below hbe)
      have U4 := Lib.hid (U4.out.below hbe)
      have B17 := Lib.hid (B17.out.call hbe)
      have A17 := Lib.hid (A17.out.below hbe)
      have U17 := Lib.hid (U17.out.below hbe)
      have HB := Lib.hid (HB.out.trans (hbe.mono HB.out.size))
      clear hbe
      clear p0 p1 p2 p3 p4 q0 q1 q2 q3 q4
      go_wp2_with fail
      refine (eqIntS_own _ U17.out U2.out).mono ?_
      rintro e w19 ⟨rfl, hbe⟩
      have B2 := Lib.hid (B2.out.call hbe)
      have A2 := Lib.hid (A2.out.below hbe)
      have U2 := Lib.hid (U2.out.below hbe)
      have B4 := Lib.hid (B4.out.call hbe)
      have A4 := Lib.hid (A4.out.below hbe)
      have U4 := Lib.hid (U4.out.below hbe)
      have B17 := Lib.hid (B17.out.call hbe)
      have A17 := Lib.hid (A17.out.below hbe)
      have U17 := Lib.hid (U17.out.below hbe)
      have HB := Lib.hid (HB.out.trans (hbe.mono HB.out.size))
      clear hbe
      obtain ⟨p0, p1, p2, p3, p4⟩ := B4.out.cells
      have hn14 : ¬ ((1 : Int) + M < 0) := by omega
      have hn15 : ¬ ((1 : Int) + M + (n4 : Int) < 0) := by omega
      go_wp2_with fail
      refine (HH.out _ _ _ _ A4.out).mono ?_
      rintro e w20 ⟨rfl, hbe⟩
      have B4 := Lib.hid (B4.out.call hbe)
      have A4 := Lib.hid (A4.out.below hbe)
      have U4 := Lib.hid (U4.out.below hbe)
      have HB := Lib.hid (HB.out.trans (hbe.mono HB.out.size))
      clear hbe
      clear p0 p1 p2 p3 p4
      go_wp2_with fail
      refine (heldIntS_own _ (1 + M) U4.out (by omega) (by omega) (by omega)).mono ?_
      rintro e w21 ⟨rfl, hbe⟩
      have B4 := Lib.hid (B4.out.call hbe)
      have A4 := Lib.hid (A4.out.below hbe)
      have U4 := Lib.hid (U4.out.below hbe)
      have HB := Lib.hid (HB.out.trans (hbe.mono HB.out.size))
      clear hbe
      go_wp2_with fail
      go_returns
      exact ⟨rfl, HB.out⟩
  · have HSZ := Lib.hid (szOpS_neg_r a n cap w (by omega) (by omega))
    go_enter Try.func3, Try.ntmps3
    go_wp2_with fail
    refine HSZ.out.mono ?_
    rintro e wz ⟨rfl, rfl⟩
    go_wp2
    go_returns
    exact ⟨rfl, Below.refl _ _⟩
end Go.Proofs.Ytolgclajlklmaaa
