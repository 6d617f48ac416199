import Derived.Test.YtolgclajlklmaaaGreatDt
import Derived.Test.YtolgclajlklmaaaGreatDy
import Derived.Test.YtolgclajlklmaaaGreat6x
import Derived.Test.YtolgclajlklmaaaGreat6zn
import Derived.Deep.Cut
import Derived.Deep.DeepMust
namespace Go.Proofs.YtolgclajlklmaaaGreat
set_option linter.unusedSimpArgs false
set_option linter.unusedVariables false
open Go.RowKit
theorem Agg.dqNum_or {k : Int} {d : Agg.Dq} (h : Agg.dqOk k d = true) : (if (Agg.aDqNum k d).2 then (Agg.aDqNum k d).1 else -1) = Agg.dqNum d := by
  by_cases h0 : d.items.length = 0
  · rw [Agg.dqNum_not (.inr h0)]
    simp [Agg.dqNum, h0]
  · rw [Agg.dqNum_of h h0]
    simp [Agg.dqNum, h0]
set_option maxRecDepth 8000 in
set_option maxHeartbeats 2000000 in
theorem dequeStart_any (k : Int) (w : World) : Calls Tryz.prog 33 #[.int .i64 k] w (DqMade (Agg.isOrd k) Agg.zeroDq w) := by
  obtain ⟨W, hW⟩ : ∃ W, W = w.alloc (.cells #[.slice none 0 0, .slice none 0 0, .int .i64 0, .int .i64 0, .int .i64 0] 28) := ⟨_, rfl⟩
  have HZ := Lib.hid (show Box5 W w.heap.size 28 (.slice none 0 0) (.slice none 0 0) (.int .i64 0) (.int .i64 0) (.int .i64 0) from by rw [hW]; exact Box5.new w _ _ _ _ _ _)
  have HB := Lib.hid (show Below w.heap.size w W from by rw [hW]; exact (Below.refl _ _).alloc (Nat.le_refl _) _)
  have HO := Lib.hid (show ∃ u, ∀ w, Calls Tryz.prog 46 #[.int .i64 k] w fun e w' => e = .returned (.tuple #[u, .bool (Agg.isOrd k)]) ∧ w = w' from by
    cases hr : Agg.isOrd k
    · exact ⟨_, fun w => orderOf_not k w hr⟩
    · obtain ⟨T, fl, R⟩ := ord_at hr
      exact ⟨_, R.of⟩)
  obtain ⟨b, hb⟩ : ∃ b, b = Agg.isOrd k := ⟨_, rfl⟩
  rw [← hb] at HO ⊢
  clear hb
  obtain ⟨u, hO⟩ := HO.out
  have HO := Lib.hid hO
  clear hO
  obtain ⟨s0, s1, s2, s3, s4⟩ := HZ.out.cells
  have e0 := HZ.out.free
  go_enter Tryz.func33, Tryz.ntmps33
  go_upto_region 1 with (fail)
  rw [← hW]
  clear hW
  go_wp2_with fail
  refine (HO.out _).mono ?_
  rintro e w1 ⟨rfl, rfl⟩
  go_wp2_with fail
  refine bodyPost_ret (by simp [results, Tryz.results33, go_sem, *]; try rfl) rfl ?_
  have hbb := f6_below5 HB.out (Nat.le_refl _) (.slice none 0 0) (.slice none 0 0) (.int .i64 0) (.int .i64 0) (.int .i64 0)
  exact ⟨_, _, rfl, ⟨⟨rfl, hbb.size, Nat.le_refl _, .inl ⟨rfl, rfl⟩⟩, ⟨⟨rfl, hbb.size, Nat.le_refl _, .inl ⟨rfl, rfl⟩⟩, .inl rfl⟩⟩, hbb⟩
theorem dequeStep_run {k : Int} {l : List (Bool × Int)} (hk : Agg.isOrd k = true) (h : Agg.opsOk l = true) {j : Nat} (hj : j < l.length) (w : World) (ia : Option Addr) (ic : Nat) (pa : Option Addr) (pc : Nat)
    (hI : Nums .i64 w ia (Agg.dqAt k l j).items.length ic (Agg.dqAt k l j).items) (hP : Nums .i64 w pa (Agg.dqAt k l j).places.length pc (Agg.dqAt k l j).places) :
    Calls Tryz.prog 34 #[.int .i64 k, .agg #[.slice ia (Agg.dqAt k l j).items.length ic, .slice pa (Agg.dqAt k l j).places.length pc, .int .i64 (Agg.dqAt k l j).first, .int .i64 (Agg.dqAt k l j).next, .int .i64 (Agg.dqAt k l j).drops], .agg #[.bool (Agg.opAt l j).1, .int .i64 (Agg.opAt l j).2]] w (DqMade true (Agg.dqAt k l (j + 1)) w) := by
  have h1 := (Agg.dq_run hk h hj).1
  have h2 := Agg.dqAt_succ k l hk h hj
  have := dequeStep_any k ia (Agg.dqAt k l j).items.length ic pa (Agg.dqAt k l j).places.length pc (Agg.dqAt k l j).first (Agg.dqAt k l j).next (Agg.dqAt k l j).drops (Agg.dqAt k l j).items (Agg.dqAt k l j).places (Agg.opAt l j).1 (Agg.opAt l j).2 w hI hP
  rw [show Agg.dqCan k ⟨(Agg.dqAt k l j).items, (Agg.dqAt k l j).places, (Agg.dqAt k l j).first, (Agg.dqAt k l j).next, (Agg.dqAt k l j).drops⟩ ((Agg.opAt l j).1, (Agg.opAt l j).2) = true from h1,
    show Agg.aDq k ⟨(Agg.dqAt k l j).items, (Agg.dqAt k l j).places, (Agg.dqAt k l j).first, (Agg.dqAt k l j).next, (Agg.dqAt k l j).drops⟩ ((Agg.opAt l j).1, (Agg.opAt l j).2) = Agg.dqAt k l (j + 1) from h2] at this
  refine this.mono ?_
  rintro e w1 ⟨v, rfl, ⟨iv, pv, rfl, hi, hp, hd⟩, hb⟩
  exact ⟨iv, pv, rfl, ⟨hi, hp, hd⟩, hb⟩
theorem statesOf_dqRun (k : Int) (a : Option Addr) (n cap : Nat) (l : List (Bool × Int)) (w : World) (h : Ops w a n cap l) :
    Calls Tryz.prog 32 #[.int .i64 k, .slice a n cap, .func (.func 33) #[] #[], .func (.func 34) #[] #[]] w (DqStates (Agg.dqRunOk k l) (n + 1) (Agg.dqAt k l) w) :=
  statesOf_dq k 33 34 (fun args w => by kernel_rfl) (fun args w => by kernel_rfl) (Agg.isOrd k) (Agg.dqAt k l) a n cap l w h (fun w' => dequeStart_any k w')
    (fun hk ho j hj w' ia ic pa pc hI hP => dequeStep_run hk ho (by rw [h.1]; exact hj) w' ia ic pa pc hI hP)
theorem dequeNumber_run {k : Int} {S : Agg.Dq} (h : Agg.dqOk k S = true) : ∃ x b, (if b then x else -1) = Agg.dqNum S ∧ ∀ (w : World) (ia : Option Addr) (ic : Nat) (pa : Option Addr) (pc : Nat), Nums .i64 w ia S.items.length ic S.items → Nums .i64 w pa S.places.length pc S.places →
    Calls Tryz.prog 36 #[.int .i64 k, .agg #[.slice ia S.items.length ic, .slice pa S.places.length pc, .int .i64 S.first, .int .i64 S.next, .int .i64 S.drops]] w fun e w' => e = .returned (.tuple #[.int .i64 x, .bool b]) ∧ Below w.heap.size w w' :=
  ⟨(Agg.aDqNum k S).1, (Agg.aDqNum k S).2, Agg.dqNum_or h, fun w ia ic pa pc hI hP => dequeNumber_any k ia S.items.length ic pa S.places.length pc S.first S.next S.drops S.items S.places w hI hP⟩
set_option maxRecDepth 8000 in
set_option maxHeartbeats 4000000 in
theorem dequeRun_apart (k : Int) (a : Option Addr) (n cap : Nat) (l : List (Bool × Int)) (w : World) (h : Ops w a n cap l) :
    Calls Tryz.prog 7 #[.int .i64 k, .slice a n cap] w (DqRunApart (Agg.dqRunOk k l) (Agg.dqRunS k l) (Agg.dqRunN k l) w) := by
  obtain ⟨i0, hi0, hz0, hz1, hz2⟩ := info_parts infoInt
  obtain ⟨W, hW⟩ : ∃ W, W = w.alloc (.cells #[.slice none 0 0, .slice none 0 0, .int .i64 0, .int .i64 0, .int .i64 0] 28) := ⟨_, rfl⟩
  have HZ := Lib.hid (show Box5 W w.heap.size 28 (.slice none 0 0) (.slice none 0 0) (.int .i64 0) (.int .i64 0) (.int .i64 0) from by rw [hW]; exact Box5.new w _ _ _ _ _ _)
  have HB := Lib.hid (show Below w.heap.size w W from by rw [hW]; exact (Below.refl _ _).alloc (Nat.le_refl _) _)
  have hll : l.length = n := h.1
  have HLL := Lib.hid hll
  have HST := Lib.hid (statesOf_dqRun k a n cap l W (h.below HB.out))
  obtain ⟨RB, hRB⟩ : ∃ RB, RB = Agg.dqRunOk k l := ⟨_, rfl⟩
  rw [← hRB] at HST ⊢
  have HRB := Lib.hid hRB
  obtain ⟨RS, hRS⟩ : ∃ RS, RS = Agg.dqRunS k l := ⟨_, rfl⟩
  obtain ⟨RN, hRN⟩ : ∃ RN, RN = Agg.dqRunN k l := ⟨_, rfl⟩
  rw [← hRS, ← hRN]
  have HRS := Lib.hid hRS
  have HRN := Lib.hid hRN
  clear hRS hRN
  have hWs : w.heap.size < W.heap.size := HZ.out.lt
  have hncap : n ≤ cap := h.2.1
  have hcm : cap ≤ 9223372036854775807 := by have := h.2.2.1; unfold maxLen at this; omega
  have hnm : n ≤ 9223372036854775807 := by omega
  clear hRB hll h
  go_enter Tryz.func7, Tryz.ntmps7
  go_upto_region 1 with (fail)
  rw [← hW]
  clear hW
  go_wp2_with fail
  refine HST.out.mono ?_
  rintro e w1 ⟨v1, rfl, hr1, hb1⟩
  have HZ1 := Lib.hid (HZ.out.call hb1)
  have HB1 := Lib.hid (HB.out.trans (hb1.mono HB.out.size))
  have hw1 : W.heap.size ≤ w1.heap.size := hb1.size
  clear hb1 HST HZ HB
  cases RB
  · obtain rfl : RS = Agg.zeroDq := by rw [HRS.out]; unfold Agg.dqRunS; rw [← HRB.out]; rfl
    obtain rfl : RN = [] := by rw [HRN.out]; unfold Agg.dqRunN; rw [← HRB.out]; rfl
    clear hr1
    obtain ⟨s0, s1, s2, s3, s4⟩ := HZ1.out.cells
    have e0 := HZ1.out.free
    go_wp2_with fail
    refine bodyPost_ret (by simp [results, Tryz.results7, go_sem, *]; try rfl) rfl ?_
    have hbb := f6_below5 HB1.out (Nat.le_refl _) (.slice none 0 0) (.slice none 0 0) (.int .i64 0) (.int .i64 0) (.int .i64 0)
    exact ⟨_, _, 0, _, rfl, ⟨_, _, rfl, ⟨rfl, hbb.size, Nat.le_refl _, .inl ⟨rfl, rfl⟩⟩, ⟨rfl, hbb.size, Nat.le_refl _, .inl ⟨rfl, rfl⟩⟩, .inl rfl⟩, ⟨World.ownsRow_nil _ _ _ _, Nat.le_refl _, Nat.le_refl _, fun g hg => by simp [Value.ownBlock] at hg⟩, hbb.size, Nat.le_refl _, hbb⟩
  · have hro := HRB.out.symm
    simp only [Agg.dqRunOk, Bool.and_eq_true] at hro
    obtain ⟨hk, hops⟩ := hro
    have hn2 : n ≤ 200 := by
      have := (Agg.opsOk_parts hops).1
      have := HLL.out
      omega
    have HREM := Lib.hid (And.intro hk hops)
    have e1 : RS = Agg.dqAt k l n := by rw [HRS.out]; unfold Agg.dqRunS; rw [← HRB.out, HLL.out]; rfl
    have e2 : RN = Agg.dqNs k l := by rw [HRN.out]; unfold Agg.dqRunN; rw [← HRB.out]; rfl
    have HRN2 := Lib.hid e2
    obtain ⟨c, hrow⟩ := hr1 (by first | rfl | trivial)
    obtain ⟨g, cap1, iv, pv, lo1, rfl, hq, hlo1, hoi, hop⟩ := hrow.own (i := n) (by omega)
    obtain ⟨g', cap', e4, hgb, hg, hcap1, hcm1, hread⟩ := hrow.read (by omega)
    simp only [Value.slice.injEq, Option.some.injEq, Addr.mk.injEq, and_true, true_and] at e4
    obtain ⟨rfl, rfl⟩ := e4
    have hat := hread 1 (by omega)
    rw [Nat.one_mul, Nat.add_sub_cancel] at hat
    have HAT := Lib.hid (fun X (hX : Below w1.heap.size w1 X) => hat.below hX)
    rw [← e1] at hq hoi hop
    obtain ⟨ia, ic, rfl, -⟩ := id hoi.nums
    obtain ⟨pa, pc, rfl, -⟩ := id hop.nums
    have HOI := Lib.hid hoi
    have HOP := Lib.hid hop.1
    have HAPT := Lib.hid hop.2
    have HQ := Lib.hid hq
    have HGL := Lib.hid hg
    have HG0 := Lib.hid (show w.heap.size < g by omega)
    have HW1 := Lib.hid (show w.heap.size < w1.heap.size by omega)
    have HLOW := Lib.hid (show w.heap.size < lo1 by omega)
    have hn0 : (0 : Int) ≤ (n : Int) := Int.natCast_nonneg _
    obtain ⟨N1, hN1⟩ : ∃ N1, N1 = n + 1 := ⟨_, rfl⟩
    rw [← hN1] at hcap1 ⊢
    have hkn : (n : Int) < (N1 : Int) := by omega
    have h1n : (1 : Int) ≤ (N1 : Int) := by omega
    have hnc1 : (N1 : Int) ≤ (cap1 : Int) := by omega
    have HN1 := Lib.hid hN1
    have hg1 : w1.heap.size = w1.heap.size := rfl
    clear hr1 hread hrow hk hops hat hoi hop hq hN1 e1 e2 HRS HRN hgb hg hlo1
    by_cases hc1 : cap1 = 1
    · subst hc1
      obtain rfl : n = 0 := by have := HN1.out; omega
      obtain rfl : N1 = 1 := HN1.out
      have hq0 := HQ.out
      simp only [Nat.zero_mul, Nat.zero_add] at hq0
      have HQ := Lib.hid hq0
      clear hq0
      go_wp2_with (at_make; go_must (refine wpList_make_own _ rfl _ _ 26 rfl w1.heap.size 3 i0 (.int .i64 0) 1 Tryz.underlying26 hi0 hz0 hz1 .i64 .i64 _ 0 rfl rfl rfl ?b1 ?b2 ?b3 ?_))
      case b1 => rw [hz2]; omega
      case b2 => unfold maxLen; omega
      case b3 => exact Nat.le_refl _
      intro w2 hown2 hgrow2
      have HO2 := Lib.hid (show w2.ownsRow w1.heap.size 3 1 (.slice (some ⟨w1.heap.size, 0, none⟩) 0 0) 0 (((Agg.dqNs k l).take 0).map (Value.int .i64)) from hown2)
      have HB2 := Lib.hid ((Below.refl w1.heap.size w1).grown hgrow2 (Nat.le_refl _) (fun k hk => by simp at hk))
      clear hown2 hgrow2
      go_wp2_with fail
      go_loopw [9, 27] (fun ov i wr => ∃ j : Nat, j ≤ 0 ∧ i = .int .i64 j ∧ Hid (wr.ownsRow w1.heap.size 3 1 ov j (((Agg.dqNs k l).take j).map (Value.int .i64))) ∧ Hid (Below w1.heap.size w1 wr)) (fun _ i _ => 0 - (intOf i).toNat)
      case atStart => exact ⟨0, Nat.zero_le _, rfl, HO2, HB2⟩
      case round =>
        obtain ⟨j, hj, rfl, ho, hw⟩ := hrel
        clear HO2 HB2
        have hwr := hw.out.size
        by_cases hlt : j < 0
        · exact absurd hlt (Nat.not_lt_zero _)
        · have hjn : j = 0 := by omega
          have ho2 := ho.out
          rw [List.take_of_length_le (by rw [Agg.dqNs_len]; have := HLL.out; omega), ← HRN2.out] at ho2
          have HO3 := Lib.hid ho2
          clear ho2 ho
          have hlt' : ¬ (j : Int) < ((0 : Nat) : Int) := by omega
          clear hjn hlt hj
          have hltN : ¬ (j : Int) < ((1 - 1 : Nat) : Int) := by have := HN1.out; omega
          have hltN2 : ¬ j < 1 - 1 := by have := HN1.out; omega
          have HZ3 := Lib.hid (HZ1.out.below hw.out (by have := HW1.out; omega))
          have HB3 := Lib.hid (HB1.out.trans (hw.out.mono HB1.out.size))
          have HI3 := Lib.hid (HOI.out.below hw.out)
          have HP3 := Lib.hid (HOP.out.below hw.out)
          have k5 := fun o => hw.out.cell (p := ⟨g, o, none⟩) HGL.out
          obtain ⟨p0, p1, p2, p3, p4⟩ := HQ.out
          have p0 := (k5 _).trans p0
          have p1 := (k5 _).trans p1
          have p2 := (k5 _).trans p2
          have p3 := (k5 _).trans p3
          have p4 := (k5 _).trans p4
          clear k5
          obtain ⟨z0, z1, z2, z3, z4⟩ := HZ3.out.cells
          have zf := HZ3.out.free
          obtain ⟨sv, hsv⟩ : ∃ sv, sv = w.heap.size := ⟨_, rfl⟩
          have hgs : g ≠ sv := by have := HG0.out; omega
          go_wp2_with fail
          refine bodyPost_ret (by simp [results, Tryz.results7, go_sem, *]; try rfl) rfl ?_
          have hbb := f6_below5 HB3.out (Nat.le_refl _) (.slice ia RS.items.length ic) (.slice pa RS.places.length pc) (.int .i64 RS.first) (.int .i64 RS.next) (.int .i64 RS.drops)
          have hlw : w.heap.size < lo1 := HLOW.out
          have hmid : w1.heap.size ≤ wr.heap.size := hw.out.size
          refine ⟨_, _, _, w1.heap.size, rfl, ⟨_, _, rfl, ?_, ?_, HAPT.out⟩, OwnR.of6d (own_sets5 HO3.out (fun g hg => by have := (HO3.out.lt g hg).1; have := HW1.out; omega) _ _ _ _ _) (Nat.le_refl _) (by rw [f6_size5]; exact hmid), HB1.out.size, by rw [f6_size5]; exact hmid, hbb⟩
          · exact (((((HI3.out.put hlw).put hlw).put hlw).put hlw).put hlw).wide (Nat.le_of_lt hlw) (Nat.le_refl _) (by rw [f6_size5]; exact hmid)
          · exact (((((HP3.out.put hlw).put hlw).put hlw).put hlw).put hlw).wide (Nat.le_of_lt hlw) (Nat.le_refl _) (by rw [f6_size5]; exact hmid)
    · have hcc : (1 : Int) < (cap1 : Int) := by omega
      have hcn : ¬ (1 : Int) = (cap1 : Int) := by omega
      go_wp2_with (at_make; go_must (refine wpList_make_own _ rfl _ _ 26 rfl w1.heap.size 3 i0 (.int .i64 0) 1 Tryz.underlying26 hi0 hz0 hz1 .i64 .i64 _ n rfl rfl rfl ?b1 ?b2 ?b3 ?_))
      case b1 => rw [hz2]; omega
      case b2 => unfold maxLen; omega
      case b3 => exact Nat.le_refl _
      intro w2 hown2 hgrow2
      have HO2 := Lib.hid (show w2.ownsRow w1.heap.size 3 1 (.slice (some ⟨w1.heap.size, 0, none⟩) 0 n) 0 (((Agg.dqNs k l).take 0).map (Value.int .i64)) from hown2)
      have HB2 := Lib.hid ((Below.refl w1.heap.size w1).grown hgrow2 (Nat.le_refl _) (fun k hk => by simp at hk))
      clear hown2 hgrow2
      go_wp2_with fail
      go_loopw [9, 27] (fun ov i wr => ∃ j : Nat, j ≤ n ∧ i = .int .i64 j ∧ Hid (wr.ownsRow w1.heap.size 3 1 ov j (((Agg.dqNs k l).take j).map (Value.int .i64))) ∧ Hid (Below w1.heap.size w1 wr)) (fun _ i _ => n - (intOf i).toNat)
      case atStart => exact ⟨0, Nat.zero_le _, rfl, HO2, HB2⟩
      case round =>
        obtain ⟨j, hj, rfl, ho, hw⟩ := hrel
        clear HO2 HB2
        have hwr := hw.out.size
        by_cases hlt : j < n
        · rcases (HAT.out _ hw.out).2.2 with h0 | ⟨b, off, e0, hbw, hcs⟩
          · omega
          · have hcj := hcs j (by omega)
            dsimp only at hcj
            clear hcs
            obtain ⟨gia, gic, gpa, gpc, ⟨q0, q1, q2, q3, q4⟩, r0, r1⟩ := hcj
            have hnum := Agg.dqNs_step k l j (by have := HLL.out; omega)
            obtain ⟨x0, b0, hx0, hcall⟩ := dequeNumber_run (Agg.dq_run_at HREM.out.1 HREM.out.2 (1 + j) (by have := HLL.out; omega)).1
            rw [show Agg.dqAt k l (j + 1) = Agg.dqAt k l (1 + j) by rw [Nat.add_comm], ← hx0] at hnum
            obtain ⟨S0, hS0⟩ : ∃ S0, S0 = Agg.dqAt k l (1 + j) := ⟨_, rfl⟩
            rw [← hS0] at hcall q0 q1 q2 q3 q4 r0 r1
            obtain ⟨x, hx⟩ : ∃ x, x = (if b0 = true then x0 else -1) := ⟨_, rfl⟩
            have hG := fun w => orNone_any x0 b0 w
            rw [← hx] at hnum hG
            have HCALL := Lib.hid hcall
            have HG := Lib.hid hG
            have HNUM := Lib.hid hnum
            have hk0 : (0 : Int) ≤ (j : Int) := Int.natCast_nonneg _
            have hkn : (j : Int) < ((n : Nat) : Int) := by omega
            have hkN : (j : Int) < ((N1 - 1 : Nat) : Int) := by have := HN1.out; omega
            have hkN2 : j < N1 - 1 := by have := HN1.out; omega
            have hlt' : ∀ q, u9.ownBlock = some q → w1.heap.size ≤ q := fun q hq => (ho.out.lt q hq).1
            simp only [Option.some.injEq, Addr.mk.injEq, and_true] at e0
            obtain ⟨rfl, rfl⟩ := e0
            obtain ⟨W5, hW5⟩ : ∃ W5, W5 = wr.alloc (.cells #[.slice gia S0.items.length gic, .slice gpa S0.places.length gpc, .int .i64 S0.first, .int .i64 S0.next, .int .i64 S0.drops] 28) := ⟨_, rfl⟩
            have hbn : Below wr.heap.size wr W5 := by rw [hW5]; exact (Below.refl _ _).alloc (Nat.le_refl _) _
            have HX5 := Lib.hid (show Box5 W5 wr.heap.size 28 (.slice gia S0.items.length gic) (.slice gpa S0.places.length gpc) (.int .i64 S0.first) (.int .i64 S0.next) (.int .i64 S0.drops) from by rw [hW5]; exact Box5.new wr _ _ _ _ _ _)
            have HF5 := Lib.hid (And.intro (r0.below hbn) (r1.below hbn))
            have HO5 := Lib.hid (ho.out.kept (Below.grownNone hbn none) (Classical.em _))
            have HB5 := Lib.hid (hw.out.trans (hbn.mono hwr))
            clear hbn r0 r1 hcall hG hnum hx0 hx hS0
            go_upto_region 8 with (fail)
            rw [← hW5]
            clear hW5 q0 q1 q2 q3 q4
            obtain ⟨q0, q1, q2, q3, q4⟩ := HX5.out.cells
            go_wp2_with fail
            refine (HCALL.out _ _ _ _ _ HF5.out.1 HF5.out.2).mono ?_
            rintro e w6 ⟨rfl, hb6⟩
            have HO6 := Lib.hid (HO5.out.kept (Below.grownNone hb6 none) (Classical.em _))
            have HB6 := Lib.hid (HB5.out.trans (hb6.mono HB5.out.size))
            have hs6 := HB6.out.size
            clear hb6 q0 q1 q2 q3 q4 HX5 HO5 HB5 HF5 HCALL
            go_wp2_with fail
            refine (HG.out _).mono ?_
            rintro e w8 ⟨rfl, rfl⟩
            clear HG
            go_wp2_with (at_builtin; refine wpList_append_own _ rfl (.tmp 31) (.tmp 38) 26 rfl w1.heap.size 3 i0 (.int .i64 0) 1 8 Tryz.underlying26 hi0 hz0 hz1 hz2 rfl (by decide) _ _ _ rfl (HO6.out.alloc _) ⟨w6.heap.size, 0, none⟩ 1 1 [.int .i64 x] rfl rfl (cell_one_new _ _ _) (ints_oneCell .i64 [x]) (by unfold maxLen; omega) (by omega) (by simp; omega) ?_; intro v' w9 hown5 hgrow5 hnil5; have HO9 := Lib.hid hown5; have HB9 := Lib.hid ((HB6.out.alloc HB6.out.size _).grown hgrow5 (by have := HB6.out.size; simp; omega) hlt'); clear hown5 hgrow5 hnil5)
            go_roundw
            case rel =>
              refine ⟨j + 1, by omega, by go_num, Lib.hid ?_, HB9⟩
              rw [HNUM.out, List.map_append]
              exact HO9.out
            case measure => simp [intOf]; omega
        · have hjn : j = n := by omega
          have ho2 := ho.out
          rw [List.take_of_length_le (by rw [Agg.dqNs_len]; have := HLL.out; omega), ← HRN2.out] at ho2
          have HO3 := Lib.hid ho2
          clear ho2 ho
          have hlt' : ¬ (j : Int) < ((n : Nat) : Int) := by omega
          clear hjn hlt hj
          have hltN : ¬ (j : Int) < ((N1 - 1 : Nat) : Int) := by have := HN1.out; omega
          have hltN2 : ¬ j < N1 - 1 := by have := HN1.out; omega
          have HZ3 := Lib.hid (HZ1.out.below hw.out (by have := HW1.out; omega))
          have HB3 := Lib.hid (HB1.out.trans (hw.out.mono HB1.out.size))
          have HI3 := Lib.hid (HOI.out.below hw.out)
          have HP3 := Lib.hid (HOP.out.below hw.out)
          have k5 := fun o => hw.out.cell (p := ⟨g, o, none⟩) HGL.out
          obtain ⟨p0, p1, p2, p3, p4⟩ := HQ.out
          have p0 := (k5 _).trans p0
          have p1 := (k5 _).trans p1
          have p2 := (k5 _).trans p2
          have p3 := (k5 _).trans p3
          have p4 := (k5 _).trans p4
          clear k5
          obtain ⟨z0, z1, z2, z3, z4⟩ := HZ3.out.cells
          have zf := HZ3.out.free
          obtain ⟨sv, hsv⟩ : ∃ sv, sv = w.heap.size := ⟨_, rfl⟩
          have hgs : g ≠ sv := by have := HG0.out; omega
          go_wp2_with fail
          refine bodyPost_ret (by simp [results, Tryz.results7, go_sem, *]; try rfl) rfl ?_
          have hbb := f6_below5 HB3.out (Nat.le_refl _) (.slice ia RS.items.length ic) (.slice pa RS.places.length pc) (.int .i64 RS.first) (.int .i64 RS.next) (.int .i64 RS.drops)
          have hlw : w.heap.size < lo1 := HLOW.out
          have hmid : w1.heap.size ≤ wr.heap.size := hw.out.size
          refine ⟨_, _, _, w1.heap.size, rfl, ⟨_, _, rfl, ?_, ?_, HAPT.out⟩, OwnR.of6d (own_sets5 HO3.out (fun g hg => by have := (HO3.out.lt g hg).1; have := HW1.out; omega) _ _ _ _ _) (Nat.le_refl _) (by rw [f6_size5]; exact hmid), HB1.out.size, by rw [f6_size5]; exact hmid, hbb⟩
          · exact (((((HI3.out.put hlw).put hlw).put hlw).put hlw).put hlw).wide (Nat.le_of_lt hlw) (Nat.le_refl _) (by rw [f6_size5]; exact hmid)
          · exact (((((HP3.out.put hlw).put hlw).put hlw).put hlw).put hlw).wide (Nat.le_of_lt hlw) (Nat.le_refl _) (by rw [f6_size5]; exact hmid)
theorem dequeRun_any (k : Int) (a : Option Addr) (n cap : Nat) (l : List (Bool × Int)) (w : World) (h : Ops w a n cap l) :
    Calls Tryz.prog 7 #[.int .i64 k, .slice a n cap] w (DqRunOut (Agg.dqRunOk k l) (Agg.dqRunS k l) (Agg.dqRunN k l) w) :=
  (dequeRun_apart k a n cap l w h).mono fun _ _ hh => hh.out
end Go.Proofs.YtolgclajlklmaaaGreat
