/-
  The model's DequeStep.
-/
import Derived.Test.Ytolgclajlklmaaa6yg
import Derived.Test.Ytolgclajlklmaaa6yn
namespace Go.Proofs.Ytolgclajlklmaaa
set_option linter.unusedSimpArgs false
set_option linter.unusedVariables false
open Go.RowKit
set_option maxRecDepth 8000 in
set_option maxHeartbeats 4000000 in
theorem s_dequeStep_any (k : Int) (ia : Option Addr) (n ic : Nat) (pa : Option Addr) (m pc : Nat) (fi nx dr : Int) (I P : List Int) (p : Bool) (x : Int) (w : World) (hI : Nums .i64 w ia n ic I) (hP : Nums .i64 w pa m pc P) :
    Calls Try.prog 26 #[.int .i64 k, .agg #[.slice ia n ic, .slice pa m pc, .int .i64 fi, .int .i64 nx, .int .i64 dr], .agg #[.bool p, .int .i64 x]] w (DqOut (Agg.dqCan k ⟨I, P, fi, nx, dr⟩ (p, x)) (Agg.aDq k ⟨I, P, fi, nx, dr⟩ (p, x)) w) := by
  obtain ⟨W, hW⟩ : ∃ W, W = ((w.alloc (.cells #[.slice ia n ic, .slice pa m pc, .int .i64 fi, .int .i64 nx, .int .i64 dr] 26)).alloc (.cells #[.bool p, .int .i64 x] 40)).alloc (.cells #[.slice none 0 0, .slice none 0 0, .int .i64 0, .int .i64 0, .int .i64 0] 26) := ⟨_, rfl⟩
  have HS := Lib.hid (show Box5 W w.heap.size 26 (.slice ia n ic) (.slice pa m pc) (.int .i64 fi) (.int .i64 nx) (.int .i64 dr) from by rw [hW]; exact ((Box5.new w _ _ _ _ _ _).alloc _).alloc _)
  have HO := Lib.hid (show Box2d W (w.heap.size + 1) 40 (.bool p) (.int .i64 x) from by rw [hW]; exact (Box2d.new1 _ _ _ (by simp)).alloc _)
  have HR := Lib.hid (show Box5 W (w.heap.size + 1 + 1) 26 (.slice none 0 0) (.slice none 0 0) (.int .i64 0) (.int .i64 0) (.int .i64 0) from by rw [hW]; exact Box5.new1 _ _ _ _ _ _ (by simp))
  have HB := Lib.hid (show Below w.heap.size w W from by rw [hW]; exact (((Below.refl _ _).alloc (Nat.le_refl _) _).alloc (by simp) _).alloc (by simp; omega) _)
  have HIL := Lib.hid (show I.length = n from hI.1)
  have HPL := Lib.hid (show P.length = m from hP.1)
  have hV := fun w hI hP => s_dequeValid_any k ia n ic pa m pc fi nx dr I P w hI hP
  have HI := Lib.hid hI
  have HP := Lib.hid hP
  clear hI hP
  obtain ⟨q0, q1, q2, q3, q4⟩ := HS.out.cells
  obtain ⟨p0, p1⟩ := HO.out.cells
  cases hv : Agg.dqOk k ⟨I, P, fi, nx, dr⟩
  · have hc : Agg.dqCan k ⟨I, P, fi, nx, dr⟩ (p, x) = false := by simp [Agg.dqCan, hv]
    rw [show Agg.aDq k ⟨I, P, fi, nx, dr⟩ (p, x) = Agg.zeroDq by simp [Agg.aDq, hc], hc]
    rw [hv] at hV
    have HV := Lib.hid hV
    clear hV hv hc
    go_enter Try.func26, Try.ntmps26
    go_upto_region 1 with (fail)
    rw [← hW]
    clear hW
    go_wp2_with fail
    refine (HV.out _ (HI.out.below HB.out) (HP.out.below HB.out)).mono ?_
    rintro e w1 ⟨rfl, hb1⟩
    have HR := Lib.hid (HR.out.call hb1)
    have HB := Lib.hid (HB.out.trans (hb1.mono HB.out.size))
    clear hb1
    obtain ⟨s0, s1, s2, s3, s4⟩ := HR.out.cells
    have sf := HR.out.free
    go_wp2_with fail
    refine bodyPost_ret (by simp [results, Try.results26, go_sem, *]; try rfl) rfl ?_
    exact DqOut.zero (f6_below5 HB.out (by omega) _ _ _ _ _)
  · obtain ⟨hk, hit, hL, hr, hs, -, -, -⟩ := Agg.dqOk_parts hv
    simp only at hit hL hr hs
    have hlen := Agg.items_len hit
    have hm : n = m := by have := HIL.out; have := HPL.out; omega
    subst hm
    have hn60 : n ≤ 60 := by have := HIL.out; omega
    obtain ⟨hr0, hr1, hr2, hr3, hr4, hr5⟩ := hr
    rw [hv] at hV
    have HV := Lib.hid hV
    by_cases hbig : nx ≤ 900000 ∧ dr ≤ 900000
    · obtain ⟨hnx, hdr⟩ := hbig
      have hnx' : ¬ (900000 < nx) := by omega
      have hdr' : ¬ (900000 < dr) := by omega
      cases hcan : Agg.can (p, x) (nx - fi)
      · have hc : Agg.dqCan k ⟨I, P, fi, nx, dr⟩ (p, x) = false := by simp [Agg.dqCan, hcan]
        rw [show Agg.aDq k ⟨I, P, fi, nx, dr⟩ (p, x) = Agg.zeroDq by simp [Agg.aDq, hc], hc]
        have HL := Lib.hid (fun w hI hP => s_l6Deque_not k ia n ic pa pc fi nx dr I P p x w hI hP hn60 hcan hs.1 hr0 hr1 hr2 hr3)
        clear hV hc hcan
        go_enter Try.func26, Try.ntmps26
        go_upto_region 1 with (fail)
        rw [← hW]
        clear hW
        go_wp2_with fail
        refine (HV.out _ (HI.out.below HB.out) (HP.out.below HB.out)).mono ?_
        rintro e w1 ⟨rfl, hb1⟩
        have HS := Lib.hid (HS.out.call hb1)
        have HO := Lib.hid (HO.out.call hb1)
        have HR := Lib.hid (HR.out.call hb1)
        have HB := Lib.hid (HB.out.trans (hb1.mono HB.out.size))
        clear hb1 q0 q1 q2 q3 q4 p0 p1
        obtain ⟨q0, q1, q2, q3, q4⟩ := HS.out.cells
        obtain ⟨p0, p1⟩ := HO.out.cells
        go_wp2_with fail
        refine (HL.out _ (HI.out.below HB.out) (HP.out.below HB.out)).mono ?_
        rintro e w2 ⟨rfl, hb2⟩
        obtain ⟨W3, hW3⟩ : ∃ W3, W3 = w2.alloc (.cells #[.slice ia n ic, .slice pa n pc, .int .i64 fi, .int .i64 nx, .int .i64 dr] 26) := ⟨_, rfl⟩
        have hb3 : Below w2.heap.size w2 W3 := by rw [hW3]; exact (Below.refl _ _).alloc (Nat.le_refl _) _
        have hbb := hb2.trans (hb3.mono hb2.size)
        have HR := Lib.hid (HR.out.call hbb)
        have HB := Lib.hid (HB.out.trans (hbb.mono HB.out.size))
        clear hb2 hb3 hbb q0 q1 q2 q3 q4 p0 p1
        go_upto_region 4 with (fail)
        rw [← hW3]
        clear hW3
        obtain ⟨s0, s1, s2, s3, s4⟩ := HR.out.cells
        have sf := HR.out.free
        go_wp2_with fail
        refine bodyPost_ret (by simp [results, Try.results26, go_sem, *]; try rfl) rfl ?_
        exact DqOut.zero (f6_below5 HB.out (by omega) _ _ _ _ _)
      · have hc : Agg.dqCan k ⟨I, P, fi, nx, dr⟩ (p, x) = true := by simp [Agg.dqCan, hcan, hv, hnx, hdr]
        have hb9 := Agg.aDq_bound k ⟨I, P, fi, nx, dr⟩ (p, x)
        have hL : ∀ w, Nums .i64 w ia n ic I → Nums .i64 w pa n pc P → Calls Try.prog 51 #[.int .i64 k, .agg #[.slice ia n ic, .slice pa n pc, .int .i64 fi, .int .i64 nx, .int .i64 dr], .agg #[.bool p, .int .i64 x]] w (L6Dq (Agg.aDq k ⟨I, P, fi, nx, dr⟩ (p, x)) w) := by
          intro w hI hP
          have e : Agg.aDq k ⟨I, P, fi, nx, dr⟩ (p, x) = Agg.stepD k ⟨I, P, fi, nx, dr⟩ (p, x) := by simp [Agg.aDq, hc]
          rw [e]
          cases p
          · obtain ⟨rfl, hpos⟩ := Agg.can_pop hcan
            have hn0 := Agg.dqOk_some hv (show 0 < nx - fi from hpos)
            simp only [HIL.out] at hn0
            exact s_l6Deque_pop k ia n ic pa pc fi nx dr I P w hI hP hn60 hn0 hpos hr0 hr1 hr2 hr3
          · obtain ⟨hx, hpos⟩ := Agg.can_push hcan
            exact s_l6Deque_push k ia n ic pa pc fi nx dr I P x w hI hP hn60 hx hpos hr0 hr1 hr2 hnx hr4 hdr
        rw [hc]
        obtain ⟨⟨SI, SP, sf', sn, sd⟩, hS⟩ : ∃ S, S = Agg.aDq k ⟨I, P, fi, nx, dr⟩ (p, x) := ⟨_, rfl⟩
        rw [← hS] at hL hb9 ⊢
        simp only at hb9
        have HL := Lib.hid hL
        clear hV hc hcan hL hS hv hit
        go_enter Try.func26, Try.ntmps26
        go_upto_region 1 with (fail)
        rw [← hW]
        clear hW
        go_wp2_with fail
        refine (HV.out _ (HI.out.below HB.out) (HP.out.below HB.out)).mono ?_
        rintro e w1 ⟨rfl, hb1⟩
        have HS := Lib.hid (HS.out.call hb1)
        have HO := Lib.hid (HO.out.call hb1)
        have HR := Lib.hid (HR.out.call hb1)
        have HB := Lib.hid (HB.out.trans (hb1.mono HB.out.size))
        clear hb1 q0 q1 q2 q3 q4 p0 p1
        obtain ⟨q0, q1, q2, q3, q4⟩ := HS.out.cells
        obtain ⟨p0, p1⟩ := HO.out.cells
        go_wp2_with fail
        refine (HL.out _ (HI.out.below HB.out) (HP.out.below HB.out)).mono ?_
        rintro e w2 ⟨ga, gc, qa, qc, rfl, hg, hq, -, hb2⟩
        simp only at hg hq
        obtain ⟨W3, hW3⟩ : ∃ W3, W3 = w2.alloc (.cells #[.slice ga SI.length gc, .slice qa SP.length qc, .int .i64 sf', .int .i64 sn, .int .i64 sd] 26) := ⟨_, rfl⟩
        have hb3 : Below w2.heap.size w2 W3 := by rw [hW3]; exact (Below.refl _ _).alloc (Nat.le_refl _) _
        have HU := Lib.hid (show Box5 W3 w2.heap.size 26 (.slice ga SI.length gc) (.slice qa SP.length qc) (.int .i64 sf') (.int .i64 sn) (.int .i64 sd) from by rw [hW3]; exact Box5.new _ _ _ _ _ _ _)
        have HG := Lib.hid (hg.below hb3)
        have HQ := Lib.hid (hq.below hb3)
        have hbb := hb2.trans (hb3.mono hb2.size)
        have HR := Lib.hid (HR.out.call hbb)
        have HB := Lib.hid (HB.out.trans (hbb.mono HB.out.size))
        clear hb2 hb3 hbb hg hq q0 q1 q2 q3 q4 p0 p1
        go_upto_region 4 with (fail)
        rw [← hW3]
        clear hW3
        obtain ⟨q0, q1, q2, q3, q4⟩ := HU.out.cells
        go_wp2_with fail
        refine (s_l6Copy_any _ _ _ _ _ _ _ _ _ SI SP _ HG.out HQ.out (by omega) (by omega)).mono ?_
        rintro e w4 ⟨v4, rfl, hd4, hb4⟩
        have hrl := HR.out.lt
        have HR := Lib.hid (HR.out.call hb4)
        have HB := Lib.hid (HB.out.trans (hb4.mono HB.out.size))
        have hzz := HB.out.size
        obtain ⟨ia4, ic4, pa4, pc4, rfl, -, -⟩ := hd4.read
        simp only at hd4
        have HD := Lib.hid hd4
        clear hb4 hd4 q0 q1 q2 q3 q4
        obtain ⟨s0, s1, s2, s3, s4⟩ := HR.out.cells
        have sf := HR.out.free
        go_wp2_with fail
        refine bodyPost_ret (by simp [results, Try.results26, go_sem, *]; try rfl) rfl ?_
        have hbf := f6_below5 (c := w.heap.size + 1 + 1) HB.out (by omega) (.slice ia4 SI.length ic4) (.slice pa4 SP.length pc4) (.int .i64 sf') (.int .i64 sn) (.int .i64 sd)
        exact ⟨_, rfl, (HD.out.set5 (.inl (by omega)) _ _ _ _ _).wide (by omega) (by rw [f6_size5]; exact Nat.le_refl _) (by rw [f6_size5]; exact Nat.le_refl _), hbf⟩
    · have hc : Agg.dqCan k ⟨I, P, fi, nx, dr⟩ (p, x) = false := by
        simp only [Agg.dqCan, Bool.and_eq_false_iff, decide_eq_false_iff_not]
        by_cases h : nx ≤ 900000
        · exact .inl (.inr (fun h2 => hbig ⟨h, h2⟩))
        · exact .inl (.inl (.inr h))
      rw [show Agg.aDq k ⟨I, P, fi, nx, dr⟩ (p, x) = Agg.zeroDq by simp [Agg.aDq, hc], hc]
      clear hV hc hv
      by_cases hnx : 900000 < nx
      · go_enter Try.func26, Try.ntmps26
        go_upto_region 1 with (fail)
        rw [← hW]
        clear hW
        go_wp2_with fail
        refine (HV.out _ (HI.out.below HB.out) (HP.out.below HB.out)).mono ?_
        rintro e w1 ⟨rfl, hb1⟩
        have HS := Lib.hid (HS.out.call hb1)
        have HR := Lib.hid (HR.out.call hb1)
        have HB := Lib.hid (HB.out.trans (hb1.mono HB.out.size))
        clear hb1 q0 q1 q2 q3 q4 p0 p1
        obtain ⟨q0, q1, q2, q3, q4⟩ := HS.out.cells
        obtain ⟨s0, s1, s2, s3, s4⟩ := HR.out.cells
        have sf := HR.out.free
        go_wp2_with fail
        refine bodyPost_ret (by simp [results, Try.results26, go_sem, *]; try rfl) rfl ?_
        exact DqOut.zero (f6_below5 HB.out (by omega) _ _ _ _ _)
      · have hdr : 900000 < dr := by omega
        go_enter Try.func26, Try.ntmps26
        go_upto_region 1 with (fail)
        rw [← hW]
        clear hW
        go_wp2_with fail
        refine (HV.out _ (HI.out.below HB.out) (HP.out.below HB.out)).mono ?_
        rintro e w1 ⟨rfl, hb1⟩
        have HS := Lib.hid (HS.out.call hb1)
        have HR := Lib.hid (HR.out.call hb1)
        have HB := Lib.hid (HB.out.trans (hb1.mono HB.out.size))
        clear hb1 q0 q1 q2 q3 q4 p0 p1
        obtain ⟨q0, q1, q2, q3, q4⟩ := HS.out.cells
        obtain ⟨s0, s1, s2, s3, s4⟩ := HR.out.cells
        have sf := HR.out.free
        go_wp2_with fail
        refine bodyPost_ret (by simp [results, Try.results26, go_sem, *]; try rfl) rfl ?_
        exact DqOut.zero (f6_below5 HB.out (by omega) _ _ _ _ _)
end Go.Proofs.Ytolgclajlklmaaa
