/-
  The program's DequeStep.
-/
import Derived.Test.Ytolgclajlklmaaa6yd
import Derived.Test.Ytolgclajlklmaaa6yw
namespace Go.Proofs.Ytolgclajlklmaaa
set_option linter.unusedSimpArgs false
set_option linter.unusedVariables false
open Go.RowKit
/-- A push, whatever the deque keeps. -/
theorem pushOver_all {k : Int} {T fl : Nat} (O : OrdAt k T fl) (b1 b2 n : Nat) (ia : Option Addr) (ic : Nat) (pa : Option Addr) (pc : Nat) (fi nx dr x : Int) (I P : List Int) (w : World)
    (hI : w.ownsRow b1 3 1 (.slice ia n ic) n (I.map (Value.int .i64))) (hP : w.ownsRow b2 3 1 (.slice pa n pc) n (P.map (Value.int .i64))) (hlt : ∀ g, (Value.slice ia n ic).ownBlock = some g → g < b2) (hb : b1 ≤ b2) (hb2 : b2 ≤ w.heap.size)
    (hn : n ≤ 60) (hd0 : 0 ≤ dr) (hd1 : dr ≤ 900000) (hx0 : 0 ≤ nx) (hx1 : nx ≤ 900000) :
    Calls Try.prog 68 #[.iface T (.agg #[]), .agg #[.slice ia n ic, .slice pa n pc, .int .i64 fi, .int .i64 nx, .int .i64 dr], .int .i64 x] w (PoFin b1 (Agg.pushD k ⟨I, P, fi, nx, dr⟩ x) w) := by
  rcases Nat.eq_zero_or_pos n with h0 | h0
  · subst h0
    have hIl : I.length = 0 := by have := hI.1; simpa using this
    have hPl : P.length = 0 := by have := hP.1; simpa using this
    obtain rfl := List.length_eq_zero_iff.1 hIl
    obtain rfl := List.length_eq_zero_iff.1 hPl
    rcases hI.2 with ⟨e1, -⟩ | ⟨g1, c1, cur1, e1, -⟩
    · simp only [Value.slice.injEq, true_and] at e1
      obtain ⟨rfl, rfl⟩ := e1
      rcases hP.2 with ⟨e2, -⟩ | ⟨g2, c2, cur2, e2, -⟩
      · simp only [Value.slice.injEq, true_and] at e2
        obtain ⟨rfl, rfl⟩ := e2
        exact pushOver_nn O b1 b2 0 0 0 0 fi nx dr x w hI hP hlt hb hb2 hx0 hx1
      · simp only [Value.slice.injEq, true_and] at e2
        obtain ⟨rfl, rfl⟩ := e2
        exact pushOver_ns O b1 b2 0 0 g2 _ fi nx dr x w hI hP hlt hb hb2 hx0 hx1
    · simp only [Value.slice.injEq, true_and] at e1
      obtain ⟨rfl, rfl⟩ := e1
      rcases hP.2 with ⟨e2, -⟩ | ⟨g2, c2, cur2, e2, -⟩
      · simp only [Value.slice.injEq, true_and] at e2
        obtain ⟨rfl, rfl⟩ := e2
        exact pushOver_sn O b1 b2 g1 _ 0 0 fi nx dr x w hI hP hlt hb hb2 hx0 hx1
      · simp only [Value.slice.injEq, true_and] at e2
        obtain ⟨rfl, rfl⟩ := e2
        exact pushOver_ss O b1 b2 g1 _ g2 _ fi nx dr x w hI hP hlt hb hb2 hx0 hx1
  · obtain ⟨g1, rfl, -⟩ := own_some hI h0
    obtain ⟨g2, rfl, -⟩ := own_some hP h0
    exact pushOver_some O b1 b2 n g1 ic g2 pc fi nx dr x I P w hI hP hlt hb hb2 hn hd0 hd1 hx0 hx1
/-- The variables of a change under way. -/
structure DqJ (w : World) (iv pv : Value) (fi nx dr : Int) (p : Bool) (x : Int) (W : World) : Prop where
  s : Box5 W w.heap.size 26 iv pv (.int .i64 fi) (.int .i64 nx) (.int .i64 dr)
  o : Box2d W (w.heap.size + 1) 40 (.bool p) (.int .i64 x)
  r : Box5 W (w.heap.size + 1 + 1) 26 (.slice none 0 0) (.slice none 0 0) (.int .i64 0) (.int .i64 0) (.int .i64 0)
  b : Below w.heap.size w W
section
variable {w X Y : World} {iv pv : Value} {fi nx dr : Int} {p : Bool} {x : Int}
theorem DqJ.call (h : DqJ w iv pv fi nx dr p x X) (hb : Below X.heap.size X Y) : DqJ w iv pv fi nx dr p x Y := ⟨h.s.call hb, h.o.call hb, h.r.call hb, h.b.trans (hb.mono h.b.size)⟩
theorem DqJ.lt (h : DqJ w iv pv fi nx dr p x X) : w.heap.size + 3 ≤ X.heap.size := by have := h.r.lt; omega
theorem DqJ.setI (h : DqJ w iv pv fi nx dr p x X) (v : Value) : DqJ w v pv fi nx dr p x (X.setCell ⟨w.heap.size, 0, none⟩ v) := ⟨h.s.set0 _, h.o.other (by omega) _ _, h.r.other (by omega) _ _, h.b.setCell (Nat.le_refl _) _⟩
theorem DqJ.setP (h : DqJ w iv pv fi nx dr p x X) (v : Value) : DqJ w iv v fi nx dr p x (X.setCell ⟨w.heap.size, 1, none⟩ v) := ⟨h.s.set1 _, h.o.other (by omega) _ _, h.r.other (by omega) _ _, h.b.setCell (Nat.le_refl _) _⟩
theorem DqJ.touch {b1 : Nat} (h : DqJ w iv pv fi nx dr p x X) (ht : Touch b1 X.heap.size X Y) (hb : w.heap.size + 3 ≤ b1) : DqJ w iv pv fi nx dr p x Y :=
  ⟨touch_block h.s ht (by omega), touch_block h.o ht (by omega), touch_block h.r ht (by omega), ht.below h.b (Nat.le_refl _) (by omega)⟩
end
set_option maxRecDepth 8000 in
set_option maxHeartbeats 8000000 in
theorem dequeStep_any (k : Int) (ia : Option Addr) (n ic : Nat) (pa : Option Addr) (m pc : Nat) (fi nx dr : Int) (I P : List Int) (pp : Bool) (x : Int) (w : World) (hI : Nums .i64 w ia n ic I) (hP : Nums .i64 w pa m pc P) :
    Calls Try.prog 25 #[.int .i64 k, .agg #[.slice ia n ic, .slice pa m pc, .int .i64 fi, .int .i64 nx, .int .i64 dr], .agg #[.bool pp, .int .i64 x]] w (DqOut (Agg.dqCan k ⟨I, P, fi, nx, dr⟩ (pp, x)) (Agg.aDq k ⟨I, P, fi, nx, dr⟩ (pp, x)) w) := by
  obtain ⟨W, hW⟩ : ∃ W, W = ((w.alloc (.cells #[.slice ia n ic, .slice pa m pc, .int .i64 fi, .int .i64 nx, .int .i64 dr] 26)).alloc (.cells #[.bool pp, .int .i64 x] 40)).alloc (.cells #[.slice none 0 0, .slice none 0 0, .int .i64 0, .int .i64 0, .int .i64 0] 26) := ⟨_, rfl⟩
  have HJ := Lib.hid (show DqJ w (.slice ia n ic) (.slice pa m pc) fi nx dr pp x W from by
    rw [hW]
    exact ⟨((Box5.new w _ _ _ _ _ _).alloc _).alloc _, (Box2d.new1 _ _ _ (by simp)).alloc _, Box5.new1 _ _ _ _ _ _ (by simp), (((Below.refl _ _).alloc (Nat.le_refl _) _).alloc (by simp) _).alloc (by simp; omega) _⟩)
  have HIL := Lib.hid (show I.length = n from hI.1)
  have HPL := Lib.hid (show P.length = m from hP.1)
  have hV := fun w hI hP => dequeValid_any k ia n ic pa m pc fi nx dr I P w hI hP
  have HI0 := Lib.hid hI
  have HP0 := Lib.hid hP
  clear hI hP
  obtain ⟨q0, q1, q2, q3, q4⟩ := HJ.out.s.cells
  obtain ⟨p0, p1⟩ := HJ.out.o.cells
  cases hr : Agg.isOrd k
  · have hv : Agg.dqOk k ⟨I, P, fi, nx, dr⟩ = false := Agg.dqOk_not_kind hr
    have hc : Agg.dqCan k ⟨I, P, fi, nx, dr⟩ (pp, x) = false := by simp [Agg.dqCan, hv]
    rw [show Agg.aDq k ⟨I, P, fi, nx, dr⟩ (pp, x) = Agg.zeroDq by simp [Agg.aDq, hc], hc]
    have HR := Lib.hid hr
    clear hV hv hc hr
    go_enter Try.func25, Try.ntmps25
    go_upto_region 1 with (fail)
    rw [← hW]
    clear hW
    go_wp2_with fail
    refine (orderOf_not k _ HR.out).mono ?_
    rintro e w1 ⟨rfl, rfl⟩
    obtain ⟨s0, s1, s2, s3, s4⟩ := HJ.out.r.cells
    have sf := HJ.out.r.free
    go_wp2_with fail
    refine bodyPost_ret (by simp [results, Try.results25, go_sem, *]; try rfl) rfl ?_
    exact DqOut.zero (f6_below5 HJ.out.b (by omega) _ _ _ _ _)
  · obtain ⟨T, fl, O⟩ := ord_at hr
    have HRO := Lib.hid O.of
    cases hv : Agg.dqOk k ⟨I, P, fi, nx, dr⟩
    · have hc : Agg.dqCan k ⟨I, P, fi, nx, dr⟩ (pp, x) = false := by simp [Agg.dqCan, hv]
      rw [show Agg.aDq k ⟨I, P, fi, nx, dr⟩ (pp, x) = Agg.zeroDq by simp [Agg.aDq, hc], hc]
      rw [hv] at hV
      have HV := Lib.hid hV
      clear hV hv hc hr O
      go_enter Try.func25, Try.ntmps25
      go_upto_region 1 with (fail)
      rw [← hW]
      clear hW
      go_wp2_with fail
      refine (HRO.out _).mono ?_
      rintro e w0 ⟨rfl, rfl⟩
      go_wp2_with fail
      refine (HV.out _ (HI0.out.below HJ.out.b) (HP0.out.below HJ.out.b)).mono ?_
      rintro e w1 ⟨rfl, hb1⟩
      have HJ := Lib.hid (HJ.out.call hb1)
      clear hb1 q0 q1 q2 q3 q4 p0 p1
      obtain ⟨q0, q1, q2, q3, q4⟩ := HJ.out.s.cells
      obtain ⟨p0, p1⟩ := HJ.out.o.cells
      obtain ⟨s0, s1, s2, s3, s4⟩ := HJ.out.r.cells
      have sf := HJ.out.r.free
      go_wp2_with fail
      refine bodyPost_ret (by simp [results, Try.results25, go_sem, *]; try rfl) rfl ?_
      exact DqOut.zero (f6_below5 HJ.out.b (by omega) _ _ _ _ _)
    · obtain ⟨hk, hit, hL, hrr, hs, -, -, -⟩ := Agg.dqOk_parts hv
      simp only at hit hL hrr hs
      have hlen := Agg.items_len hit
      have hmn : n = m := by have := HIL.out; have := HPL.out; omega
      subst hmn
      have hn60 : n ≤ 60 := by have := HIL.out; omega
      obtain ⟨hr0, hr1, hr2, hr3, hr4, hr5⟩ := hrr
      rw [hv] at hV
      have HV := Lib.hid hV
      have hsw : IntKind.i64.wrap (nx - fi) = nx - fi := IntWalk.i64_in _ ⟨by omega, by omega⟩
      by_cases hle : dr ≤ nx
      all_goals
        by_cases hbig : nx ≤ 900000 ∧ dr ≤ 900000
        · obtain ⟨hnx, hdr⟩ := hbig
          have hnx' : ¬ (900000 < nx) := by omega
          have hdr' : ¬ (900000 < dr) := by omega
          have hC := fun w => canChange_any pp x (nx - fi) w
          cases hcan : Agg.can (pp, x) (nx - fi)
          · have hc : Agg.dqCan k ⟨I, P, fi, nx, dr⟩ (pp, x) = false := by simp [Agg.dqCan, hcan]
            rw [show Agg.aDq k ⟨I, P, fi, nx, dr⟩ (pp, x) = Agg.zeroDq by simp [Agg.aDq, hc], hc]
            rw [hcan] at hC
            have HC := Lib.hid hC
            clear hV hc hcan hC hv O
            go_enter Try.func25, Try.ntmps25
            go_upto_region 1 with (fail)
            rw [← hW]
            clear hW
            go_wp2_with fail
            refine (HRO.out _).mono ?_
            rintro e w0 ⟨rfl, rfl⟩
            go_wp2_with fail
            refine (HV.out _ (HI0.out.below HJ.out.b) (HP0.out.below HJ.out.b)).mono ?_
            rintro e w1 ⟨rfl, hb1⟩
            have HJ := Lib.hid (HJ.out.call hb1)
            clear hb1 q0 q1 q2 q3 q4 p0 p1
            obtain ⟨q0, q1, q2, q3, q4⟩ := HJ.out.s.cells
            obtain ⟨p0, p1⟩ := HJ.out.o.cells
            go_wp2_with fail
            refine (HC.out _).mono ?_
            rintro e w2 ⟨rfl, hb2⟩
            have HJ := Lib.hid (HJ.out.call hb2)
            clear hb2 q0 q1 q2 q3 q4 p0 p1
            obtain ⟨q0, q1, q2, q3, q4⟩ := HJ.out.s.cells
            obtain ⟨p0, p1⟩ := HJ.out.o.cells
            obtain ⟨s0, s1, s2, s3, s4⟩ := HJ.out.r.cells
            have sf := HJ.out.r.free
            go_wp2_with fail
            refine bodyPost_ret (by simp [results, Try.results25, go_sem, *]; try rfl) rfl ?_
            exact DqOut.zero (f6_below5 HJ.out.b (by omega) _ _ _ _ _)
          · have hc : Agg.dqCan k ⟨I, P, fi, nx, dr⟩ (pp, x) = true := by simp [Agg.dqCan, hcan, hv, hnx, hdr]
            rw [hcan] at hC
            have HC := Lib.hid hC
            rw [hc, show Agg.aDq k ⟨I, P, fi, nx, dr⟩ (pp, x) = Agg.stepD k ⟨I, P, fi, nx, dr⟩ (pp, x) by simp [Agg.aDq, hc]]
            have HO := Lib.hid O
            rcases Bool.eq_false_or_eq_true pp with hpp | hpp
            rotate_left
            · obtain ⟨hx0, hpos⟩ := Agg.can_pop (show Agg.can (false, x) (nx - fi) = true by rw [← hpp]; exact hcan)
              have hn0 := Agg.dqOk_some hv (show 0 < nx - fi from hpos)
              simp only [HIL.out] at hn0
              rw [show Agg.stepD k ⟨I, P, fi, nx, dr⟩ (pp, x) = Agg.popD ⟨I, P, fi, nx, dr⟩ by rw [hpp]; rfl]
              obtain ⟨S, hS⟩ : ∃ S, S = Agg.popD ⟨I, P, fi, nx, dr⟩ := ⟨_, rfl⟩
              rw [← hS]
              have HS := Lib.hid hS
              clear hS
              have HPP := Lib.hid hpp
              clear hV hc hcan hC hv O hx0 hpp
              go_enter Try.func25, Try.ntmps25
              go_upto_region 1 with (fail)
              rw [← hW]
              clear hW
              go_wp2_with fail
              refine (HRO.out _).mono ?_
              rintro e w0 ⟨rfl, rfl⟩
              go_wp2_with fail
              refine (HV.out _ (HI0.out.below HJ.out.b) (HP0.out.below HJ.out.b)).mono ?_
              rintro e w1 ⟨rfl, hb1⟩
              have HJ := Lib.hid (HJ.out.call hb1)
              clear hb1 q0 q1 q2 q3 q4 p0 p1
              obtain ⟨q0, q1, q2, q3, q4⟩ := HJ.out.s.cells
              obtain ⟨p0, p1⟩ := HJ.out.o.cells
              go_wp2_with fail
              refine (HC.out _).mono ?_
              rintro e w2 ⟨rfl, hb2⟩
              have HJ := Lib.hid (HJ.out.call hb2)
              clear hb2 q0 q1 q2 q3 q4 p0 p1
              obtain ⟨q0, q1, q2, q3, q4⟩ := HJ.out.s.cells
              obtain ⟨p0, p1⟩ := HJ.out.o.cells
              go_wp2_with fail
              refine (clone_any ia n ic I _ (HI0.out.below HJ.out.b) (by omega)).mono ?_
              rintro e w4 ⟨v4, m4, rfl, ho4, hb4⟩
              obtain rfl : n = m4 := by have h := ho4.1; have := HIL.out; simp at h; omega
              obtain ⟨ja, jc, rfl⟩ := slice_own ho4
              obtain ⟨b1, hb1e⟩ : ∃ b1, b1 = w2.heap.size := ⟨_, rfl⟩
              rw [← hb1e] at ho4
              have hb13 : w.heap.size + 3 ≤ b1 := by rw [hb1e]; exact HJ.out.lt
              have hb1l : b1 ≤ w4.heap.size := by rw [hb1e]; exact hb4.size
              have HJ := Lib.hid (HJ.out.call hb4)
              have f0 := HJ.out.s.free
              clear hb4 hb1e q0 q1 q2 q3 q4 p0 p1
              obtain ⟨q0, q1, q2, q3, q4⟩ := HJ.out.s.cells
              obtain ⟨X4, hX4⟩ : ∃ X4, X4 = w4.setCell ⟨w.heap.size, 0, none⟩ (.slice ja n jc) := ⟨_, rfl⟩
              have HGI := Lib.hid (show X4.ownsRow b1 3 1 (.slice ja n jc) n (I.map (Value.int .i64)) from by rw [hX4]; exact own_far ho4 (fun g hg => by have := (ho4.lt g hg).1; omega))
              have hlg : ∀ g, (Value.slice ja n jc).ownBlock = some g → g < X4.heap.size := fun g hg => (HGI.out.lt g hg).2
              have HLG := Lib.hid hlg
              have hX4s : b1 ≤ X4.heap.size := by rw [hX4]; simpa [World.setCell] using hb1l
              go_upto_region 5 with (fail)
              have HJ := Lib.hid (show DqJ w (.slice ja n jc) (.slice pa n pc) fi nx dr pp x X4 from by rw [hX4]; exact HJ.out.setI _)
              rw [← hX4]
              clear hX4 f0 ho4 hlg q0 q1 q2 q3 q4
              obtain ⟨q0, q1, q2, q3, q4⟩ := HJ.out.s.cells
              go_wp2_with fail
              refine (clone_any pa n pc P _ (HP0.out.below HJ.out.b) (by omega)).mono ?_
              rintro e w5 ⟨v5, m5, rfl, ho5, hb5⟩
              obtain rfl : n = m5 := by have h := ho5.1; have := HPL.out; simp at h; omega
              obtain ⟨qa, qc, rfl⟩ := slice_own ho5
              obtain ⟨b2, hb2e⟩ : ∃ b2, b2 = X4.heap.size := ⟨_, rfl⟩
              rw [← hb2e] at ho5
              have hb12 : b1 ≤ b2 := by omega
              have hb2l : b2 ≤ w5.heap.size := by rw [hb2e]; exact hb5.size
              have HLG := Lib.hid (fun g (hg : (Value.slice ja n jc).ownBlock = some g) => show g < b2 from by rw [hb2e]; exact HLG.out g hg)
              have HGI := Lib.hid (HGI.out.kept (Below.grownNone hb5 none) (by cases hv : (Value.slice ja n jc).ownBlock <;> simp))
              have HJ := Lib.hid (HJ.out.call hb5)
              have f1 := HJ.out.s.free
              clear hb5 hb2e q0 q1 q2 q3 q4 hX4s
              obtain ⟨q0, q1, q2, q3, q4⟩ := HJ.out.s.cells
              obtain ⟨X5, hX5⟩ : ∃ X5, X5 = w5.setCell ⟨w.heap.size, 1, none⟩ (.slice qa n qc) := ⟨_, rfl⟩
              have HGI := Lib.hid (show X5.ownsRow b1 3 1 (.slice ja n jc) n (I.map (Value.int .i64)) from by rw [hX5]; exact own_far HGI.out (fun g hg => by have := (HGI.out.lt g hg).1; omega))
              have HGP := Lib.hid (show X5.ownsRow b2 3 1 (.slice qa n qc) n (P.map (Value.int .i64)) from by rw [hX5]; exact own_far ho5 (fun g hg => by have := (ho5.lt g hg).1; omega))
              have hX5s : b2 ≤ X5.heap.size := by rw [hX5]; simpa [World.setCell] using hb2l
              go_upto_region 6 with (fail)
              have HJ := Lib.hid (show DqJ w (.slice ja n jc) (.slice qa n qc) fi nx dr pp x X5 from by rw [hX5]; exact HJ.out.setP _)
              rw [← hX5]
              clear hX5 f1 ho5 q0 q1 q2 q3 q4
              obtain ⟨q0, q1, q2, q3, q4⟩ := HJ.out.s.cells
              obtain ⟨p0, p1⟩ := HJ.out.o.cells
              have hpp := HPP.out
              subst hpp
              go_wp2_with fail
              refine (takePlace_any b1 b2 n ja jc qa qc fi nx dr I P _ HGI.out HGP.out HLG.out hb12 hX5s hn0 hn60 hr0 hr1).mono ?_
              rintro e w7 ⟨v7, rfl, hd7, hb7⟩
              rw [← HS.out] at hd7
              have HJ := Lib.hid (HJ.out.call hb7)
              obtain ⟨ia7, ic7, pa7, pc7, rfl, -, -⟩ := id hd7.read
              have hb7s : b1 ≤ w7.heap.size := by have := hb7.size; omega
              have HD := Lib.hid hd7
              clear hb7 hd7 q0 q1 q2 q3 q4 p0 p1
              obtain ⟨s0, s1, s2, s3, s4⟩ := HJ.out.r.cells
              have sf := HJ.out.r.free
              go_wp2_with fail
              refine bodyPost_ret (by simp [results, Try.results25, go_sem, *]; try rfl) rfl ?_
              have hbf := f6_below5 (c := w.heap.size + 1 + 1) HJ.out.b (by omega) (.slice ia7 S.items.length ic7) (.slice pa7 S.places.length pc7) (.int .i64 S.first) (.int .i64 S.next) (.int .i64 S.drops)
              exact ⟨_, rfl, (HD.out.set5 (.inl (by omega)) _ _ _ _ _).wide (by omega) (by rw [f6_size5]; exact Nat.le_refl _) (by rw [f6_size5]; exact Nat.le_refl _), hbf⟩
            · rw [show Agg.stepD k ⟨I, P, fi, nx, dr⟩ (pp, x) = Agg.pushD k ⟨I, P, fi, nx, dr⟩ x by rw [hpp]; rfl]
              obtain ⟨S, hS⟩ : ∃ S, S = Agg.pushD k ⟨I, P, fi, nx, dr⟩ x := ⟨_, rfl⟩
              rw [← hS]
              have HS := Lib.hid hS
              clear hS
              have HPP := Lib.hid hpp
              clear hV hc hcan hC hv O hpp
              go_enter Try.func25, Try.ntmps25
              go_upto_region 1 with (fail)
              rw [← hW]
              clear hW
              go_wp2_with fail
              refine (HRO.out _).mono ?_
              rintro e w0 ⟨rfl, rfl⟩
              go_wp2_with fail
              refine (HV.out _ (HI0.out.below HJ.out.b) (HP0.out.below HJ.out.b)).mono ?_
              rintro e w1 ⟨rfl, hb1⟩
              have HJ := Lib.hid (HJ.out.call hb1)
              clear hb1 q0 q1 q2 q3 q4 p0 p1
              obtain ⟨q0, q1, q2, q3, q4⟩ := HJ.out.s.cells
              obtain ⟨p0, p1⟩ := HJ.out.o.cells
              go_wp2_with fail
              refine (HC.out _).mono ?_
              rintro e w2 ⟨rfl, hb2⟩
              have HJ := Lib.hid (HJ.out.call hb2)
              clear hb2 q0 q1 q2 q3 q4 p0 p1
              obtain ⟨q0, q1, q2, q3, q4⟩ := HJ.out.s.cells
              obtain ⟨p0, p1⟩ := HJ.out.o.cells
              go_wp2_with fail
              refine (clone_any ia n ic I _ (HI0.out.below HJ.out.b) (by omega)).mono ?_
              rintro e w4 ⟨v4, m4, rfl, ho4, hb4⟩
              obtain rfl : n = m4 := by have h := ho4.1; have := HIL.out; simp at h; omega
              obtain ⟨ja, jc, rfl⟩ := slice_own ho4
              obtain ⟨b1, hb1e⟩ : ∃ b1, b1 = w2.heap.size := ⟨_, rfl⟩
              rw [← hb1e] at ho4
              have hb13 : w.heap.size + 3 ≤ b1 := by rw [hb1e]; exact HJ.out.lt
              have hb1l : b1 ≤ w4.heap.size := by rw [hb1e]; exact hb4.size
              have HJ := Lib.hid (HJ.out.call hb4)
              have f0 := HJ.out.s.free
              clear hb4 hb1e q0 q1 q2 q3 q4 p0 p1
              obtain ⟨q0, q1, q2, q3, q4⟩ := HJ.out.s.cells
              obtain ⟨X4, hX4⟩ : ∃ X4, X4 = w4.setCell ⟨w.heap.size, 0, none⟩ (.slice ja n jc) := ⟨_, rfl⟩
              have HGI := Lib.hid (show X4.ownsRow b1 3 1 (.slice ja n jc) n (I.map (Value.int .i64)) from by rw [hX4]; exact own_far ho4 (fun g hg => by have := (ho4.lt g hg).1; omega))
              have hlg : ∀ g, (Value.slice ja n jc).ownBlock = some g → g < X4.heap.size := fun g hg => (HGI.out.lt g hg).2
              have HLG := Lib.hid hlg
              have hX4s : b1 ≤ X4.heap.size := by rw [hX4]; simpa [World.setCell] using hb1l
              go_upto_region 5 with (fail)
              have HJ := Lib.hid (show DqJ w (.slice ja n jc) (.slice pa n pc) fi nx dr pp x X4 from by rw [hX4]; exact HJ.out.setI _)
              rw [← hX4]
              clear hX4 f0 ho4 hlg q0 q1 q2 q3 q4
              obtain ⟨q0, q1, q2, q3, q4⟩ := HJ.out.s.cells
              go_wp2_with fail
              refine (clone_any pa n pc P _ (HP0.out.below HJ.out.b) (by omega)).mono ?_
              rintro e w5 ⟨v5, m5, rfl, ho5, hb5⟩
              obtain rfl : n = m5 := by have h := ho5.1; have := HPL.out; simp at h; omega
              obtain ⟨qa, qc, rfl⟩ := slice_own ho5
              obtain ⟨b2, hb2e⟩ : ∃ b2, b2 = X4.heap.size := ⟨_, rfl⟩
              rw [← hb2e] at ho5
              have hb12 : b1 ≤ b2 := by omega
              have hb2l : b2 ≤ w5.heap.size := by rw [hb2e]; exact hb5.size
              have HLG := Lib.hid (fun g (hg : (Value.slice ja n jc).ownBlock = some g) => show g < b2 from by rw [hb2e]; exact HLG.out g hg)
              have HGI := Lib.hid (HGI.out.kept (Below.grownNone hb5 none) (by cases hv : (Value.slice ja n jc).ownBlock <;> simp))
              have HJ := Lib.hid (HJ.out.call hb5)
              have f1 := HJ.out.s.free
              clear hb5 hb2e q0 q1 q2 q3 q4 hX4s
              obtain ⟨q0, q1, q2, q3, q4⟩ := HJ.out.s.cells
              obtain ⟨X5, hX5⟩ : ∃ X5, X5 = w5.setCell ⟨w.heap.size, 1, none⟩ (.slice qa n qc) := ⟨_, rfl⟩
              have HGI := Lib.hid (show X5.ownsRow b1 3 1 (.slice ja n jc) n (I.map (Value.int .i64)) from by rw [hX5]; exact own_far HGI.out (fun g hg => by have := (HGI.out.lt g hg).1; omega))
              have HGP := Lib.hid (show X5.ownsRow b2 3 1 (.slice qa n qc) n (P.map (Value.int .i64)) from by rw [hX5]; exact own_far ho5 (fun g hg => by have := (ho5.lt g hg).1; omega))
              have hX5s : b2 ≤ X5.heap.size := by rw [hX5]; simpa [World.setCell] using hb2l
              go_upto_region 6 with (fail)
              have HJ := Lib.hid (show DqJ w (.slice ja n jc) (.slice qa n qc) fi nx dr pp x X5 from by rw [hX5]; exact HJ.out.setP _)
              rw [← hX5]
              clear hX5 f1 ho5 q0 q1 q2 q3 q4
              obtain ⟨q0, q1, q2, q3, q4⟩ := HJ.out.s.cells
              obtain ⟨p0, p1⟩ := HJ.out.o.cells
              have hpp := HPP.out
              subst hpp
              go_wp2_with fail
              refine (pushOver_all HO.out b1 b2 n ja jc qa qc fi nx dr x I P _ HGI.out HGP.out HLG.out hb12 hX5s hn60 hr4 hdr hr2 hnx).mono ?_
              rintro e w7 ⟨v7, rfl, hd7, ht7⟩
              rw [← HS.out] at hd7
              have HJ := Lib.hid (HJ.out.touch ht7 hb13)
              obtain ⟨ia7, ic7, pa7, pc7, rfl, -, -⟩ := id hd7.read
              have hb7s : b1 ≤ w7.heap.size := by have := ht7.2.2.2.1; omega
              have HD := Lib.hid hd7
              clear ht7 hd7 q0 q1 q2 q3 q4 p0 p1
              obtain ⟨s0, s1, s2, s3, s4⟩ := HJ.out.r.cells
              have sf := HJ.out.r.free
              go_wp2_with fail
              refine bodyPost_ret (by simp [results, Try.results25, go_sem, *]; try rfl) rfl ?_
              have hbf := f6_below5 (c := w.heap.size + 1 + 1) HJ.out.b (by omega) (.slice ia7 S.items.length ic7) (.slice pa7 S.places.length pc7) (.int .i64 S.first) (.int .i64 S.next) (.int .i64 S.drops)
              exact ⟨_, rfl, (HD.out.set5 (.inl (by omega)) _ _ _ _ _).wide (by omega) (by rw [f6_size5]; exact Nat.le_refl _) (by rw [f6_size5]; exact Nat.le_refl _), hbf⟩
        · have hc : Agg.dqCan k ⟨I, P, fi, nx, dr⟩ (pp, x) = false := by
            simp only [Agg.dqCan, Bool.and_eq_false_iff, decide_eq_false_iff_not]
            by_cases h : nx ≤ 900000
            · exact .inl (.inr (fun h2 => hbig ⟨h, h2⟩))
            · exact .inl (.inl (.inr h))
          rw [show Agg.aDq k ⟨I, P, fi, nx, dr⟩ (pp, x) = Agg.zeroDq by simp [Agg.aDq, hc], hc]
          first
            | have hmx : 900000 < nx := by omega
            | have hmx : 900000 < dr := by omega
          clear hV hc hv O
          go_enter Try.func25, Try.ntmps25
          go_upto_region 1 with (fail)
          rw [← hW]
          clear hW
          go_wp2_with fail
          refine (HRO.out _).mono ?_
          rintro e w0 ⟨rfl, rfl⟩
          go_wp2_with fail
          refine (HV.out _ (HI0.out.below HJ.out.b) (HP0.out.below HJ.out.b)).mono ?_
          rintro e w1 ⟨rfl, hb1⟩
          have HJ := Lib.hid (HJ.out.call hb1)
          clear hb1 q0 q1 q2 q3 q4 p0 p1
          obtain ⟨q0, q1, q2, q3, q4⟩ := HJ.out.s.cells
          obtain ⟨p0, p1⟩ := HJ.out.o.cells
          obtain ⟨s0, s1, s2, s3, s4⟩ := HJ.out.r.cells
          have sf := HJ.out.r.free
          go_wp2_with fail
          refine bodyPost_ret (by simp [results, Try.results25, go_sem, *]; try rfl) rfl ?_
          exact DqOut.zero (f6_below5 HJ.out.b (by omega) _ _ _ _ _)
end Go.Proofs.Ytolgclajlklmaaa
