/-
  The law that fronts come first: the aggregate of two stacks.
-/
import Derived.Test.YtgadobhgcbphaaaGreat3r
import Derived.Test.YtgadobhgcbphaaaGreat3v
import Derived.Test.YtgadobhgcbphaaaGreat3t
import Derived.Deep.DeepMust
namespace Go.Proofs.YtgadobhgcbphaaaGreat
set_option linter.unusedSimpArgs false
set_option linter.unusedVariables false
open Go.RowKit
theorem s_stacksSize_u (fa : Option Addr) (fn fc : Nat) (ia : Option Addr) (m ic : Nat) (bx by' bz fl co : Int) (w : World) (h1 : fn ≤ 4611686018427387) (h2 : m ≤ 4611686018427387) :
    Calls Tryz.prog 31 #[.agg #[.slice fa fn fc, .slice ia m ic, .int .i64 bx, .int .i64 by', .int .i64 bz, .int .i64 fl, .int .i64 co]] w fun e w' => e = .returned (.int .i64 ((fn : Int) + (m : Int))) ∧ Below w.heap.size w w' := by
  go_enter Tryz.func31, Tryz.ntmps31
  go_wp2
  go_returns
  exact ⟨rfl, (by first | (go_grown; done) | (refine below_drewN ?_ _; go_grown; done) | (refine (below_drewN _ ?_); go_grown; done))⟩
/-- The variables of the law: stacks, two aggregates. -/
structure SVSt (w : World) (sv vb ub : Nat) (fa : Option Addr) (fn fc : Nat) (ia : Option Addr) (m ic : Nat) (bx by' bz fl co : Int) (vx vy vz ux uy uz : Int) (wr : World) : Prop where
  x : Box7 wr sv 47 (.slice fa fn fc) (.slice ia m ic) (.int .i64 bx) (.int .i64 by') (.int .i64 bz) (.int .i64 fl) (.int .i64 co)
  v : Box wr vb 32 vx vy vz
  u : Box wr ub 32 ux uy uz
  b : Below w.heap.size w wr
theorem SVSt.call {w : World} {sv vb ub : Nat} {fa : Option Addr} {fn fc : Nat} {ia : Option Addr} {m ic : Nat} {bx by' bz fl co : Int} {vx vy vz ux uy uz : Int} {wr w' : World} (h : SVSt w sv vb ub fa fn fc ia m ic bx by' bz fl co vx vy vz ux uy uz wr) (hb : Below wr.heap.size wr w') : SVSt w sv vb ub fa fn fc ia m ic bx by' bz fl co vx vy vz ux uy uz w' :=
  ⟨h.x.call hb, h.v.call hb, h.u.call hb, h.b.trans (hb.mono h.b.size)⟩
theorem SVSt.drew {w : World} {sv vb ub : Nat} {fa : Option Addr} {fn fc : Nat} {ia : Option Addr} {m ic : Nat} {bx by' bz fl co : Int} {vx vy vz ux uy uz : Int} {wr : World} (h : SVSt w sv vb ub fa fn fc ia m ic bx by' bz fl co vx vy vz ux uy uz wr) : SVSt w sv vb ub fa fn fc ia m ic bx by' bz fl co vx vy vz ux uy uz wr.drew :=
  ⟨h.x, h.v, h.u, h.b.drew⟩
set_option maxRecDepth 8000 in
set_option maxHeartbeats 2000000 in
theorem law_FnStacksValue (a : Option Addr) (n cap : Nat) (zs : List Int) (w : World) (hrow : IsRow .u8 w a n cap zs) :
    Calls Tryz.prog 9 #[.slice a n cap] w fun e w' => e = .returned (.bool true) ∧ Below w.heap.size w w' := by
  have HB := Lib.hid (Bytes.of_row hrow)
  have hm : cap ≤ 9223372036854775807 := HB.out.2.1
  have hnc : n ≤ cap := HB.out.1
  clear hrow
  by_cases hn : n ≤ 1048576
  · go_enter Tryz.func9, Tryz.ntmps9
    go_wp2_with fail
    refine (drawStacksValue_any _ _ _ _ _ HB.out).mono ?_
    rintro e w1 ⟨k, v1, s, rfl, hs1, hsm, hb1⟩
    obtain ⟨fa, fc, ia, ic, rfl, hV, hN⟩ := hs1.read
    obtain ⟨F, I, ⟨bx, by', bz⟩, fl, co⟩ := s
    simp only at hV hN hsm
    obtain ⟨hf60, hi60⟩ := hsm
    have HV := Lib.hid hV
    have HN := Lib.hid hN
    have HW1 := Lib.hid hb1
    have hz1 := hb1.size
    clear hs1 hV hN hb1 HB
    have h1 := fun w h h' => stacksValue_any k fa F.length fc ia I.length ic bx by' bz fl co F I w h h' (by omega) (by omega)
    have h2 := fun w h h' => s_stacksValue_any k fa F.length fc ia I.length ic bx by' bz fl co F I w h h' (by omega) (by omega)
    have h3 := fun w h h' => stacksValid_any k fa F.length fc ia I.length ic bx by' bz fl co F I w h h' (by omega) (by omega)
    have h4 := fun w h h' => s_stacksValid_any k fa F.length fc ia I.length ic bx by' bz fl co F I w h h' (by omega) (by omega)
    have h5 := fun w => stacksSize_any fa F.length fc ia I.length ic bx by' bz fl co w (by omega) (by omega)
    have h6 := fun w => s_stacksSize_u fa F.length fc ia I.length ic bx by' bz fl co w (by omega) (by omega)
    obtain ⟨⟨⟨vx, vy, vz⟩, o⟩, hA⟩ : ∃ A, A = Agg.aValS k ⟨F, I, ⟨bx, by', bz⟩, fl, co⟩ := ⟨_, rfl⟩
    obtain ⟨so, hso⟩ : ∃ so, so = Agg.sOk k ⟨F, I, ⟨bx, by', bz⟩, fl, co⟩ := ⟨_, rfl⟩
    rw [← hA] at h1 h2
    rw [← hso] at h3 h4
    have H1 := Lib.hid h1
    have H2 := Lib.hid h2
    have H3 := Lib.hid h3
    have H4 := Lib.hid h4
    have H5 := Lib.hid h5
    have H6 := Lib.hid h6
    have HA := Lib.hid hA
    have HSO := Lib.hid hso
    clear h1 h2 h3 h4 h5 h6 hA hso
    go_wp2_with fail
    refine (H1.out _ (HV.out.below (by go_grown)) (HN.out.below (by go_grown))).mono ?_
    rintro e w2 ⟨rfl, hb2⟩
    have HX2 := Lib.hid ((Box7.new w1 47 (.slice fa F.length fc) (.slice ia I.length ic) (.int .i64 bx) (.int .i64 by') (.int .i64 bz) (.int .i64 fl) (.int .i64 co)).call hb2)
    have HD2 := Lib.hid (((Below.refl w1.heap.size w1).alloc (Nat.le_refl _) (.cells #[.slice fa F.length fc, .slice ia I.length ic, .int .i64 bx, .int .i64 by', .int .i64 bz, .int .i64 fl, .int .i64 co] 47)).trans (hb2.mono (by simp)))
    have hl2 := HX2.out.lt
    obtain ⟨q0, q1, q2, q3, q4, q5, q6⟩ := HX2.out.cells
    clear hb2
    go_wp2_with fail
    refine (H2.out _ (HV.out.below (HD2.out.trans ((by go_grown : Below w2.heap.size w2 _).mono (by omega)))) (HN.out.below (HD2.out.trans ((by go_grown : Below w2.heap.size w2 _).mono (by omega))))).mono ?_
    rintro e w3 ⟨rfl, hb3⟩
    have HX3 := Lib.hid ((HX2.out.alloc _).call hb3)
    have HV3 := Lib.hid ((Box.new w2 32 vx vy vz).call hb3)
    have HD3 := Lib.hid ((HD2.out.alloc HD2.out.size (.cells #[.int .i64 vx, .int .i64 vy, .int .i64 vz] 32)).trans (hb3.mono (by have := HD2.out.size; simp; omega)))
    have hl3 := HV3.out.lt
    clear hb3 HX2 HD2 q0 q1 q2 q3 q4 q5 q6
    obtain ⟨W4, hW4⟩ : ∃ W4, W4 = w3.alloc (.cells #[.int .i64 vx, .int .i64 vy, .int .i64 vz] 32) := ⟨_, rfl⟩
    have hd4 : Below w1.heap.size w1 W4 := by rw [hW4]; exact HD3.out.alloc HD3.out.size _
    have HST := Lib.hid (show SVSt w w1.heap.size w2.heap.size w3.heap.size fa F.length fc ia I.length ic bx by' bz fl co vx vy vz vx vy vz W4 from
      ⟨by rw [hW4]; exact HX3.out.alloc _, by rw [hW4]; exact HV3.out.alloc _, by rw [hW4]; exact Box.new _ _ _ _ _, HW1.out.trans (hd4.mono hz1)⟩)
    have HV4 := Lib.hid (HV.out.below hd4)
    have HN4 := Lib.hid (HN.out.below hd4)
    clear hd4 HX3 HV3 HD3 HV HN HW1
    go_upto_region 6 with (fail)
    rw [← hW4]
    clear hW4
    obtain ⟨sv, hsv⟩ : ∃ sv, sv = w1.heap.size := ⟨_, rfl⟩
    obtain ⟨vb, hvb⟩ : ∃ vb, vb = w2.heap.size := ⟨_, rfl⟩
    obtain ⟨ub, hub⟩ : ∃ ub, ub = w3.heap.size := ⟨_, rfl⟩
    rw [← hsv, ← hvb, ← hub] at HST
    rw [← hsv, ← hvb, ← hub]
    clear hsv hvb hub hl2 hl3 hz1
    obtain ⟨cq0, cq1, cq2, cq3, cq4, cq5, cq6⟩ := HST.out.x.cells; obtain ⟨cv0, cv1, cv2⟩ := HST.out.v.cells; obtain ⟨cu0, cu1, cu2⟩ := HST.out.u.cells
    have HV4d := Lib.hid (HV4.out.below (Below.drew (Below.refl _ _)))
    have HN4d := Lib.hid (HN4.out.below (Below.drew (Below.refl _ _)))
    cases o
    · go_region_held3 (fun w' => w'.cell? ⟨sv, 0, none⟩ = some (.slice fa F.length fc) ∧ w'.cell? ⟨sv, 1, none⟩ = some (.slice ia I.length ic) ∧ w'.cell? ⟨sv, 2, none⟩ = some (.int .i64 bx) ∧ w'.cell? ⟨sv, 3, none⟩ = some (.int .i64 by') ∧ w'.cell? ⟨sv, 4, none⟩ = some (.int .i64 bz) ∧ w'.cell? ⟨sv, 5, none⟩ = some (.int .i64 fl) ∧ w'.cell? ⟨sv, 6, none⟩ = some (.int .i64 co) ∧ w'.cell? ⟨vb, 0, none⟩ = some (.int .i64 vx) ∧ w'.cell? ⟨vb, 1, none⟩ = some (.int .i64 vy) ∧ w'.cell? ⟨vb, 2, none⟩ = some (.int .i64 vz) ∧ w'.cell? ⟨ub, 0, none⟩ = some (.int .i64 vx) ∧ w'.cell? ⟨ub, 1, none⟩ = some (.int .i64 vy) ∧ w'.cell? ⟨ub, 2, none⟩ = some (.int .i64 vz)) (refine ⟨?_, ?_, ?_, ?_, ?_, ?_, ?_, ?_, ?_, ?_, ?_, ?_, ?_⟩ <;> assumption) (first | (go_at_call 28; refine (H3.out _ HV4d.out HN4d.out).mono ?_; rintro e w5 ⟨rfl, hb5⟩; have HST5 := Lib.hid (HST.out.drew.call hb5); have HV5 := Lib.hid (HV4d.out.below hb5); have HN5 := Lib.hid (HN4d.out.below hb5); clear hb5; obtain ⟨dq0, dq1, dq2, dq3, dq4, dq5, dq6⟩ := HST5.out.x.cells; obtain ⟨dv0, dv1, dv2⟩ := HST5.out.v.cells; obtain ⟨du0, du1, du2⟩ := HST5.out.u.cells) | (go_at_call 29; refine (H4.out _ HV5.out HN5.out).mono ?_; rintro e w6 ⟨rfl, hb6⟩; have HST6 := Lib.hid (HST5.out.call hb6); have HV6 := Lib.hid (HV5.out.below hb6); have HN6 := Lib.hid (HN5.out.below hb6); clear hb6; obtain ⟨eq0, eq1, eq2, eq3, eq4, eq5, eq6⟩ := HST6.out.x.cells; obtain ⟨ev0, ev1, ev2⟩ := HST6.out.v.cells; obtain ⟨eu0, eu1, eu2⟩ := HST6.out.u.cells) | (go_at_call 30; refine (H5.out _).mono ?_; rintro e w7 ⟨rfl, hb7⟩; have HST7 := Lib.hid (HST6.out.call hb7); have HV7 := Lib.hid (HV6.out.below hb7); have HN7 := Lib.hid (HN6.out.below hb7); clear hb7; obtain ⟨fq0, fq1, fq2, fq3, fq4, fq5, fq6⟩ := HST7.out.x.cells; obtain ⟨fv0, fv1, fv2⟩ := HST7.out.v.cells; obtain ⟨fu0, fu1, fu2⟩ := HST7.out.u.cells) | (go_at_call 31; refine (H6.out _).mono ?_; rintro e w8 ⟨rfl, hb8⟩; have HST8 := Lib.hid (HST7.out.call hb8); have HV8 := Lib.hid (HV7.out.below hb8); have HN8 := Lib.hid (HN7.out.below hb8); clear hb8; obtain ⟨gq0, gq1, gq2, gq3, gq4, gq5, gq6⟩ := HST8.out.x.cells; obtain ⟨gv0, gv1, gv2⟩ := HST8.out.v.cells; obtain ⟨gu0, gu1, gu2⟩ := HST8.out.u.cells))
      clear H5 H6 HST HST5 HST6 HST7 HV4d HN4d HV5 HN5 HV6 HN6 HV7 HN7
      clear cq0 cq1 cq2 cq3 cq4 cq5 cq6 cv0 cv1 cv2 cu0 cu1 cu2 dq0 dq1 dq2 dq3 dq4 dq5 dq6 dv0 dv1 dv2 du0 du1 du2 eq0 eq1 eq2 eq3 eq4 eq5 eq6 ev0 ev1 ev2 eu0 eu1 eu2 fq0 fq1 fq2 fq3 fq4 fq5 fq6 fv0 fv1 fv2 fu0 fu1 fu2
      have HV8d := Lib.hid (HV8.out.below (Below.drew (Below.refl _ _)))
      have HN8d := Lib.hid (HN8.out.below (Below.drew (Below.refl _ _)))
      go_wp2_with fail
      go_region_held3 (fun w' => w'.cell? ⟨sv, 0, none⟩ = some (.slice fa F.length fc) ∧ w'.cell? ⟨sv, 1, none⟩ = some (.slice ia I.length ic) ∧ w'.cell? ⟨sv, 2, none⟩ = some (.int .i64 bx) ∧ w'.cell? ⟨sv, 3, none⟩ = some (.int .i64 by') ∧ w'.cell? ⟨sv, 4, none⟩ = some (.int .i64 bz) ∧ w'.cell? ⟨sv, 5, none⟩ = some (.int .i64 fl) ∧ w'.cell? ⟨sv, 6, none⟩ = some (.int .i64 co) ∧ w'.cell? ⟨vb, 0, none⟩ = some (.int .i64 vx) ∧ w'.cell? ⟨vb, 1, none⟩ = some (.int .i64 vy) ∧ w'.cell? ⟨vb, 2, none⟩ = some (.int .i64 vz) ∧ w'.cell? ⟨ub, 0, none⟩ = some (.int .i64 vx) ∧ w'.cell? ⟨ub, 1, none⟩ = some (.int .i64 vy) ∧ w'.cell? ⟨ub, 2, none⟩ = some (.int .i64 vz)) (refine ⟨?_, ?_, ?_, ?_, ?_, ?_, ?_, ?_, ?_, ?_, ?_, ?_, ?_⟩ <;> assumption) (first | (go_at_call 28; refine (H3.out _ HV8d.out HN8d.out).mono ?_; rintro e w9 ⟨rfl, hb9⟩; have HST9 := Lib.hid (HST8.out.drew.call hb9); have HV9 := Lib.hid (HV8d.out.below hb9); have HN9 := Lib.hid (HN8d.out.below hb9); clear hb9; obtain ⟨hq0, hq1, hq2, hq3, hq4, hq5, hq6⟩ := HST9.out.x.cells; obtain ⟨hv0, hv1, hv2⟩ := HST9.out.v.cells; obtain ⟨hu0, hu1, hu2⟩ := HST9.out.u.cells) | (go_at_call 29; refine (H4.out _ HV9.out HN9.out).mono ?_; rintro e w10 ⟨rfl, hb10⟩; have HST10 := Lib.hid (HST9.out.call hb10); clear hb10; obtain ⟨iq0, iq1, iq2, iq3, iq4, iq5, iq6⟩ := HST10.out.x.cells; obtain ⟨iv0, iv1, iv2⟩ := HST10.out.v.cells; obtain ⟨iu0, iu1, iu2⟩ := HST10.out.u.cells))
      go_wp2_with fail
      go_returns
      exact ⟨by first | rfl | simp, HST10.out.b⟩
    · have hA := HA.out
      have hgive : Agg.sOk k ⟨F, I, ⟨bx, by', bz⟩, fl, co⟩ = true ∧ (⟨vx, vy, vz⟩ : Agg.V) = Agg.valS k ⟨F, I, ⟨bx, by', bz⟩, fl, co⟩ := by
        unfold Agg.aValS Agg.give at hA
        split at hA
        · rename_i h
          simp only [Bool.and_eq_true] at h
          exact ⟨h.1, (Prod.mk.inj hA).1⟩
        · exact absurd (Prod.mk.inj hA).2 (by simp)
      obtain ⟨hsok, hval⟩ := hgive
      obtain ⟨hk, hsz, hfr, hit, hback, hokb, hfl, hco⟩ := Agg.sOk_parts hsok
      simp only at hit hback hokb hfr hsz
      have hFO := fun w h => foldItems_any k ia I.length ic I w h
      rw [Agg.aFold_of hk hit, ← hback] at hFO
      have HFO := Lib.hid hFO
      have HVAL := Lib.hid hval
      have HSK := Lib.hid hsok
      have HAA := Lib.hid hA
      clear hFO hA hsok hback hokb hfl hco hfr hsz hval HA HSO
      go_region_held3 (fun w' => w'.cell? ⟨sv, 0, none⟩ = some (.slice fa F.length fc) ∧ w'.cell? ⟨sv, 1, none⟩ = some (.slice ia I.length ic) ∧ w'.cell? ⟨sv, 2, none⟩ = some (.int .i64 bx) ∧ w'.cell? ⟨sv, 3, none⟩ = some (.int .i64 by') ∧ w'.cell? ⟨sv, 4, none⟩ = some (.int .i64 bz) ∧ w'.cell? ⟨sv, 5, none⟩ = some (.int .i64 fl) ∧ w'.cell? ⟨sv, 6, none⟩ = some (.int .i64 co) ∧ w'.cell? ⟨vb, 0, none⟩ = some (.int .i64 vx) ∧ w'.cell? ⟨vb, 1, none⟩ = some (.int .i64 vy) ∧ w'.cell? ⟨vb, 2, none⟩ = some (.int .i64 vz) ∧ w'.cell? ⟨ub, 0, none⟩ = some (.int .i64 vx) ∧ w'.cell? ⟨ub, 1, none⟩ = some (.int .i64 vy) ∧ w'.cell? ⟨ub, 2, none⟩ = some (.int .i64 vz)) (refine ⟨?_, ?_, ?_, ?_, ?_, ?_, ?_, ?_, ?_, ?_, ?_, ?_, ?_⟩ <;> assumption) (first | (go_at_call 28; refine (H3.out _ HV4d.out HN4d.out).mono ?_; rintro e w5 ⟨rfl, hb5⟩; have HST5 := Lib.hid (HST.out.drew.call hb5); have HV5 := Lib.hid (HV4d.out.below hb5); have HN5 := Lib.hid (HN4d.out.below hb5); clear hb5; obtain ⟨dq0, dq1, dq2, dq3, dq4, dq5, dq6⟩ := HST5.out.x.cells; obtain ⟨dv0, dv1, dv2⟩ := HST5.out.v.cells; obtain ⟨du0, du1, du2⟩ := HST5.out.u.cells) | (go_at_call 29; refine (H4.out _ HV5.out HN5.out).mono ?_; rintro e w6 ⟨rfl, hb6⟩; have HST6 := Lib.hid (HST5.out.call hb6); have HV6 := Lib.hid (HV5.out.below hb6); have HN6 := Lib.hid (HN5.out.below hb6); clear hb6; obtain ⟨eq0, eq1, eq2, eq3, eq4, eq5, eq6⟩ := HST6.out.x.cells; obtain ⟨ev0, ev1, ev2⟩ := HST6.out.v.cells; obtain ⟨eu0, eu1, eu2⟩ := HST6.out.u.cells) | (go_at_call 30; refine (H5.out _).mono ?_; rintro e w7 ⟨rfl, hb7⟩; have HST7 := Lib.hid (HST6.out.call hb7); have HV7 := Lib.hid (HV6.out.below hb7); have HN7 := Lib.hid (HN6.out.below hb7); clear hb7; obtain ⟨fq0, fq1, fq2, fq3, fq4, fq5, fq6⟩ := HST7.out.x.cells; obtain ⟨fv0, fv1, fv2⟩ := HST7.out.v.cells; obtain ⟨fu0, fu1, fu2⟩ := HST7.out.u.cells) | (go_at_call 31; refine (H6.out _).mono ?_; rintro e w8 ⟨rfl, hb8⟩; have HST8 := Lib.hid (HST7.out.call hb8); have HV8 := Lib.hid (HV7.out.below hb8); have HN8 := Lib.hid (HN7.out.below hb8); clear hb8; obtain ⟨gq0, gq1, gq2, gq3, gq4, gq5, gq6⟩ := HST8.out.x.cells; obtain ⟨gv0, gv1, gv2⟩ := HST8.out.v.cells; obtain ⟨gu0, gu1, gu2⟩ := HST8.out.u.cells))
      clear H1 H2 H3 H4 H5 H6 HST HST5 HST6 HST7 HV4d HN4d HV5 HN5 HV6 HN6 HV7 HN7 HV4 HN4
      clear cq0 cq1 cq2 cq3 cq4 cq5 cq6 cv0 cv1 cv2 cu0 cu1 cu2 dq0 dq1 dq2 dq3 dq4 dq5 dq6 dv0 dv1 dv2 du0 du1 du2 eq0 eq1 eq2 eq3 eq4 eq5 eq6 ev0 ev1 ev2 eu0 eu1 eu2 fq0 fq1 fq2 fq3 fq4 fq5 fq6 fv0 fv1 fv2 fu0 fu1 fu2
      go_wp2_with fail
      refine (HFO.out _ HN8.out).mono ?_
      rintro e w9 ⟨rfl, hb9⟩
      have HST9 := Lib.hid (HST8.out.call hb9)
      have HV9 := Lib.hid (HV8.out.below hb9)
      clear hb9 gq0 gq1 gq2 gq3 gq4 gq5 gq6 gv0 gv1 gv2 gu0 gu1 gu2 HST8 HV8 HN8
      have hsvl := HST9.out.x.lt
      have hvbl := HST9.out.v.lt
      obtain ⟨hq0, hq1, hq2, hq3, hq4, hq5, hq6⟩ := HST9.out.x.cells; obtain ⟨hv0, hv1, hv2⟩ := HST9.out.v.cells; obtain ⟨hu0, hu1, hu2⟩ := HST9.out.u.cells
      by_cases hF0 : F.length = 0
      · have hv : (⟨vx, vy, vz⟩ : Agg.V) = ⟨bx, by', bz⟩ := by rw [HVAL.out, Agg.valS, if_pos hF0]
        simp only [Agg.V.mk.injEq] at hv
        obtain ⟨rfl, rfl, rfl⟩ := hv
        have hBB := HST9.out.b.alloc HST9.out.b.size (.cells #[.int .i64 vx, .int .i64 vy, .int .i64 vz] 32)
        have HBB := Lib.hid hBB
        clear hBB HVAL
        go_wp2_with fail
        go_returns
        exact ⟨by first | rfl | simp, HBB.out⟩
      · rcases HV9.out.2.2.2 with h0 | ⟨fb, foff, rfl, hfb, hfcs⟩
        · exact absurd h0 hF0
        · have hco := Agg.aVal_last HSK.out (by show 0 < F.length; omega)
          simp only at hco
          rw [← HAA.out] at hco
          have hp := hfcs (F.length - 1) (by omega)
          obtain ⟨⟨fx, fy, fz⟩, hx⟩ : ∃ x, x = F[F.length - 1]?.getD Agg.zero := ⟨_, rfl⟩
          rw [← hx] at hp hco
          have hCO := fun w => combineValues_any k fx fy fz bx by' bz w
          rw [hco] at hCO
          have HCO := Lib.hid hCO
          clear hCO hco hx hfcs HFO HVAL HSK HAA HV9
          obtain ⟨W10, hW10⟩ : ∃ W10, W10 = w9.alloc (.cells #[.int .i64 bx, .int .i64 by', .int .i64 bz] 32) := ⟨_, rfl⟩
          have hb10 : Below w9.heap.size w9 W10 := by rw [hW10]; exact (Below.refl _ _).alloc (Nat.le_refl _) _
          have HST10 := Lib.hid (HST9.out.call hb10)
          have HXB10 := Lib.hid (show Box W10 w9.heap.size 32 bx by' bz from by rw [hW10]; exact Box.new _ _ _ _ _)
          have hp0 := (hb10.cell (p := ⟨fb, foff + (F.length - 1) * 3, none⟩) hfb).trans hp.1
          have hp1 := (hb10.cell (p := ⟨fb, foff + (F.length - 1) * 3 + 1, none⟩) hfb).trans hp.2.1
          have hp2 := (hb10.cell (p := ⟨fb, foff + (F.length - 1) * 3 + 2, none⟩) hfb).trans hp.2.2
          have hfb10 : fb < W10.heap.size := Nat.lt_of_lt_of_le hfb hb10.size
          clear hb10 hp HST9
          have hn1 : ¬ ((F.length : Int) = 0) := by omega
          have hn2 : (0 : Int) < (F.length : Int) := by omega
          have hn3 : (1 : Int) ≤ (F.length : Int) := by omega
          have hnt : ((F.length : Int) - 1).toNat = F.length - 1 := by omega
          have hn4 : F.length - 1 < F.length := by omega
          have hn5 : (F.length : Int) - 1 < (F.length : Int) := by omega
          have hn6 : (0 : Int) ≤ (F.length : Int) - 1 := by omega
          have hwr : IntKind.i64.wrap ((F.length : Int) - 1) = (F.length : Int) - 1 := IntWalk.i64_in _ (by omega)
          go_upto_region 11 with (fail)
          rw [← hW10]
          clear hW10 hq0 hq1 hq2 hq3 hq4 hq5 hq6 hv0 hv1 hv2 hu0 hu1 hu2
          obtain ⟨xb, hxb⟩ : ∃ xb, xb = w9.heap.size := ⟨_, rfl⟩
          rw [← hxb] at HXB10
          rw [← hxb]
          clear hxb hsvl hvbl
          obtain ⟨jq0, jq1, jq2, jq3, jq4, jq5, jq6⟩ := HST10.out.x.cells; obtain ⟨jv0, jv1, jv2⟩ := HST10.out.v.cells; obtain ⟨ju0, ju1, ju2⟩ := HST10.out.u.cells
          obtain ⟨x0, x1, x2⟩ := HXB10.out.cells
          have hne0 := World.new_ne W10 _ hp0
          have hne1 := World.new_ne W10 _ jq0
          have hne2 := World.new_ne W10 _ x0
          have hba : Below W10.heap.size W10 (W10.alloc (.cells #[.int .i64 0, .int .i64 0, .int .i64 0] 32)) := (Below.refl _ _).alloc (Nat.le_refl _) _
          have HSTa := Lib.hid (HST10.out.call hba)
          have HXBa := Lib.hid (HXB10.out.call hba)
          have HRa := Lib.hid (Box.new W10 32 0 0 0)
          have hfba : fb < (W10.alloc (.cells #[.int .i64 0, .int .i64 0, .int .i64 0] 32)).heap.size := Nat.lt_of_lt_of_le hfb10 hba.size
          have HP0a := Lib.hid ((hba.cell (p := ⟨fb, foff + (F.length - 1) * 3, none⟩) hfb10).trans hp0)
          have HP1a := Lib.hid ((hba.cell (p := ⟨fb, foff + (F.length - 1) * 3 + 1, none⟩) hfb10).trans hp1)
          have HP2a := Lib.hid ((hba.cell (p := ⟨fb, foff + (F.length - 1) * 3 + 2, none⟩) hfb10).trans hp2)
          have HFBA := Lib.hid hfba
          clear hba hfba
          go_region_held3 (fun w' => w'.cell? ⟨sv, 0, none⟩ = some (.slice (some ⟨fb, foff, none⟩) F.length fc) ∧ w'.cell? ⟨fb, foff + (F.length - 1) * 3, none⟩ = some (.int .i64 fx) ∧ w'.cell? ⟨fb, foff + (F.length - 1) * 3 + 1, none⟩ = some (.int .i64 fy) ∧ w'.cell? ⟨fb, foff + (F.length - 1) * 3 + 2, none⟩ = some (.int .i64 fz) ∧ w'.cell? ⟨xb, 0, none⟩ = some (.int .i64 bx) ∧ w'.cell? ⟨xb, 1, none⟩ = some (.int .i64 by') ∧ w'.cell? ⟨xb, 2, none⟩ = some (.int .i64 bz)) (first | (refine ⟨?_, ?_, ?_, ?_, ?_, ?_, ?_⟩ <;> (rw [set3_far (by omega)]; assumption)) | (refine ⟨?_, ?_, ?_, ?_, ?_, ?_, ?_⟩ <;> (rw [keep_alloc (by assumption)]; assumption)) | (refine ⟨?_, ?_, ?_, ?_, ?_, ?_, ?_⟩ <;> assumption) | go_keep) (first | (go_at_call 32; refine (HCO.out W10.drew).mono ?_; rintro e w11 ⟨rfl, hb11⟩; have HST11 := Lib.hid (HST10.out.drew.call hb11); have HXB11 := Lib.hid (HXB10.out.callD hb11); have k0 := (hb11.cell (p := ⟨fb, foff + (F.length - 1) * 3, none⟩) hfb10).trans hp0; have k1 := (hb11.cell (p := ⟨fb, foff + (F.length - 1) * 3 + 1, none⟩) hfb10).trans hp1; have k2 := (hb11.cell (p := ⟨fb, foff + (F.length - 1) * 3 + 2, none⟩) hfb10).trans hp2; obtain ⟨y0, y1, y2⟩ := HXB11.out.cells; have hvl := HST11.out.v.lt; have hwl := HST11.out.b.size; obtain ⟨mq0, mq1, mq2, mq3, mq4, mq5, mq6⟩ := HST11.out.x.cells; obtain ⟨mv0, mv1, mv2⟩ := HST11.out.v.cells; obtain ⟨mu0, mu1, mu2⟩ := HST11.out.u.cells; have hne3 := World.new_ne w11 _ k0; have hne4 := World.new_ne w11 _ mq0; have hne5 := World.new_ne w11 _ y0; clear hb11) | (go_at_call 32; refine (HCO.out (World.drew (W10.alloc (.cells #[.int .i64 0, .int .i64 0, .int .i64 0] 32)))).mono ?_; rintro e w11 ⟨rfl, hb11⟩; have HST11 := Lib.hid (HSTa.out.drew.call hb11); have HXB11 := Lib.hid (HXBa.out.callD hb11); have HR11 := Lib.hid (HRa.out.callD hb11); have k0 := (hb11.cell (p := ⟨fb, foff + (F.length - 1) * 3, none⟩) HFBA.out).trans HP0a.out; have k1 := (hb11.cell (p := ⟨fb, foff + (F.length - 1) * 3 + 1, none⟩) HFBA.out).trans HP1a.out; have k2 := (hb11.cell (p := ⟨fb, foff + (F.length - 1) * 3 + 2, none⟩) HFBA.out).trans HP2a.out; obtain ⟨y0, y1, y2⟩ := HXB11.out.cells; obtain ⟨r0, r1, r2⟩ := HR11.out.cells; have r3 := HR11.out.free 0; have r4 := HR11.out.free 1; have r5 := HR11.out.free 2; have hvl := HST11.out.v.lt; have hwl := HST11.out.b.size; obtain ⟨mq0, mq1, mq2, mq3, mq4, mq5, mq6⟩ := HST11.out.x.cells; obtain ⟨mv0, mv1, mv2⟩ := HST11.out.v.cells; obtain ⟨mu0, mu1, mu2⟩ := HST11.out.u.cells; clear hb11))
          · have HB12 := Lib.hid (HST11.out.b.alloc HST11.out.b.size (.cells #[.int .i64 vx, .int .i64 vy, .int .i64 vz] 32))
            clear k0 k1 k2 y0 y1 y2 mq0 mq1 mq2 mq3 mq4 mq5 mq6 mu0 mu1 mu2 hne3 hne4 hne5
            clear hp0 hp1 hp2 x0 x1 x2 jq0 jq1 jq2 jq3 jq4 jq5 jq6 jv0 jv1 jv2 ju0 ju1 ju2 hne0 hne1 hne2
            go_wp2_with fail
            go_returns
            exact ⟨by first | rfl | simp, HB12.out⟩
          · have hvW := HST10.out.v.lt
            have hwW := HST10.out.b.size
            have HR12 := Lib.hid (HR11.out.set vx vy vz)
            have HV12 := Lib.hid (((HST11.out.v.set_other (c := W10.heap.size) (by omega) 0 (.int .i64 vx)).set_other (c := W10.heap.size) (by omega) 1 (.int .i64 vy)).set_other (c := W10.heap.size) (by omega) 2 (.int .i64 vz))
            have HB12 := Lib.hid (((HST11.out.b.setCell (p := ⟨W10.heap.size, 0, none⟩) hwW (.int .i64 vx)).setCell (p := ⟨W10.heap.size, 1, none⟩) hwW (.int .i64 vy)).setCell (p := ⟨W10.heap.size, 2, none⟩) hwW (.int .i64 vz))
            obtain ⟨W12, hW12⟩ : ∃ W12, W12 = ((w11.setCell ⟨W10.heap.size, 0, none⟩ (.int .i64 vx)).setCell ⟨W10.heap.size, 1, none⟩ (.int .i64 vy)).setCell ⟨W10.heap.size, 2, none⟩ (.int .i64 vz) := ⟨_, rfl⟩
            rw [← hW12] at HR12 HV12 HB12 ⊢
            clear hW12
            clear k0 k1 k2 y0 y1 y2 r0 r1 r2 r3 r4 r5 mq0 mq1 mq2 mq3 mq4 mq5 mq6 mv0 mv1 mv2 mu0 mu1 mu2
            clear hp0 hp1 hp2 x0 x1 x2 jq0 jq1 jq2 jq3 jq4 jq5 jq6 jv0 jv1 jv2 ju0 ju1 ju2 hne0 hne1 hne2
            obtain ⟨r0, r1, r2⟩ := HR12.out.cells
            obtain ⟨v0, v1, v2⟩ := HV12.out.cells
            go_wp2_with fail
            go_returns
            exact ⟨by first | rfl | simp, HB12.out⟩
  · go_enter Tryz.func9, Tryz.ntmps9
    go_wp2
    go_returns
    exact ⟨rfl, Below.refl _ _⟩
end Go.Proofs.YtgadobhgcbphaaaGreat
