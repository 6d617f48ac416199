/-
  The arguments of a step of stacks drawn.
-/
import Derived.Test.YticoalgnkddapaaGreat3p
import Derived.Deep.RegionLaw
namespace Go.Proofs.YticoalgnkddapaaGreat
set_option linter.unusedSimpArgs false
set_option linter.unusedVariables false
open Go.RowKit
theorem bytes_below {w w' : World} {a : Option Addr} {n cap : Nat} {l : List Int} (h : Bytes w a n cap l) (hb : Below w.heap.size w w') : Bytes w' a n cap l := by
  obtain ⟨h1, h2, h3⟩ := h
  refine ⟨h1, h2, ?_⟩
  rcases h3 with h3 | ⟨b, off, ha, hlt, hc⟩
  · exact .inl h3
  · exact .inr ⟨b, off, ha, Nat.lt_of_lt_of_le hlt hb.size, fun i hi => ⟨(hb.cell (p := ⟨b, off + i, none⟩) hlt).trans (hc i hi).1, (hc i hi).2⟩⟩
/-- A kind, stacks and a change are drawn, in new memory. -/
def StkCase (w : World) (e : Ending) (w' : World) : Prop :=
  ∃ (k : Int) (v : Value) (s : Agg.S) (b : Bool) (x : Int), e = .returned (.tuple #[.int .i64 k, v, .agg #[.bool b, .int .i64 x]]) ∧ StkOwn w' w.heap.size w'.heap.size v s ∧ (s.front.length ≤ 60 ∧ s.items.length ≤ 60) ∧ Below w.heap.size w w'
/-- The variables of a case under way. -/
structure CaseSt (w : World) (B c sv lo : Nat) (v0 v1 v2 v3 v4 v5 v6 : Value) (s : Agg.S) (p : Int) (wr : World) : Prop where
  x : Box7 wr sv 31 v0 v1 v2 v3 v4 v5 v6
  z : Box7 wr w.heap.size 31 (.slice none 0 0) (.slice none 0 0) (.int .i64 0) (.int .i64 0) (.int .i64 0) (.int .i64 0) (.int .i64 0)
  q : Box2 wr (w.heap.size + 1) 43 (.bool false) (.int .i64 0)
  r : Rd wr B c p
  s : StkOwn wr lo sv (.agg #[v0, v1, v2, v3, v4, v5, v6]) s
  b : Below w.heap.size w wr
theorem CaseSt.step {w : World} {B c sv lo : Nat} {v0 v1 v2 v3 v4 v5 v6 : Value} {s : Agg.S} {p p' : Int} {wr w2 : World} (h : CaseSt w B c sv lo v0 v1 v2 v3 v4 v5 v6 s p wr) (hr : Rd w2 B c p') (hg : wr.grownBy w2 (some c)) (h1 : w.heap.size + 1 < c) (h2 : c < lo) (h3 : c ≠ sv) : CaseSt w B c sv lo v0 v1 v2 v3 v4 v5 v6 s p' w2 :=
  ⟨h.x.grown hg (fun e => by have := Option.some.inj e; omega), h.z.grown hg (fun e => by have := Option.some.inj e; omega), h.q.grown hg (fun e => by have := Option.some.inj e; omega), hr, h.s.kept hg (fun j e => .inl (by have := Option.some.inj e; omega)), h.b.grown hg h.b.size (fun j e => by have := Option.some.inj e; omega)⟩
theorem CaseSt.stepD {w : World} {B c sv lo : Nat} {v0 v1 v2 v3 v4 v5 v6 : Value} {s : Agg.S} {p p' : Int} {wr w2 : World} (h : CaseSt w B c sv lo v0 v1 v2 v3 v4 v5 v6 s p wr) (hr : Rd w2 B c p') (hg : wr.drew.grownBy w2 (some c)) (h1 : w.heap.size + 1 < c) (h2 : c < lo) (h3 : c ≠ sv) : CaseSt w B c sv lo v0 v1 v2 v3 v4 v5 v6 s p' w2 :=
  CaseSt.step (wr := wr.drew) ⟨h.x, h.z, h.q, h.r, h.s, h.b.drew⟩ hr hg h1 h2 h3
set_option maxRecDepth 8000 in
set_option maxHeartbeats 2000000 in
theorem drawStacksStep_any (a : Option Addr) (n cap : Nat) (l : List Int) (w : World) (h : Bytes w a n cap l) :
    Calls Tryz.prog 23 #[.slice a n cap] w (StkCase w) := by
  obtain ⟨W, hW⟩ : ∃ W, W = (w.alloc (.cells #[.slice none 0 0, .slice none 0 0, .int .i64 0, .int .i64 0, .int .i64 0, .int .i64 0, .int .i64 0] 31)).alloc (.cells #[.bool false, .int .i64 0] 43) := ⟨_, rfl⟩
  have HP := Lib.hid (show Box7 W w.heap.size 31 (.slice none 0 0) (.slice none 0 0) (.int .i64 0) (.int .i64 0) (.int .i64 0) (.int .i64 0) (.int .i64 0) from by rw [hW]; exact (Box7.new w _ _ _ _ _ _ _ _).alloc _)
  have HQ := Lib.hid (show Box2 W (w.heap.size + 1) 43 (.bool false) (.int .i64 0) from by rw [hW]; exact Box2.new1 _ _ _ (by simp))
  have HB := Lib.hid (show Below w.heap.size w W from by rw [hW]; exact ((Below.refl _ _).alloc (Nat.le_refl _) _).alloc (by simp) _)
  have HY := Lib.hid (show Bytes W a n cap l from bytes_below h HB.out)
  have hWs : w.heap.size + 1 < W.heap.size := HQ.out.lt
  clear h
  go_enter Tryz.func23, Tryz.ntmps23
  go_wp2_with fail
  rw [← hW]
  clear hW
  refine (open_any _ _ _ l _ HY.out).mono ?_
  rintro e w1 ⟨c, rfl, hr1, hb1⟩
  have HR1 := Lib.hid hr1
  have hc1 := hr1.1
  have hc2 := hr1.2.1
  have HP1 := Lib.hid (HP.out.call hb1)
  have HQ1 := Lib.hid (HQ.out.call hb1)
  have HB1 := Lib.hid (HB.out.trans (hb1.mono HB.out.size))
  clear hr1 hb1 HP HQ HB HY
  go_wp2_with fail
  refine (l1Kind_any _ c 0 _ HR1.out (by omega)).mono ?_
  rintro e w2 ⟨k0, p2, rfl, -, hp2, hq2, hr2, hg2⟩
  have HR2 := Lib.hid hr2
  have HP2 := Lib.hid (HP1.out.grown hg2 (fun e => by have := Option.some.inj e; omega))
  have HQ2 := Lib.hid (HQ1.out.grown hg2 (fun e => by have := Option.some.inj e; omega))
  have HB2 := Lib.hid (HB1.out.grown hg2 HB1.out.size (fun j e => by have := Option.some.inj e; omega))
  have hc3 : c < w2.heap.size := hr2.2.1
  clear hr2 hg2 HR1 HP1 HQ1 HB1
  go_wp2_with fail
  refine (l3Draw_any k0 _ c p2 _ HR2.out (by omega)).mono ?_
  rintro e w3 ⟨v3, s3, p3, rfl, hs3, hsm, hp3, hq3, hr3, hg3⟩
  have HR3 := Lib.hid hr3
  have HP3 := Lib.hid (HP2.out.grown hg3 (fun e => by have := Option.some.inj e; omega))
  have HQ3 := Lib.hid (HQ2.out.grown hg3 (fun e => by have := Option.some.inj e; omega))
  have HB3 := Lib.hid (HB2.out.grown hg3 HB2.out.size (fun j e => by have := Option.some.inj e; omega))
  have hz3 := hg3.size
  have HS3 := Lib.hid hs3
  obtain ⟨fa, fc, ia, ic, rfl, -, -⟩ := hs3.read
  clear hr3 hg3 hs3 HR2 HP2 HQ2 HB2
  obtain ⟨W4, hW4⟩ : ∃ W4, W4 = w3.alloc (.cells #[.slice fa s3.front.length fc, .slice ia s3.items.length ic, .int .i64 s3.back.x, .int .i64 s3.back.y, .int .i64 s3.back.z, .int .i64 s3.flips, .int .i64 s3.cost] 31) := ⟨_, rfl⟩
  have hbn : Below w3.heap.size w3 W4 := by rw [hW4]; exact (Below.refl _ _).alloc (Nat.le_refl _) _
  have HST := Lib.hid (show CaseSt w W.heap.size c w3.heap.size w2.heap.size (.slice fa s3.front.length fc) (.slice ia s3.items.length ic) (.int .i64 s3.back.x) (.int .i64 s3.back.y) (.int .i64 s3.back.z) (.int .i64 s3.flips) (.int .i64 s3.cost) s3 p3 W4 from
    ⟨by rw [hW4]; exact Box7.new w3 _ _ _ _ _ _ _ _, HP3.out.call hbn, HQ3.out.call hbn, HR3.out.kept (Below.grownNone hbn none), HS3.out.below hbn, HB3.out.trans (hbn.mono HB3.out.size)⟩)
  clear hbn HR3 HP3 HQ3 HB3 HS3
  go_upto_region 4 with (fail)
  rw [← hW4]
  clear hW4
  obtain ⟨sv, hsv⟩ : ∃ sv, sv = w3.heap.size := ⟨_, rfl⟩
  obtain ⟨lo, hlo⟩ : ∃ lo, lo = w2.heap.size := ⟨_, rfl⟩
  obtain ⟨B, hB⟩ : ∃ B, B = W.heap.size := ⟨_, rfl⟩
  rw [← hsv, ← hlo, ← hB] at HST
  rw [← hsv, ← hlo] at hz3
  rw [← hlo] at hc3
  rw [← hB] at hc1 hWs
  rw [← hsv]
  clear hsv hlo hB
  have hcs : c ≠ sv := by omega
  have hwc : w.heap.size + 1 < c := by omega
  obtain ⟨q0, q1, q2, q3, q4, q5, q6⟩ := HST.out.x.cells
  go_region_with (first | (go_at_call 63; refine (l1Wrong_any _ B c _ _ HST5.out.r (by omega)).mono ?_; rintro e w6 ⟨k6, p6, rfl, -, hp6, hq6, hr6, hg6⟩; have HST6 := Lib.hid (HST5.out.step hr6 hg6 hwc hc3 hcs); obtain ⟨t0, t1, t2, t3, t4, t5, t6⟩ := HST6.out.x.cells; obtain ⟨r0, r1, r2, r3, r4, r5, r6⟩ := HST6.out.z.cells; have r7 := HST6.out.z.free; obtain ⟨y0, y1⟩ := HST6.out.q.cells; have y7 := HST6.out.q.free; clear hr6 hg6) | (go_at_call 64; refine (l3Op_any B c _ _ HST5.out.r (by omega)).mono ?_; rintro e w6 ⟨b6, x6, p6, rfl, hp6, hq6, hr6, hg6⟩; have HST6 := Lib.hid (HST5.out.step hr6 hg6 hwc hc3 hcs); obtain ⟨t0, t1, t2, t3, t4, t5, t6⟩ := HST6.out.x.cells; obtain ⟨r0, r1, r2, r3, r4, r5, r6⟩ := HST6.out.z.cells; have r7 := HST6.out.z.free; obtain ⟨y0, y1⟩ := HST6.out.q.cells; have y7 := HST6.out.q.free; clear hr6 hg6) | (go_at_call 63; refine (l1Wrong_any _ B c _ (World.drew W4) (show Rd (World.drew W4) B c p3 from HST.out.r) (by omega)).mono ?_; rintro e w5 ⟨k5, p5, rfl, -, hp5, hq5, hr5, hg5⟩; have HST5 := Lib.hid (HST.out.stepD hr5 hg5 hwc hc3 hcs); obtain ⟨o0, o1, o2, o3, o4, o5, o6⟩ := HST5.out.x.cells; clear hr5 hg5) | (go_at_call 64; refine (l3Op_any B c _ (World.drew W4) (show Rd (World.drew W4) B c p3 from HST.out.r) (by omega)).mono ?_; rintro e w5 ⟨b5, x5, p5, rfl, hp5, hq5, hr5, hg5⟩; have HST5 := Lib.hid (HST.out.stepD hr5 hg5 hwc hc3 hcs); obtain ⟨o0, o1, o2, o3, o4, o5, o6⟩ := HST5.out.x.cells; clear hr5 hg5))
  all_goals
    have hxs := HST6.out.x.lt
    clear q0 q1 q2 q3 q4 q5 q6 o0 o1 o2 o3 o4 o5 o6 t0 t1 t2 t3 t4 t5 t6
    go_wp2_with fail
    refine bodyPost_ret (by simp [results, Tryz.results23, go_sem, *]; try rfl) rfl ?_
    first
      | exact ⟨k5, _, s3, b6, x6, rfl, (((HST6.out.s.set7 (.inl (by omega)) _ _ _ _ _ _ _).set1 (.inl (by omega))).set1 (.inl (by omega))).wide (by omega) (by simp [World.setCell]; omega) (Nat.le_refl _), hsm, ((sets7 HST6.out.b (Nat.le_refl _) _ _ _ _ _ _ _).setCell (Nat.le_succ _) _).setCell (Nat.le_succ _) _⟩
      | exact ⟨k6, _, s3, b5, x5, rfl, (((HST6.out.s.set7 (.inl (by omega)) _ _ _ _ _ _ _).set1 (.inl (by omega))).set1 (.inl (by omega))).wide (by omega) (by simp [World.setCell]; omega) (Nat.le_refl _), hsm, ((sets7 HST6.out.b (Nat.le_refl _) _ _ _ _ _ _ _).setCell (Nat.le_succ _) _).setCell (Nat.le_succ _) _⟩
end Go.Proofs.YticoalgnkddapaaGreat
