/-
  The arguments that the model draws for RemoveFirst.
-/
import Derived.Test.YtfmkjpbmaogjpaaGreatDw
import Derived.Test.YtfmkjpbmaogjpaaGreatN
namespace Go.Proofs.YtfmkjpbmaogjpaaGreat
set_option linter.unusedSimpArgs false
set_option linter.unusedVariables false
open Go.RowKit
theorem Rd.alloc {w : World} {B c : Nat} {p : Int} (h : Rd w B c p) (o : Obj) : Rd (w.alloc o) B c p := h.kept (World.grownBy_alloc w o none)
/-- A kind and two aggregates are drawn. -/
def DrawnPair (w : World) (e : Ending) (w' : World) : Prop :=
  ∃ k ax ay az bx by' bz : Int, e = .returned (.tuple #[.int .i64 k, .agg #[.int .i64 ax, .int .i64 ay, .int .i64 az], .agg #[.int .i64 bx, .int .i64 by', .int .i64 bz]]) ∧ Below w.heap.size w w'
set_option maxRecDepth 4000 in
set_option maxHeartbeats 4000000 in
theorem drawRemoveFirst_any (a : Option Addr) (n cap : Nat) (l : List Int) (w : World) (h : Bytes w a n cap l) :
    Calls Tryz.prog 15 #[.slice a n cap] w (DrawnPair w) := by
  have HB := Lib.hid h; clear h
  go_enter Tryz.func15, Tryz.ntmps15
  go_wp2_with fail
  refine (open_any _ _ _ l _ (HB.out.below (by go_grown))).mono ?_
  rintro e w1 ⟨c, rfl, hr, hb⟩
  have hBc := hr.1
  simp at hBc
  have hA := ((Box.new w 24 0 0 0).alloc (.cells #[.int .i64 0, .int .i64 0, .int .i64 0] 24)).below hb (by simp; omega)
  have hZ := (Box.new (w.alloc (.cells #[.int .i64 0, .int .i64 0, .int .i64 0] 24)) 24 0 0 0).below hb (by simp)
  rw [show (w.alloc (.cells #[.int .i64 0, .int .i64 0, .int .i64 0] 24)).heap.size = w.heap.size + 1 by simp] at hZ
  have hW : Below w.heap.size w w1 := Below.trans (by go_grown) (hb.mono (by simp; omega))
  have HA := Lib.hid (hA.alloc (.cells #[.int .i64 8, .int .i64 1, .int .i64 7, .int .i64 2, .int .i64 4, .int .i64 9] 3))
  have HZ := Lib.hid (hZ.alloc (.cells #[.int .i64 8, .int .i64 1, .int .i64 7, .int .i64 2, .int .i64 4, .int .i64 9] 3))
  have HR := Lib.hid (hr.alloc (.cells #[.int .i64 8, .int .i64 1, .int .i64 7, .int .i64 2, .int .i64 4, .int .i64 9] 3))
  have HW := Lib.hid (hW.alloc hW.size (.cells #[.int .i64 8, .int .i64 1, .int .i64 7, .int .i64 2, .int .i64 4, .int .i64 9] 3))
  have hlt1 := hr.2.1
  clear hr hW hA hZ hb
  go_wp2_with fail
  refine (num_any w1.heap.size 6 [8, 1, 7, 2, 4, 9] _ c 0 _ HR.out (by omega) (ListAt.new w1 [8, 1, 7, 2, 4, 9] _) (by omega) (by decide) (by decide)).mono ?_
  rintro e w2 ⟨k, rfl, hk, hr2, hg2⟩
  have hkk : Agg.isKind k = true := by simp only [List.mem_cons, List.not_mem_nil, or_false] at hk; simp [Agg.isKind]; omega
  clear hk
  have HA2 := Lib.hid (HA.out.grown hg2 (by omega))
  have HZ2 := Lib.hid (HZ.out.grown hg2 (by omega))
  have HR2 := Lib.hid hr2
  have HW2 := Lib.hid (HW.out.trans (grown_below hg2 HW.out.size (by omega)))
  clear HA HZ HR HW hr2 hg2
  go_wp2_with fail
  refine (l1Value_any k hkk _ c _ _ HR2.out (by omega)).mono ?_
  rintro e w3 ⟨ax, ay, az, p3, rfl, -, hp3, hq3, hr3, hg3⟩
  have HA3 := Lib.hid ((HA2.out.grown hg3 (by omega)).alloc (.cells #[.int .i64 ax, .int .i64 ay, .int .i64 az] 24))
  have HZ3 := Lib.hid ((HZ2.out.grown hg3 (by omega)).alloc (.cells #[.int .i64 ax, .int .i64 ay, .int .i64 az] 24))
  have HP3 := Lib.hid (Box.new w3 24 ax ay az)
  have hcw3 := hr3.2.1
  have HR3 := Lib.hid (hr3.alloc (.cells #[.int .i64 ax, .int .i64 ay, .int .i64 az] 24))
  have hW3 := HW2.out.trans (grown_below hg3 HW2.out.size (by omega))
  have hws3 : w.heap.size + 1 < w3.heap.size := by have := (HZ2.out.grown hg3 (by omega)).lt; omega
  have HW3 := Lib.hid (hW3.alloc hW3.size (.cells #[.int .i64 ax, .int .i64 ay, .int .i64 az] 24))
  clear HA2 HZ2 HR2 HW2 hr3 hg3 hW3
  go_wp2_with fail
  refine (l1Value_any k hkk _ c _ _ HR3.out (by omega)).mono ?_
  rintro e w4 ⟨bx, by', bz, p4, rfl, -, hp4, hq4, hr4, hg4⟩
  have hs4 := hg4.size
  simp at hs4
  have HA4 := Lib.hid ((HA3.out.grown hg4 (by omega)).alloc (.cells #[.int .i64 bx, .int .i64 by', .int .i64 bz] 24))
  have HZ4 := Lib.hid ((HZ3.out.grown hg4 (by omega)).alloc (.cells #[.int .i64 bx, .int .i64 by', .int .i64 bz] 24))
  have HP4 := Lib.hid ((HP3.out.grown hg4 (by omega)).alloc (.cells #[.int .i64 bx, .int .i64 by', .int .i64 bz] 24))
  have HQ4 := Lib.hid (Box.new w4 24 bx by' bz)
  have HR4 := Lib.hid (hr4.alloc (.cells #[.int .i64 bx, .int .i64 by', .int .i64 bz] 24))
  have hW4 := HW3.out.trans (grown_below hg4 HW3.out.size (by omega))
  have HW4 := Lib.hid (hW4.alloc hW4.size (.cells #[.int .i64 bx, .int .i64 by', .int .i64 bz] 24))
  obtain ⟨q0, q1, q2⟩ := HP4.out.cells
  clear HA3 HZ3 HP3 HR3 HW3 hr4 hg4 hW4
  obtain ⟨⟨⟨x, y, z⟩, o⟩, ho⟩ : ∃ p, p = Agg.aComb k ⟨ax, ay, az⟩ ⟨bx, by', bz⟩ := ⟨_, rfl⟩
  have h1 := fun w => s_combineValues_any k ax ay az bx by' bz w
  rw [← ho] at h1
  have H1 := Lib.hid h1
  clear h1 ho
  have hP : w3.heap.size < w4.heap.size := by omega
  go_wp2_with fail
  refine (H1.out _).mono ?_
  rintro e w5 ⟨rfl, hb5⟩
  have hs5 := hb5.size
  simp at hs5
  have HA5 := Lib.hid ((HA4.out.below hb5 HA4.out.lt).alloc (.cells #[.int .i64 x, .int .i64 y, .int .i64 z] 24))
  have HZ5 := Lib.hid ((HZ4.out.below hb5 HZ4.out.lt).alloc (.cells #[.int .i64 x, .int .i64 y, .int .i64 z] 24))
  have HP5 := Lib.hid ((HP4.out.below hb5 HP4.out.lt).alloc (.cells #[.int .i64 x, .int .i64 y, .int .i64 z] 24))
  have HQ5 := Lib.hid ((HQ4.out.below hb5 HQ4.out.lt).alloc (.cells #[.int .i64 x, .int .i64 y, .int .i64 z] 24))
  have HV5 := Lib.hid (Box.new w5 24 x y z)
  have HR5 := Lib.hid ((rd_below HR4.out hb5).alloc (.cells #[.int .i64 x, .int .i64 y, .int .i64 z] 24))
  have hW5 := HW4.out.trans (hb5.mono HW4.out.size)
  have HW5 := Lib.hid (hW5.alloc hW5.size (.cells #[.int .i64 x, .int .i64 y, .int .i64 z] 24))
  clear HA4 HZ4 HP4 HQ4 HR4 HW4 hb5 hW5 H1 q0 q1 q2
  have hP5 : w4.heap.size < w5.heap.size := by omega
  have hX : w5.heap.size < (w5.alloc (.cells #[.int .i64 x, .int .i64 y, .int .i64 z] 24)).heap.size := HV5.out.lt
  cases o
  · go_wp2_with fail
    generalize w5.alloc (.cells #[.int .i64 x, .int .i64 y, .int .i64 z] 24) = X at HA5 HZ5 HP5 HQ5 HV5 HR5 HW5 hX ⊢
    obtain ⟨d, hd⟩ : ∃ d, d = w5.heap.size := ⟨_, rfl⟩
    obtain ⟨b, hb⟩ : ∃ b, b = w4.heap.size := ⟨_, rfl⟩
    obtain ⟨e, he⟩ : ∃ e, e = w3.heap.size := ⟨_, rfl⟩
    rw [← hd] at HV5 hs5 hX hP5 ⊢
    rw [← hb] at HQ5 hs5 hs4 hP hP5 ⊢
    rw [← he] at HP5 hs4 hP hws3 hcw3 ⊢
    clear hd hb he
    obtain ⟨q0, q1, q2⟩ := HP5.out.cells
    obtain ⟨r0, r1, r2⟩ := HQ5.out.cells
    obtain ⟨f0, f1, f2⟩ := HV5.out.cells
    obtain ⟨g0, g1, g2⟩ := HA5.out.cells
    obtain ⟨i0, i1, i2⟩ := HZ5.out.cells
    have z0 := HA5.out.free 0
    have z1 := HA5.out.free 1
    have z2 := HA5.out.free 2
    have y0 := HZ5.out.free 0
    have y1 := HZ5.out.free 1
    have y2 := HZ5.out.free 2
    go_region_with (go_at_call 53; refine (l1Wrong_any _ _ c _ _ (by exact HR5.out) (by omega)).mono ?_; rintro e7 w7 ⟨k7, p7, rfl, -, hp7, hq7, hr7, hg7⟩; have hA7 := Box.grown (by exact HA5.out) hg7 (by omega); have hZ7 := Box.grown (by exact HZ5.out) hg7 (by omega); have hP7 := Box.grown (by exact HP5.out) hg7 (by omega); have hQ7 := Box.grown (by exact HQ5.out) hg7 (by omega); obtain ⟨s0, s1, s2⟩ := hP7.cells; obtain ⟨t0, t1, t2⟩ := hQ7.cells; obtain ⟨a0, a1, a2⟩ := hA7.cells; obtain ⟨b0, b1, b2⟩ := hZ7.cells; have x0 := hA7.free 0; have x1 := hA7.free 1; have x2 := hA7.free 2; have v0 := hZ7.free 0; have v1 := hZ7.free 1; have v2 := hZ7.free 2; have HW7 := Lib.hid (HW5.out.drew.trans (grown_below hg7 HW5.out.size (by omega))); clear hA7 hZ7 hP7 hQ7)
    all_goals
      go_wp2_with fail
      refine bodyPost_ret (by simp [results, Tryz.results15, go_sem, *]; try rfl) rfl ?_
      exact ⟨_, ax, ay, az, bx, by', bz, rfl, by have := HW7.out; go_grown⟩
  · go_wp2_with fail
    generalize w5.alloc (.cells #[.int .i64 x, .int .i64 y, .int .i64 z] 24) = X at HA5 HZ5 HP5 HQ5 HV5 HR5 HW5 hX ⊢
    obtain ⟨d, hd⟩ : ∃ d, d = w5.heap.size := ⟨_, rfl⟩
    obtain ⟨b, hb⟩ : ∃ b, b = w4.heap.size := ⟨_, rfl⟩
    obtain ⟨e, he⟩ : ∃ e, e = w3.heap.size := ⟨_, rfl⟩
    rw [← hd] at HV5 hs5 hX hP5 ⊢
    rw [← hb] at HQ5 hs5 hs4 hP hP5 ⊢
    rw [← he] at HP5 hs4 hP hws3 hcw3 ⊢
    clear hd hb he
    refine (pick_any _ _ c p4 _ HR5.out (by omega) (by omega)).mono ?_
    rintro e6 w6 ⟨u, rfl, hu0, hu1, -, hr6, hg6⟩
    have HA6 := Lib.hid (HA5.out.grown hg6 (by omega))
    have HZ6 := Lib.hid (HZ5.out.grown hg6 (by omega))
    have HP6 := Lib.hid (HP5.out.grown hg6 (by omega))
    have HQ6 := Lib.hid (HQ5.out.grown hg6 (by omega))
    have HV6 := Lib.hid (HV5.out.grown hg6 (by omega))
    have HR6 := Lib.hid hr6
    have HW6 := Lib.hid (HW5.out.trans (grown_below hg6 HW5.out.size (by omega)))
    clear HA5 HZ5 HP5 HQ5 HV5 HR5 HW5 hr6 hg6 hu1
    obtain ⟨q0, q1, q2⟩ := HP6.out.cells
    obtain ⟨r0, r1, r2⟩ := HQ6.out.cells
    obtain ⟨f0, f1, f2⟩ := HV6.out.cells
    obtain ⟨g0, g1, g2⟩ := HA6.out.cells
    obtain ⟨i0, i1, i2⟩ := HZ6.out.cells
    have z0 := HA6.out.free 0
    have z1 := HA6.out.free 1
    have z2 := HA6.out.free 2
    have y0 := HZ6.out.free 0
    have y1 := HZ6.out.free 1
    have y2 := HZ6.out.free 2
    by_cases h0 : u = 0
    · subst h0
      go_wp2_with fail
      go_region_with (go_at_call 53; refine (l1Wrong_any _ _ c _ _ (by exact HR6.out) (by omega)).mono ?_; rintro e7 w7 ⟨k7, p7, rfl, -, hp7, hq7, hr7, hg7⟩; have hA7 := Box.grown (by exact HA6.out) hg7 (by omega); have hZ7 := Box.grown (by exact HZ6.out) hg7 (by omega); have hP7 := Box.grown (by exact HP6.out) hg7 (by omega); have hQ7 := Box.grown (by exact HQ6.out) hg7 (by omega); obtain ⟨s0, s1, s2⟩ := hP7.cells; obtain ⟨t0, t1, t2⟩ := hQ7.cells; obtain ⟨a0, a1, a2⟩ := hA7.cells; obtain ⟨b0, b1, b2⟩ := hZ7.cells; have x0 := hA7.free 0; have x1 := hA7.free 1; have x2 := hA7.free 2; have v0 := hZ7.free 0; have v1 := hZ7.free 1; have v2 := hZ7.free 2; have HW7 := Lib.hid (HW6.out.drew.trans (grown_below hg7 HW6.out.size (by omega))); clear hA7 hZ7 hP7 hQ7)
      all_goals
        go_wp2_with fail
        refine bodyPost_ret (by simp [results, Tryz.results15, go_sem, *]; try rfl) rfl ?_
        exact ⟨_, ax, ay, az, bx, by', bz, rfl, by have := HW7.out; go_grown⟩
    · have hup : 0 < u := by omega
      go_wp2_with fail
      go_region
      all_goals
        go_wp2_with fail
        refine bodyPost_ret (by simp [results, Tryz.results15, go_sem, *]; try rfl) rfl ?_
        exact ⟨k, ax, ay, az, x, y, z, rfl, by have := HW6.out; go_grown⟩
end Go.Proofs.YtfmkjpbmaogjpaaGreat
