/-
  Stacks of a window without items, in the program and in the model; stacks compared.
-/
import Derived.Test.YtehfijijapfomaaGreatRw
import Derived.Test.YtehfijijapfomaaGreatN
import Derived.Test.YtehfijijapfomaaGreat3a
import Derived.Deep.DeepCutAuto
namespace Go.Proofs.YtehfijijapfomaaGreat
set_option linter.unusedSimpArgs false
set_option linter.unusedVariables false
open Go.RowKit
def Agg.first (k : Int) : Agg.V := if Agg.isKind k then Agg.unit k else Agg.zero
set_option maxRecDepth 8000 in
set_option maxHeartbeats 2000000 in
theorem stacksStart_any (k : Int) (w : World) :
    Calls Tryz.prog 69 #[.int .i64 k] w fun e w' => e = .returned (.tuple #[.agg #[.slice none 0 0, .slice none 0 0, .int .i64 (Agg.first k).x, .int .i64 (Agg.first k).y, .int .i64 (Agg.first k).z, .int .i64 0, .int .i64 0], .bool (Agg.isKind k)]) ∧ Below w.heap.size w w' := by
  have hU := fun w => unitOf_any k w
  have HB0 := Lib.hid (show Below w.heap.size w (w.alloc (.cells #[.slice none 0 0, .slice none 0 0, .int .i64 0, .int .i64 0, .int .i64 0, .int .i64 0, .int .i64 0] 58)) from (Below.refl _ _).alloc (Nat.le_refl _) _)
  cases hk : Agg.isKind k
  · have e : Agg.aUnit k = (Agg.zero, false) := by simp [Agg.aUnit, Agg.give, hk]
    have e2 : Agg.first k = Agg.zero := by simp [Agg.first, hk]
    rw [e] at hU
    rw [e2]
    have HU := Lib.hid hU
    clear hU e e2 hk
    go_enter Tryz.func69, Tryz.ntmps69
    go_wp2_with fail
    refine (HU.out _).mono ?_
    rintro e w1 ⟨rfl, hb1⟩
    have HR1 := Lib.hid ((Box7.new w 58 (.slice none 0 0) (.slice none 0 0) (.int .i64 0) (.int .i64 0) (.int .i64 0) (.int .i64 0) (.int .i64 0)).call hb1)
    have HB1 := Lib.hid (HB0.out.trans (hb1.mono HB0.out.size))
    clear hb1
    go_upto_region 3 with (fail)
    obtain ⟨W2, hW2⟩ : ∃ W2, W2 = w1.alloc (.cells #[.int .i64 Agg.zero.x, .int .i64 Agg.zero.y, .int .i64 Agg.zero.z] 30) := ⟨_, rfl⟩
    have HR2 := Lib.hid (show Box7 W2 w.heap.size 58 (.slice none 0 0) (.slice none 0 0) (.int .i64 0) (.int .i64 0) (.int .i64 0) (.int .i64 0) (.int .i64 0) from by rw [hW2]; exact HR1.out.alloc _)
    have HV2 := Lib.hid (show Box W2 w1.heap.size 30 Agg.zero.x Agg.zero.y Agg.zero.z from by rw [hW2]; exact Box.new w1 _ _ _ _)
    have HB2 := Lib.hid (show Below w.heap.size w W2 from by rw [hW2]; exact HB1.out.alloc HB1.out.size _)
    rw [← hW2]
    obtain ⟨c1, hc1⟩ : ∃ c1, c1 = w1.heap.size := ⟨_, rfl⟩
    rw [← hc1] at HV2 ⊢
    clear hW2 hc1 HR1 HB1
    obtain ⟨r0, r1, r2, r3, r4, r5, r6⟩ := HR2.out.cells
    obtain ⟨v0, v1, v2⟩ := HV2.out.cells
    have gR := HR2.out.free
    go_wp2_with fail
    refine bodyPost_ret (by simp [results, Tryz.results69, go_sem, *]; try rfl) rfl ?_
    exact ⟨rfl, ((((((HB2.out.setCell (Nat.le_refl _) _).setCell (Nat.le_refl _) _).setCell (Nat.le_refl _) _).setCell (Nat.le_refl _) _).setCell (Nat.le_refl _) _).setCell (Nat.le_refl _) _).setCell (Nat.le_refl _) _⟩
  · have e : Agg.aUnit k = (Agg.unit k, true) := by simp [Agg.aUnit, Agg.give, hk]
    have e2 : Agg.first k = Agg.unit k := by simp [Agg.first, hk]
    rw [e] at hU
    rw [e2]
    obtain ⟨⟨x, y, z⟩, hV⟩ : ∃ V, V = Agg.unit k := ⟨_, rfl⟩
    rw [← hV] at hU ⊢
    have HU := Lib.hid hU
    clear hU e e2 hk hV
    go_enter Tryz.func69, Tryz.ntmps69
    go_wp2_with fail
    refine (HU.out _).mono ?_
    rintro e w1 ⟨rfl, hb1⟩
    have HR1 := Lib.hid ((Box7.new w 58 (.slice none 0 0) (.slice none 0 0) (.int .i64 0) (.int .i64 0) (.int .i64 0) (.int .i64 0) (.int .i64 0)).call hb1)
    have HB1 := Lib.hid (HB0.out.trans (hb1.mono HB0.out.size))
    clear hb1
    go_upto_region 4 with (fail)
    obtain ⟨W2, hW2⟩ : ∃ W2, W2 = w1.alloc (.cells #[.int .i64 x, .int .i64 y, .int .i64 z] 30) := ⟨_, rfl⟩
    have HR2 := Lib.hid (show Box7 W2 w.heap.size 58 (.slice none 0 0) (.slice none 0 0) (.int .i64 0) (.int .i64 0) (.int .i64 0) (.int .i64 0) (.int .i64 0) from by rw [hW2]; exact HR1.out.alloc _)
    have HV2 := Lib.hid (show Box W2 w1.heap.size 30 x y z from by rw [hW2]; exact Box.new w1 _ _ _ _)
    have HB2 := Lib.hid (show Below w.heap.size w W2 from by rw [hW2]; exact HB1.out.alloc HB1.out.size _)
    rw [← hW2]
    obtain ⟨c1, hc1⟩ : ∃ c1, c1 = w1.heap.size := ⟨_, rfl⟩
    rw [← hc1] at HV2 ⊢
    clear hW2 hc1 HR1 HB1
    obtain ⟨r0, r1, r2, r3, r4, r5, r6⟩ := HR2.out.cells
    obtain ⟨v0, v1, v2⟩ := HV2.out.cells
    have gR := HR2.out.free
    go_wp2_with fail
    refine bodyPost_ret (by simp [results, Tryz.results69, go_sem, *]; try rfl) rfl ?_
    exact ⟨rfl, ((((((HB2.out.setCell (Nat.le_refl _) _).setCell (Nat.le_refl _) _).setCell (Nat.le_refl _) _).setCell (Nat.le_refl _) _).setCell (Nat.le_refl _) _).setCell (Nat.le_refl _) _).setCell (Nat.le_refl _) _⟩
set_option maxRecDepth 8000 in
set_option maxHeartbeats 2000000 in
theorem s_stacksStart_any (k : Int) (w : World) :
    Calls Tryz.prog 66 #[.int .i64 k] w fun e w' => e = .returned (.tuple #[.agg #[.slice none 0 0, .slice none 0 0, .int .i64 (Agg.first k).x, .int .i64 (Agg.first k).y, .int .i64 (Agg.first k).z, .int .i64 0, .int .i64 0], .bool (Agg.isKind k)]) ∧ Below w.heap.size w w' := by
  have hK := fun w => s_kind_any k w
  have HB0 := Lib.hid (show Below w.heap.size w (w.alloc (.cells #[.slice none 0 0, .slice none 0 0, .int .i64 0, .int .i64 0, .int .i64 0, .int .i64 0, .int .i64 0] 58)) from (Below.refl _ _).alloc (Nat.le_refl _) _)
  cases hk : Agg.isKind k
  · have e2 : Agg.first k = Agg.zero := by simp [Agg.first, hk]
    rw [e2]
    rw [hk] at hK
    have HK := Lib.hid hK
    clear hK e2 hk
    go_enter Tryz.func66, Tryz.ntmps66
    go_wp2_with fail
    refine (HK.out _).mono ?_
    rintro e w1 ⟨rfl, rfl⟩
    go_wp2_with fail
    refine bodyPost_ret (by simp [results, Tryz.results66, go_sem, *]; try rfl) rfl ?_
    exact ⟨rfl, by have hB := HB0.out; have := hB.size; go_grown⟩
  · have e2 : Agg.first k = Agg.unit k := by simp [Agg.first, hk]
    have hU := fun w => s_unit_any k hk w
    rw [e2]
    rw [hk] at hK
    obtain ⟨⟨x, y, z⟩, hV⟩ : ∃ V, V = Agg.unit k := ⟨_, rfl⟩
    rw [← hV] at hU ⊢
    have HU := Lib.hid hU
    have HK := Lib.hid hK
    clear hU hK e2 hk hV
    go_enter Tryz.func66, Tryz.ntmps66
    go_wp2_with fail
    refine (HK.out _).mono ?_
    rintro e w1 ⟨rfl, rfl⟩
    go_wp2_with fail
    refine (HU.out _).mono ?_
    rintro e w1 ⟨rfl, hb1⟩
    have HR1 := Lib.hid ((Box7.new w 58 (.slice none 0 0) (.slice none 0 0) (.int .i64 0) (.int .i64 0) (.int .i64 0) (.int .i64 0) (.int .i64 0)).call hb1)
    have HB1 := Lib.hid (HB0.out.trans (hb1.mono HB0.out.size))
    have hl1 := HR1.out.lt
    obtain ⟨r0, r1, r2, r3, r4, r5, r6⟩ := HR1.out.cells
    have f0 := HR1.out.free 0
    have f1 := HR1.out.free 1
    have f2 := HR1.out.free 2
    have f3 := HR1.out.free 3
    have f4 := HR1.out.free 4
    have f5 := HR1.out.free 5
    have f6 := HR1.out.free 6
    clear hb1
    go_wp2_with fail
    refine bodyPost_ret (by simp [results, Tryz.results66, go_sem, *]; try rfl) rfl ?_
    exact ⟨rfl, by have hB := HB1.out; have := hB.size; go_grown⟩
end Go.Proofs.YtehfijijapfomaaGreat
