/-
  The kinds in which first items can be removed, as the program's interface value; for all of them at once.
-/
import Derived.Test.YtikdjdoggjhmaaaGreatKi
import Derived.Test.YtikdjdoggjhmaaaGreatR
import Derived.Stop.Asserts
namespace Go.Proofs.YtikdjdoggjhmaaaGreat
set_option linter.unusedSimpArgs false
set_option linter.unusedVariables false
open Go.RowKit
theorem rassert_1 (w : World) : (Instr.typeAssert (.iface 139 (.agg #[])) 88 118 true).run Tryz.prog w = .ok (.tuple #[.iface 139 (.agg #[]), .bool true]) w := by kernel_rfl
theorem removerOf_1 (w : World) : Calls Tryz.prog 94 #[.int .i64 1] w fun e w' => e = .returned (.tuple #[.iface 139 (.agg #[]), .bool true]) ∧ w = w' := by
  have hta := rassert_1
  go_enter Tryz.func94, Tryz.ntmps94
  go_wp2_with fail
  refine (kindOf_1 _).mono ?_
  rintro e w1 ⟨rfl, rfl⟩
  go_wp2_with fail
  go_returns
  exact ⟨rfl, rfl⟩
theorem rassert_2 (w : World) : (Instr.typeAssert (.iface 140 (.agg #[])) 88 118 true).run Tryz.prog w = .ok (.tuple #[.iface 140 (.agg #[]), .bool true]) w := by kernel_rfl
theorem removerOf_2 (w : World) : Calls Tryz.prog 94 #[.int .i64 2] w fun e w' => e = .returned (.tuple #[.iface 140 (.agg #[]), .bool true]) ∧ w = w' := by
  have hta := rassert_2
  go_enter Tryz.func94, Tryz.ntmps94
  go_wp2_with fail
  refine (kindOf_2 _).mono ?_
  rintro e w1 ⟨rfl, rfl⟩
  go_wp2_with fail
  go_returns
  exact ⟨rfl, rfl⟩
theorem rassert_7 (w : World) : (Instr.typeAssert (.iface 153 (.agg #[])) 88 118 true).run Tryz.prog w = .ok (.tuple #[.iface 153 (.agg #[]), .bool true]) w := by kernel_rfl
theorem removerOf_7 (w : World) : Calls Tryz.prog 94 #[.int .i64 7] w fun e w' => e = .returned (.tuple #[.iface 153 (.agg #[]), .bool true]) ∧ w = w' := by
  have hta := rassert_7
  go_enter Tryz.func94, Tryz.ntmps94
  go_wp2_with fail
  refine (kindOf_7 _).mono ?_
  rintro e w1 ⟨rfl, rfl⟩
  go_wp2_with fail
  go_returns
  exact ⟨rfl, rfl⟩
theorem rassert_8 (w : World) : (Instr.typeAssert (.iface 154 (.agg #[])) 88 118 true).run Tryz.prog w = .ok (.tuple #[.iface 154 (.agg #[]), .bool true]) w := by kernel_rfl
theorem removerOf_8 (w : World) : Calls Tryz.prog 94 #[.int .i64 8] w fun e w' => e = .returned (.tuple #[.iface 154 (.agg #[]), .bool true]) ∧ w = w' := by
  have hta := rassert_8
  go_enter Tryz.func94, Tryz.ntmps94
  go_wp2_with fail
  refine (kindOf_8 _).mono ?_
  rintro e w1 ⟨rfl, rfl⟩
  go_wp2_with fail
  go_returns
  exact ⟨rfl, rfl⟩
theorem rassert_3 (w : World) : (Instr.typeAssert (.iface 143 (.agg #[])) 88 118 true).run Tryz.prog w = .ok (.tuple #[.nilIface, .bool false]) w := run_typeAssert_lacksB Tryz.underlying118 (by kernel_rfl) (by kernel_rfl) _ _ _
theorem removerOf_3 (w : World) : Calls Tryz.prog 94 #[.int .i64 3] w fun e w' => e = .returned (.tuple #[.nilIface, .bool false]) ∧ w = w' := by
  have hta := rassert_3
  go_enter Tryz.func94, Tryz.ntmps94
  go_wp2_with fail
  refine (kindOf_3 _).mono ?_
  rintro e w1 ⟨rfl, rfl⟩
  go_wp2_with fail
  go_returns
  exact ⟨rfl, rfl⟩
theorem rassert_4 (w : World) : (Instr.typeAssert (.iface 146 (.agg #[])) 88 118 true).run Tryz.prog w = .ok (.tuple #[.nilIface, .bool false]) w := run_typeAssert_lacksB Tryz.underlying118 (by kernel_rfl) (by kernel_rfl) _ _ _
theorem removerOf_4 (w : World) : Calls Tryz.prog 94 #[.int .i64 4] w fun e w' => e = .returned (.tuple #[.nilIface, .bool false]) ∧ w = w' := by
  have hta := rassert_4
  go_enter Tryz.func94, Tryz.ntmps94
  go_wp2_with fail
  refine (kindOf_4 _).mono ?_
  rintro e w1 ⟨rfl, rfl⟩
  go_wp2_with fail
  go_returns
  exact ⟨rfl, rfl⟩
theorem rassert_5 (w : World) : (Instr.typeAssert (.iface 149 (.agg #[])) 88 118 true).run Tryz.prog w = .ok (.tuple #[.nilIface, .bool false]) w := run_typeAssert_lacksB Tryz.underlying118 (by kernel_rfl) (by kernel_rfl) _ _ _
theorem removerOf_5 (w : World) : Calls Tryz.prog 94 #[.int .i64 5] w fun e w' => e = .returned (.tuple #[.nilIface, .bool false]) ∧ w = w' := by
  have hta := rassert_5
  go_enter Tryz.func94, Tryz.ntmps94
  go_wp2_with fail
  refine (kindOf_5 _).mono ?_
  rintro e w1 ⟨rfl, rfl⟩
  go_wp2_with fail
  go_returns
  exact ⟨rfl, rfl⟩
theorem rassert_6 (w : World) : (Instr.typeAssert (.iface 152 (.agg #[])) 88 118 true).run Tryz.prog w = .ok (.tuple #[.nilIface, .bool false]) w := run_typeAssert_lacksB Tryz.underlying118 (by kernel_rfl) (by kernel_rfl) _ _ _
theorem removerOf_6 (w : World) : Calls Tryz.prog 94 #[.int .i64 6] w fun e w' => e = .returned (.tuple #[.nilIface, .bool false]) ∧ w = w' := by
  have hta := rassert_6
  go_enter Tryz.func94, Tryz.ntmps94
  go_wp2_with fail
  refine (kindOf_6 _).mono ?_
  rintro e w1 ⟨rfl, rfl⟩
  go_wp2_with fail
  go_returns
  exact ⟨rfl, rfl⟩
theorem rassert_9 (w : World) : (Instr.typeAssert (.iface 155 (.agg #[])) 88 118 true).run Tryz.prog w = .ok (.tuple #[.nilIface, .bool false]) w := run_typeAssert_lacksB Tryz.underlying118 (by kernel_rfl) (by kernel_rfl) _ _ _
theorem removerOf_9 (w : World) : Calls Tryz.prog 94 #[.int .i64 9] w fun e w' => e = .returned (.tuple #[.nilIface, .bool false]) ∧ w = w' := by
  have hta := rassert_9
  go_enter Tryz.func94, Tryz.ntmps94
  go_wp2_with fail
  refine (kindOf_9 _).mono ?_
  rintro e w1 ⟨rfl, rfl⟩
  go_wp2_with fail
  go_returns
  exact ⟨rfl, rfl⟩
theorem rassert_10 (w : World) : (Instr.typeAssert (.iface 156 (.agg #[])) 88 118 true).run Tryz.prog w = .ok (.tuple #[.nilIface, .bool false]) w := run_typeAssert_lacksB Tryz.underlying118 (by kernel_rfl) (by kernel_rfl) _ _ _
theorem removerOf_10 (w : World) : Calls Tryz.prog 94 #[.int .i64 10] w fun e w' => e = .returned (.tuple #[.nilIface, .bool false]) ∧ w = w' := by
  have hta := rassert_10
  go_enter Tryz.func94, Tryz.ntmps94
  go_wp2_with fail
  refine (kindOf_10 _).mono ?_
  rintro e w1 ⟨rfl, rfl⟩
  go_wp2_with fail
  go_returns
  exact ⟨rfl, rfl⟩
theorem removerOf_not (k : Int) (w : World) (h : Agg.removes k = false) : Calls Tryz.prog 94 #[.int .i64 k] w fun e w' => e = .returned (.tuple #[.nilIface, .bool false]) ∧ w = w' := by
  cases hk : Agg.isKind k
  · have hk2 := Lib.hid (show ¬ (1 ≤ k ∧ k ≤ 10) by simpa [Agg.isKind] using hk)
    clear h hk
    go_enter Tryz.func94, Tryz.ntmps94
    go_wp2_with fail
    refine (kindOf_not _ _ hk2.out).mono ?_
    rintro e w1 ⟨rfl, rfl⟩
    go_wp2_with fail
    go_returns
    exact ⟨rfl, rfl⟩
  · rcases Agg.kinds hk with rfl | rfl | rfl | rfl | rfl | rfl | rfl | rfl | rfl | rfl
    · exact absurd h (by decide)
    · exact absurd h (by decide)
    · exact removerOf_3 w
    · exact removerOf_4 w
    · exact removerOf_5 w
    · exact removerOf_6 w
    · exact absurd h (by decide)
    · exact absurd h (by decide)
    · exact removerOf_9 w
    · exact removerOf_10 w
structure RemAt (k : Int) (T fu fl fc fr : Nat) : Prop where
  K : KindAt k T fu fl fc
  of : ∀ w, Calls Tryz.prog 94 #[.int .i64 k] w fun e w' => e = .returned (.tuple #[.iface T (.agg #[]), .bool true]) ∧ w = w'
  mr : ∀ w, Sem.run Tryz.prog (Go.method 293 T (.agg #[]) "loop.example/windowaggregates/impl.rest") w = .ok (fr, .agg #[]) w
  ar : ∀ w, Sem.run Tryz.prog (Go.nilAhead 293 T (.agg #[]) "loop.example/windowaggregates/impl.rest") w = .ok (some false) w
  cr : ∀ args w, Sem.run Tryz.prog (Go.callFunc fr args) w = .ok (.enter fr args) w
  rest : ∀ (ax ay az bx by' bz : Int) w, Agg.ok k ⟨ax, ay, az⟩ = true → Agg.ok k ⟨bx, by', bz⟩ = true → Calls Tryz.prog fr #[.agg #[], .agg #[.int .i64 ax, .int .i64 ay, .int .i64 az], .agg #[.int .i64 bx, .int .i64 by', .int .i64 bz]] w fun e w' => e = .returned (.agg #[.int .i64 (Agg.rest k ⟨ax, ay, az⟩ ⟨bx, by', bz⟩).x, .int .i64 (Agg.rest k ⟨ax, ay, az⟩ ⟨bx, by', bz⟩).y, .int .i64 (Agg.rest k ⟨ax, ay, az⟩ ⟨bx, by', bz⟩).z]) ∧ Below w.heap.size w w'
theorem remAt_1 : RemAt 1 139 149 146 144 148 :=
  ⟨kindAt_1, removerOf_1, fun w => by kernel_rfl, fun w => by kernel_rfl, fun args w => by kernel_rfl, fun ax ay az bx by' bz w h h' => rest_1 ax ay az bx by' bz w h h'⟩
theorem remAt_2 : RemAt 2 140 157 154 152 156 :=
  ⟨kindAt_2, removerOf_2, fun w => by kernel_rfl, fun w => by kernel_rfl, fun args w => by kernel_rfl, fun ax ay az bx by' bz w h h' => rest_2 ax ay az bx by' bz w h h'⟩
theorem remAt_7 : RemAt 7 153 195 192 190 194 :=
  ⟨kindAt_7, removerOf_7, fun w => by kernel_rfl, fun w => by kernel_rfl, fun args w => by kernel_rfl, fun ax ay az bx by' bz w h h' => rest_7 ax ay az bx by' bz w h h'⟩
theorem remAt_8 : RemAt 8 154 202 199 197 201 :=
  ⟨kindAt_8, removerOf_8, fun w => by kernel_rfl, fun w => by kernel_rfl, fun args w => by kernel_rfl, fun ax ay az bx by' bz w h h' => rest_8 ax ay az bx by' bz w h h'⟩
theorem rem_at {k : Int} (hk : Agg.removes k = true) : ∃ T fu fl fc fr, RemAt k T fu fl fc fr := by
  simp only [Agg.removes, decide_eq_true_eq] at hk
  rcases hk with rfl | rfl | rfl | rfl
  · exact ⟨_, _, _, _, _, remAt_1⟩
  · exact ⟨_, _, _, _, _, remAt_2⟩
  · exact ⟨_, _, _, _, _, remAt_7⟩
  · exact ⟨_, _, _, _, _, remAt_8⟩
end Go.Proofs.YtikdjdoggjhmaaaGreat
