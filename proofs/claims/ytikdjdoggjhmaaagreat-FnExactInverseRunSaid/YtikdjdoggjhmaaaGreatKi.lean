/-
  A kind of aggregates as the program's interface value: which functions its methods are, and what they answer, for all kinds at once.
-/
import Derived.Test.YtikdjdoggjhmaaaGreatA1
import Derived.Test.YtikdjdoggjhmaaaGreatA2
import Derived.Test.YtikdjdoggjhmaaaGreatA3
import Derived.Test.YtikdjdoggjhmaaaGreatMa
namespace Go.Proofs.YtikdjdoggjhmaaaGreat
set_option linter.unusedSimpArgs false
set_option linter.unusedVariables false
open Go.RowKit
structure KindAt (k : Int) (T fu fl fc : Nat) : Prop where
  of : ∀ w, Calls Tryz.prog 68 #[.int .i64 k] w fun e w' => e = .returned (.tuple #[.iface T (.agg #[]), .bool true]) ∧ w = w'
  mu : ∀ w, Sem.run Tryz.prog (Go.method 293 T (.agg #[]) "loop.example/windowaggregates/impl.unit") w = .ok (fu, .agg #[]) w
  ml : ∀ w, Sem.run Tryz.prog (Go.method 293 T (.agg #[]) "loop.example/windowaggregates/impl.lift") w = .ok (fl, .agg #[]) w
  mc : ∀ w, Sem.run Tryz.prog (Go.method 293 T (.agg #[]) "loop.example/windowaggregates/impl.combine") w = .ok (fc, .agg #[]) w
  au : ∀ w, Sem.run Tryz.prog (Go.nilAhead 293 T (.agg #[]) "loop.example/windowaggregates/impl.unit") w = .ok (some false) w
  al : ∀ w, Sem.run Tryz.prog (Go.nilAhead 293 T (.agg #[]) "loop.example/windowaggregates/impl.lift") w = .ok (some false) w
  ac : ∀ w, Sem.run Tryz.prog (Go.nilAhead 293 T (.agg #[]) "loop.example/windowaggregates/impl.combine") w = .ok (some false) w
  cu : ∀ args w, Sem.run Tryz.prog (Go.callFunc fu args) w = .ok (.enter fu args) w
  cl : ∀ args w, Sem.run Tryz.prog (Go.callFunc fl args) w = .ok (.enter fl args) w
  cc : ∀ args w, Sem.run Tryz.prog (Go.callFunc fc args) w = .ok (.enter fc args) w
  unit : ∀ w, Calls Tryz.prog fu #[.agg #[]] w fun e w' => e = .returned (.agg #[.int .i64 (Agg.unit k).x, .int .i64 (Agg.unit k).y, .int .i64 (Agg.unit k).z]) ∧ Below w.heap.size w w'
  lift : ∀ n w, 0 ≤ n → n ≤ 96 → Calls Tryz.prog fl #[.agg #[], .int .i64 n] w fun e w' => e = .returned (.agg #[.int .i64 (Agg.lift k n).x, .int .i64 (Agg.lift k n).y, .int .i64 (Agg.lift k n).z]) ∧ Below w.heap.size w w'
  comb : ∀ (ax ay az bx by' bz : Int) w, Agg.ok k ⟨ax, ay, az⟩ = true → Agg.ok k ⟨bx, by', bz⟩ = true → Calls Tryz.prog fc #[.agg #[], .agg #[.int .i64 ax, .int .i64 ay, .int .i64 az], .agg #[.int .i64 bx, .int .i64 by', .int .i64 bz]] w fun e w' => e = .returned (.agg #[.int .i64 (Agg.comb k ⟨ax, ay, az⟩ ⟨bx, by', bz⟩).x, .int .i64 (Agg.comb k ⟨ax, ay, az⟩ ⟨bx, by', bz⟩).y, .int .i64 (Agg.comb k ⟨ax, ay, az⟩ ⟨bx, by', bz⟩).z]) ∧ Below w.heap.size w w'
theorem kindAt_1 : KindAt 1 139 149 146 144 :=
  ⟨kindOf_1, fun w => by kernel_rfl, fun w => by kernel_rfl, fun w => by kernel_rfl, fun w => by kernel_rfl, fun w => by kernel_rfl, fun w => by kernel_rfl, fun args w => by kernel_rfl, fun args w => by kernel_rfl, fun args w => by kernel_rfl, unit_1, fun n w h0 h1 => lift_1 n w h0 h1, fun ax ay az bx by' bz w h h' => combine_1 ax ay az bx by' bz w h h'⟩
theorem kindAt_2 : KindAt 2 140 157 154 152 :=
  ⟨kindOf_2, fun w => by kernel_rfl, fun w => by kernel_rfl, fun w => by kernel_rfl, fun w => by kernel_rfl, fun w => by kernel_rfl, fun w => by kernel_rfl, fun args w => by kernel_rfl, fun args w => by kernel_rfl, fun args w => by kernel_rfl, unit_2, fun n w h0 h1 => lift_2 n w h0 h1, fun ax ay az bx by' bz w h h' => combine_2 ax ay az bx by' bz w h h'⟩
theorem kindAt_3 : KindAt 3 143 164 162 160 :=
  ⟨kindOf_3, fun w => by kernel_rfl, fun w => by kernel_rfl, fun w => by kernel_rfl, fun w => by kernel_rfl, fun w => by kernel_rfl, fun w => by kernel_rfl, fun args w => by kernel_rfl, fun args w => by kernel_rfl, fun args w => by kernel_rfl, unit_3, fun n w h0 h1 => lift_3 n w h0 h1, fun ax ay az bx by' bz w h h' => combine_3 ax ay az bx by' bz w h h'⟩
theorem kindAt_4 : KindAt 4 146 172 170 168 :=
  ⟨kindOf_4, fun w => by kernel_rfl, fun w => by kernel_rfl, fun w => by kernel_rfl, fun w => by kernel_rfl, fun w => by kernel_rfl, fun w => by kernel_rfl, fun args w => by kernel_rfl, fun args w => by kernel_rfl, fun args w => by kernel_rfl, unit_4, fun n w h0 h1 => lift_4 n w h0 h1, fun ax ay az bx by' bz w h h' => combine_4 ax ay az bx by' bz w h h'⟩
theorem kindAt_5 : KindAt 5 149 180 178 176 :=
  ⟨kindOf_5, fun w => by kernel_rfl, fun w => by kernel_rfl, fun w => by kernel_rfl, fun w => by kernel_rfl, fun w => by kernel_rfl, fun w => by kernel_rfl, fun args w => by kernel_rfl, fun args w => by kernel_rfl, fun args w => by kernel_rfl, unit_5, fun n w h0 h1 => lift_5 n w h0 h1, fun ax ay az bx by' bz w h h' => combine_5 ax ay az bx by' bz w h h'⟩
theorem kindAt_6 : KindAt 6 152 188 186 184 :=
  ⟨kindOf_6, fun w => by kernel_rfl, fun w => by kernel_rfl, fun w => by kernel_rfl, fun w => by kernel_rfl, fun w => by kernel_rfl, fun w => by kernel_rfl, fun args w => by kernel_rfl, fun args w => by kernel_rfl, fun args w => by kernel_rfl, unit_6, fun n w h0 h1 => lift_6 n w h0 h1, fun ax ay az bx by' bz w h h' => combine_6 ax ay az bx by' bz w h h'⟩
theorem kindAt_7 : KindAt 7 153 195 192 190 :=
  ⟨kindOf_7, fun w => by kernel_rfl, fun w => by kernel_rfl, fun w => by kernel_rfl, fun w => by kernel_rfl, fun w => by kernel_rfl, fun w => by kernel_rfl, fun args w => by kernel_rfl, fun args w => by kernel_rfl, fun args w => by kernel_rfl, unit_7, fun n w h0 h1 => lift_7 n w h0 h1, fun ax ay az bx by' bz w h h' => combine_7 ax ay az bx by' bz w h h'⟩
theorem kindAt_8 : KindAt 8 154 202 199 197 :=
  ⟨kindOf_8, fun w => by kernel_rfl, fun w => by kernel_rfl, fun w => by kernel_rfl, fun w => by kernel_rfl, fun w => by kernel_rfl, fun w => by kernel_rfl, fun args w => by kernel_rfl, fun args w => by kernel_rfl, fun args w => by kernel_rfl, unit_8, fun n w h0 h1 => lift_8 n w h0 h1, fun ax ay az bx by' bz w h h' => combine_8 ax ay az bx by' bz w h h'⟩
theorem kindAt_9 : KindAt 9 155 209 207 205 :=
  ⟨kindOf_9, fun w => by kernel_rfl, fun w => by kernel_rfl, fun w => by kernel_rfl, fun w => by kernel_rfl, fun w => by kernel_rfl, fun w => by kernel_rfl, fun args w => by kernel_rfl, fun args w => by kernel_rfl, fun args w => by kernel_rfl, unit_9, fun n w h0 h1 => lift_9 n w h0 h1, fun ax ay az bx by' bz w h h' => combine_9 ax ay az bx by' bz w h h'⟩
theorem kindAt_10 : KindAt 10 156 215 213 211 :=
  ⟨kindOf_10, fun w => by kernel_rfl, fun w => by kernel_rfl, fun w => by kernel_rfl, fun w => by kernel_rfl, fun w => by kernel_rfl, fun w => by kernel_rfl, fun args w => by kernel_rfl, fun args w => by kernel_rfl, fun args w => by kernel_rfl, unit_10, fun n w h0 h1 => lift_10 n w h0 h1, fun ax ay az bx by' bz w h h' => combine_10 ax ay az bx by' bz w h h'⟩
theorem kind_at {k : Int} (hk : Agg.isKind k = true) : ∃ T fu fl fc, KindAt k T fu fl fc := by
  rcases Agg.kinds hk with rfl | rfl | rfl | rfl | rfl | rfl | rfl | rfl | rfl | rfl
  · exact ⟨_, _, _, _, kindAt_1⟩
  · exact ⟨_, _, _, _, kindAt_2⟩
  · exact ⟨_, _, _, _, kindAt_3⟩
  · exact ⟨_, _, _, _, kindAt_4⟩
  · exact ⟨_, _, _, _, kindAt_5⟩
  · exact ⟨_, _, _, _, kindAt_6⟩
  · exact ⟨_, _, _, _, kindAt_7⟩
  · exact ⟨_, _, _, _, kindAt_8⟩
  · exact ⟨_, _, _, _, kindAt_9⟩
  · exact ⟨_, _, _, _, kindAt_10⟩
end Go.Proofs.YtikdjdoggjhmaaaGreat
