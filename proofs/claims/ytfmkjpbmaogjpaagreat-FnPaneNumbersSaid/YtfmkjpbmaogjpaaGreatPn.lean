import Derived.Test.YtfmkjpbmaogjpaaGreatA1
import Derived.Test.YtfmkjpbmaogjpaaGreatA2
import Derived.Test.YtfmkjpbmaogjpaaGreatA3
import Derived.Test.YtfmkjpbmaogjpaaGreatMa
import Derived.Test.YtfmkjpbmaogjpaaGreatS1
import Derived.Test.YtfmkjpbmaogjpaaGreatS2
import Derived.Test.YtfmkjpbmaogjpaaGreatS3
import Derived.Test.YtfmkjpbmaogjpaaGreatS4
import Derived.Test.YtfmkjpbmaogjpaaGreatG1
import Derived.Test.YtfmkjpbmaogjpaaGreatG2
import Derived.Test.YtfmkjpbmaogjpaaGreatG3
import Derived.Test.YtfmkjpbmaogjpaaGreatG4
import Derived.Test.YtfmkjpbmaogjpaaGreat5h
import Derived.Test.YtfmkjpbmaogjpaaGreat5a
import Derived.Test.YtfmkjpbmaogjpaaGreatRw
import Derived.Test.YtfmkjpbmaogjpaaGreat5f
import Derived.Deep.RegionWith
import Derived.Deep.RegionHeld3
import Derived.Test.YtfmkjpbmaogjpaaGreat5m
/-
  A kind of aggregates as the program's interface value: which functions its methods are, and what they answer, for all kinds at once.
-/
namespace Go.Proofs.YtfmkjpbmaogjpaaGreat
set_option linter.unusedSimpArgs false
set_option linter.unusedVariables false
open Go.RowKit
structure KindAt (k : Int) (T fu fl fc : Nat) : Prop where
  of : ∀ w, Calls Tryz.prog 59 #[.int .i64 k] w fun e w' => e = .returned (.tuple #[.iface T (.agg #[]), .bool true]) ∧ w = w'
  mu : ∀ w, Sem.run Tryz.prog (Go.method 269 T (.agg #[]) "loop.example/windowaggregates/impl.unit") w = .ok (fu, .agg #[]) w
  ml : ∀ w, Sem.run Tryz.prog (Go.method 269 T (.agg #[]) "loop.example/windowaggregates/impl.lift") w = .ok (fl, .agg #[]) w
  mc : ∀ w, Sem.run Tryz.prog (Go.method 269 T (.agg #[]) "loop.example/windowaggregates/impl.combine") w = .ok (fc, .agg #[]) w
  au : ∀ w, Sem.run Tryz.prog (Go.nilAhead 269 T (.agg #[]) "loop.example/windowaggregates/impl.unit") w = .ok (some false) w
  al : ∀ w, Sem.run Tryz.prog (Go.nilAhead 269 T (.agg #[]) "loop.example/windowaggregates/impl.lift") w = .ok (some false) w
  ac : ∀ w, Sem.run Tryz.prog (Go.nilAhead 269 T (.agg #[]) "loop.example/windowaggregates/impl.combine") w = .ok (some false) w
  cu : ∀ args w, Sem.run Tryz.prog (Go.callFunc fu args) w = .ok (.enter fu args) w
  cl : ∀ args w, Sem.run Tryz.prog (Go.callFunc fl args) w = .ok (.enter fl args) w
  cc : ∀ args w, Sem.run Tryz.prog (Go.callFunc fc args) w = .ok (.enter fc args) w
  unit : ∀ w, Calls Tryz.prog fu #[.agg #[]] w fun e w' => e = .returned (.agg #[.int .i64 (Agg.unit k).x, .int .i64 (Agg.unit k).y, .int .i64 (Agg.unit k).z]) ∧ Below w.heap.size w w'
  lift : ∀ n w, 0 ≤ n → n ≤ 96 → Calls Tryz.prog fl #[.agg #[], .int .i64 n] w fun e w' => e = .returned (.agg #[.int .i64 (Agg.lift k n).x, .int .i64 (Agg.lift k n).y, .int .i64 (Agg.lift k n).z]) ∧ Below w.heap.size w w'
  comb : ∀ (ax ay az bx by' bz : Int) w, Agg.ok k ⟨ax, ay, az⟩ = true → Agg.ok k ⟨bx, by', bz⟩ = true → Calls Tryz.prog fc #[.agg #[], .agg #[.int .i64 ax, .int .i64 ay, .int .i64 az], .agg #[.int .i64 bx, .int .i64 by', .int .i64 bz]] w fun e w' => e = .returned (.agg #[.int .i64 (Agg.comb k ⟨ax, ay, az⟩ ⟨bx, by', bz⟩).x, .int .i64 (Agg.comb k ⟨ax, ay, az⟩ ⟨bx, by', bz⟩).y, .int .i64 (Agg.comb k ⟨ax, ay, az⟩ ⟨bx, by', bz⟩).z]) ∧ Below w.heap.size w w'
theorem kindAt_1 : KindAt 1 115 125 122 120 :=
  ⟨kindOf_1, fun w => by kernel_rfl, fun w => by kernel_rfl, fun w => by kernel_rfl, fun w => by kernel_rfl, fun w => by kernel_rfl, fun w => by kernel_rfl, fun args w => by kernel_rfl, fun args w => by kernel_rfl, fun args w => by kernel_rfl, unit_1, fun n w h0 h1 => lift_1 n w h0 h1, fun ax ay az bx by' bz w h h' => combine_1 ax ay az bx by' bz w h h'⟩
theorem kindAt_2 : KindAt 2 116 133 130 128 :=
  ⟨kindOf_2, fun w => by kernel_rfl, fun w => by kernel_rfl, fun w => by kernel_rfl, fun w => by kernel_rfl, fun w => by kernel_rfl, fun w => by kernel_rfl, fun args w => by kernel_rfl, fun args w => by kernel_rfl, fun args w => by kernel_rfl, unit_2, fun n w h0 h1 => lift_2 n w h0 h1, fun ax ay az bx by' bz w h h' => combine_2 ax ay az bx by' bz w h h'⟩
theorem kindAt_3 : KindAt 3 119 140 138 136 :=
  ⟨kindOf_3, fun w => by kernel_rfl, fun w => by kernel_rfl, fun w => by kernel_rfl, fun w => by kernel_rfl, fun w => by kernel_rfl, fun w => by kernel_rfl, fun args w => by kernel_rfl, fun args w => by kernel_rfl, fun args w => by kernel_rfl, unit_3, fun n w h0 h1 => lift_3 n w h0 h1, fun ax ay az bx by' bz w h h' => combine_3 ax ay az bx by' bz w h h'⟩
theorem kindAt_4 : KindAt 4 122 148 146 144 :=
  ⟨kindOf_4, fun w => by kernel_rfl, fun w => by kernel_rfl, fun w => by kernel_rfl, fun w => by kernel_rfl, fun w => by kernel_rfl, fun w => by kernel_rfl, fun args w => by kernel_rfl, fun args w => by kernel_rfl, fun args w => by kernel_rfl, unit_4, fun n w h0 h1 => lift_4 n w h0 h1, fun ax ay az bx by' bz w h h' => combine_4 ax ay az bx by' bz w h h'⟩
theorem kindAt_5 : KindAt 5 125 156 154 152 :=
  ⟨kindOf_5, fun w => by kernel_rfl, fun w => by kernel_rfl, fun w => by kernel_rfl, fun w => by kernel_rfl, fun w => by kernel_rfl, fun w => by kernel_rfl, fun args w => by kernel_rfl, fun args w => by kernel_rfl, fun args w => by kernel_rfl, unit_5, fun n w h0 h1 => lift_5 n w h0 h1, fun ax ay az bx by' bz w h h' => combine_5 ax ay az bx by' bz w h h'⟩
theorem kindAt_6 : KindAt 6 128 164 162 160 :=
  ⟨kindOf_6, fun w => by kernel_rfl, fun w => by kernel_rfl, fun w => by kernel_rfl, fun w => by kernel_rfl, fun w => by kernel_rfl, fun w => by kernel_rfl, fun args w => by kernel_rfl, fun args w => by kernel_rfl, fun args w => by kernel_rfl, unit_6, fun n w h0 h1 => lift_6 n w h0 h1, fun ax ay az bx by' bz w h h' => combine_6 ax ay az bx by' bz w h h'⟩
theorem kindAt_7 : KindAt 7 129 171 168 166 :=
  ⟨kindOf_7, fun w => by kernel_rfl, fun w => by kernel_rfl, fun w => by kernel_rfl, fun w => by kernel_rfl, fun w => by kernel_rfl, fun w => by kernel_rfl, fun args w => by kernel_rfl, fun args w => by kernel_rfl, fun args w => by kernel_rfl, unit_7, fun n w h0 h1 => lift_7 n w h0 h1, fun ax ay az bx by' bz w h h' => combine_7 ax ay az bx by' bz w h h'⟩
theorem kindAt_8 : KindAt 8 130 178 175 173 :=
  ⟨kindOf_8, fun w => by kernel_rfl, fun w => by kernel_rfl, fun w => by kernel_rfl, fun w => by kernel_rfl, fun w => by kernel_rfl, fun w => by kernel_rfl, fun args w => by kernel_rfl, fun args w => by kernel_rfl, fun args w => by kernel_rfl, unit_8, fun n w h0 h1 => lift_8 n w h0 h1, fun ax ay az bx by' bz w h h' => combine_8 ax ay az bx by' bz w h h'⟩
theorem kindAt_9 : KindAt 9 131 185 183 181 :=
  ⟨kindOf_9, fun w => by kernel_rfl, fun w => by kernel_rfl, fun w => by kernel_rfl, fun w => by kernel_rfl, fun w => by kernel_rfl, fun w => by kernel_rfl, fun args w => by kernel_rfl, fun args w => by kernel_rfl, fun args w => by kernel_rfl, unit_9, fun n w h0 h1 => lift_9 n w h0 h1, fun ax ay az bx by' bz w h h' => combine_9 ax ay az bx by' bz w h h'⟩
theorem kindAt_10 : KindAt 10 132 191 189 187 :=
  ⟨kindOf_10, fun w => by kernel_rfl, fun w => by kernel_rfl, fun w => by kernel_rfl, fun w => by kernel_rfl, fun w => by kernel_rfl, fun w => by kernel_rfl, fun args w => by kernel_rfl, fun args w => by kernel_rfl, fun args w => by kernel_rfl, unit_10, fun n w h0 h1 => lift_10 n w h0 h1, fun ax ay az bx by' bz w h h' => combine_10 ax ay az bx by' bz w h h'⟩
theorem kind_at {k : Int} (hk : Agg.isKind k = true) : ∃ T fu fl fc, KindAt k T fu fl fc := by
  rcases Agg.kinds hk with rfl | rfl | rfl | rfl | rfl | rfl | rfl | rfl | rfl | rfl
  · exact ⟨_, _, _, _, kindAt_1⟩
  · exact ⟨_, _, _, _, kindAt_2⟩
  · exact ⟨_, _, _, _, kindAt_3⟩
  · exact ⟨_, _, _, _, kindAt_4⟩
  · exact ⟨_, _, _, _, kindAt_5⟩
  · exact ⟨_, _, _, _, kindAt_6⟩
  · exact ⟨_, _, _, _, kindAt_7⟩
  · exact ⟨_, _, _, _, kindAt_8⟩
  · exact ⟨_, _, _, _, kindAt_9⟩
  · exact ⟨_, _, _, _, kindAt_10⟩
end Go.Proofs.YtfmkjpbmaogjpaaGreat

/-
  The model's functions of chapter 1, at every kind.
-/
namespace Go.Proofs.YtfmkjpbmaogjpaaGreat
set_option linter.unusedSimpArgs false
set_option linter.unusedVariables false
open Go.RowKit
theorem s_is_any (k : Int) (hk : Agg.isKind k = true) (x y z : Int) (w : World) :
    Calls Tryz.prog 58 #[.int .i64 k, .agg #[.int .i64 x, .int .i64 y, .int .i64 z]] w fun e w' => e = .returned (.bool (Agg.ok k ⟨x, y, z⟩)) ∧ Below w.heap.size w w' := by
  rcases Agg.kinds hk with rfl | rfl | rfl | rfl | rfl | rfl | rfl | rfl | rfl | rfl
  · exact s_is_1 x y z w
  · exact s_is_2 x y z w
  · exact s_is_3 x y z w
  · exact s_is_4 x y z w
  · exact s_is_5 x y z w
  · exact s_is_6 x y z w
  · exact s_is_7 x y z w
  · exact s_is_8 x y z w
  · exact s_is_9 x y z w
  · exact s_is_10 x y z w
theorem s_unit_any (k : Int) (hk : Agg.isKind k = true) (w : World) :
    Calls Tryz.prog 87 #[.int .i64 k] w fun e w' => e = .returned (.agg #[.int .i64 (Agg.unit k).x, .int .i64 (Agg.unit k).y, .int .i64 (Agg.unit k).z]) ∧ Below w.heap.size w w' := by
  rcases Agg.kinds hk with rfl | rfl | rfl | rfl | rfl | rfl | rfl | rfl | rfl | rfl
  · exact s_unit_1 w
  · exact s_unit_2 w
  · exact s_unit_3 w
  · exact s_unit_4 w
  · exact s_unit_5 w
  · exact s_unit_6 w
  · exact s_unit_7 w
  · exact s_unit_8 w
  · exact s_unit_9 w
  · exact s_unit_10 w
theorem s_lift_any (k : Int) (hk : Agg.isKind k = true) (n : Int) (w : World) (h0 : 0 ≤ n) (h1 : n ≤ 96) :
    Calls Tryz.prog 98 #[.int .i64 k, .int .i64 n] w fun e w' => e = .returned (.agg #[.int .i64 (Agg.lift k n).x, .int .i64 (Agg.lift k n).y, .int .i64 (Agg.lift k n).z]) ∧ Below w.heap.size w w' := by
  rcases Agg.kinds hk with rfl | rfl | rfl | rfl | rfl | rfl | rfl | rfl | rfl | rfl
  · exact s_lift_1 n w h0 h1
  · exact s_lift_2 n w h0 h1
  · exact s_lift_3 n w h0 h1
  · exact s_lift_4 n w h0 h1
  · exact s_lift_5 n w h0 h1
  · exact s_lift_6 n w h0 h1
  · exact s_lift_7 n w h0 h1
  · exact s_lift_8 n w h0 h1
  · exact s_lift_9 n w h0 h1
  · exact s_lift_10 n w h0 h1
theorem s_combine_any (k : Int) (hk : Agg.isKind k = true) (ax ay az bx by' bz : Int) (w : World) (h : Agg.ok k ⟨ax, ay, az⟩ = true) (h' : Agg.ok k ⟨bx, by', bz⟩ = true) :
    Calls Tryz.prog 88 #[.int .i64 k, .agg #[.int .i64 ax, .int .i64 ay, .int .i64 az], .agg #[.int .i64 bx, .int .i64 by', .int .i64 bz]] w fun e w' => e = .returned (.agg #[.int .i64 (Agg.comb k ⟨ax, ay, az⟩ ⟨bx, by', bz⟩).x, .int .i64 (Agg.comb k ⟨ax, ay, az⟩ ⟨bx, by', bz⟩).y, .int .i64 (Agg.comb k ⟨ax, ay, az⟩ ⟨bx, by', bz⟩).z]) ∧ Below w.heap.size w w' := by
  rcases Agg.kinds hk with rfl | rfl | rfl | rfl | rfl | rfl | rfl | rfl | rfl | rfl
  · exact s_combine_1 ax ay az bx by' bz w h h'
  · exact s_combine_2 ax ay az bx by' bz w h h'
  · exact s_combine_3 ax ay az bx by' bz w h h'
  · exact s_combine_4 ax ay az bx by' bz w h h'
  · exact s_combine_5 ax ay az bx by' bz w h h'
  · exact s_combine_6 ax ay az bx by' bz w h h'
  · exact s_combine_7 ax ay az bx by' bz w h h'
  · exact s_combine_8 ax ay az bx by' bz w h h'
  · exact s_combine_9 ax ay az bx by' bz w h h'
  · exact s_combine_10 ax ay az bx by' bz w h h'
theorem s_fold_all (k : Int) (hk : Agg.isKind k = true) (a : Option Addr) (n cap : Nat) (l : List Int) (w : World) (h : Nums .i64 w a n cap l) (hi : Agg.itemsOk l = true) :
    Calls Tryz.prog 68 #[.int .i64 k, .slice a n cap] w fun e w' => e = .returned (.agg #[.int .i64 (Agg.fold k l).x, .int .i64 (Agg.fold k l).y, .int .i64 (Agg.fold k l).z]) ∧ Below w.heap.size w w' := by
  rcases Agg.kinds hk with rfl | rfl | rfl | rfl | rfl | rfl | rfl | rfl | rfl | rfl
  · exact s_fold_1 a n cap l w h hi
  · exact s_fold_2 a n cap l w h hi
  · exact s_fold_3 a n cap l w h hi
  · exact s_fold_4 a n cap l w h hi
  · exact s_fold_5 a n cap l w h hi
  · exact s_fold_6 a n cap l w h hi
  · exact s_fold_7 a n cap l w h hi
  · exact s_fold_8 a n cap l w h hi
  · exact s_fold_9 a n cap l w h hi
  · exact s_fold_10 a n cap l w h hi
end Go.Proofs.YtfmkjpbmaogjpaaGreat

/-
  Rows of aggregates, collected and combined.
-/
namespace Go.Proofs.YtfmkjpbmaogjpaaGreat
set_option linter.unusedSimpArgs false
set_option linter.unusedVariables false
open Go.RowKit
theorem Vals.part {w : World} {b off n cap : Nat} {l : List Agg.V} (h : Vals w (some ⟨b, off, none⟩) n cap l) {i s : Nat} (hi : i + s ≤ n) : Vals w (some ⟨b, off + i * 3, none⟩) s (cap - i) ((l.drop i).take s) := by
  obtain ⟨h1, h2, h3, h4⟩ := h
  refine ⟨by simp; omega, by omega, by omega, ?_⟩
  rcases h4 with h4 | ⟨b', off', ha, hb, hc⟩
  · exact .inl (by omega)
  · simp only [Option.some.injEq, Addr.mk.injEq, and_true] at ha
    obtain ⟨rfl, rfl⟩ := ha
    refine .inr ⟨b, off + i * 3, rfl, hb, fun j hj => ?_⟩
    have e : ((l.drop i).take s)[j]?.getD Agg.zero = l[i + j]?.getD Agg.zero := by rw [List.getElem?_take, if_pos hj, List.getElem?_drop]
    rw [e, show off + i * 3 + j * 3 = off + (i + j) * 3 by omega]
    exact hc (i + j) (by omega)
/-- A slice of slices of aggregates. -/
def RowsV (w : World) (a : Option Addr) (n cap : Nat) (f : Nat → List Agg.V) (s : Nat) : Prop :=
  n ≤ cap ∧ cap ≤ 9223372036854775807 ∧ (n = 0 ∨ ∃ b off, a = some ⟨b, off, none⟩ ∧ b < w.heap.size ∧ ∀ i, i < n → ∃ a' c, w.cell? ⟨b, off + i, none⟩ = some (.slice a' s c) ∧ Vals w a' s c (f i))
theorem RowsV.below {w w' : World} {a : Option Addr} {n cap s : Nat} {f : Nat → List Agg.V} (h : RowsV w a n cap f s) (hb : Below w.heap.size w w') : RowsV w' a n cap f s := by
  obtain ⟨h1, h2, h3⟩ := h
  refine ⟨h1, h2, ?_⟩
  rcases h3 with h3 | ⟨b, off, ha, hlt, hc⟩
  · exact .inl h3
  · refine .inr ⟨b, off, ha, Nat.lt_of_lt_of_le hlt hb.size, fun i hi => ?_⟩
    obtain ⟨a', c, e, hN⟩ := hc i hi
    exact ⟨a', c, (hb.cell (p := ⟨b, off + i, none⟩) hlt).trans e, hN.below hb⟩
/-- Slices of aggregates in a row of the call's own. -/
def RowsVMade (f : Nat → List Agg.V) (s n : Nat) (w : World) (e : Ending) (w' : World) : Prop :=
  ∃ (a : Option Addr) (cap : Nat), e = .returned (.slice a n cap) ∧ RowsV w' a n cap f s ∧ Below w.heap.size w w'
theorem infoRowV : (Tryz.prog.info? 60).map (fun i => (i.zero, i.size, i.bytes)) = some (some (.slice none 0 0), 1, 24) := by kernel_rfl
theorem RowsVMade.of {f : Nat → List Agg.V} {s n : Nat} {w w' : World} {v : Value} {cs : List Value} (h : w'.ownsRow w.heap.size 60 1 v n cs) (hc : ∀ j, j < n → ∃ a c, cs[j]? = some (.slice a s c) ∧ Vals w' a s c (f j)) (hb : Below w.heap.size w w') : RowsVMade f s n w (.returned v) w' := by
  rcases h.2 with ⟨rfl, rfl⟩ | ⟨g, cap, cur, rfl, hlo, hg, h1, h2, -⟩
  · exact ⟨none, 0, rfl, ⟨Nat.le_refl _, by omega, .inl rfl⟩, hb⟩
  · refine ⟨_, cap, rfl, ⟨h1, by unfold maxLen at h2; omega, .inr ⟨g, 0, rfl, (Array.getElem?_eq_some_iff.1 hg).1, fun i hi => ?_⟩⟩, hb⟩
    obtain ⟨a, c, e, hN⟩ := hc i hi
    exact ⟨a, c, by rw [Nat.zero_add]; exact (h.cellAt i (by omega)).trans e, hN⟩
set_option maxRecDepth 4000 in
set_option maxHeartbeats 1000000 in
theorem rowsOf_val (a : Option Addr) (n cap : Nat) (l : List Agg.V) (s h : Nat) (hn : n ≤ 60) (hs1 : 1 ≤ s) (hs2 : s ≤ 60) (hh1 : 1 ≤ h) (hh2 : h ≤ 60) (w : World) (hl : Vals w a n cap l) :
    Calls Tryz.prog 82 #[.slice a n cap, .int .i64 s, .int .i64 h] w (RowsVMade (fun j => (l.drop (j * h)).take s) s (Agg.rowsN n s h) w) := by
  obtain ⟨i0, hi0, hz0, hz1, hz2⟩ := info_parts infoRowV
  have hnc : n ≤ cap := hl.2.1
  have hcm : cap ≤ 9223372036854775807 := by have := hl.2.2.1; unfold maxLen at this; omega
  have HN := Lib.hid hl; clear hl
  have hR := fun j => Agg.rowsN_lt (n := n) (s := s) (h := h) (j := j) hh1
  have hR60 := Agg.rowsN_le (n := n) (s := s) (h := h) hs1
  obtain ⟨R, hRe⟩ : ∃ R, R = Agg.rowsN n s h := ⟨_, rfl⟩
  rw [← hRe] at hR60 ⊢
  simp only [← hRe] at hR
  have HR := Lib.hid hR
  clear hR hRe
  go_enter Tryz.func82, Tryz.ntmps82
  go_wp2_with fail
  go_loopw [7, 8] (fun ov i wr => ∃ (j e : Nat) (cs : List Value), j ≤ R ∧ Hid (e = j * h) ∧ e ≤ 120 ∧ i = .int .i64 ((s : Int) + e) ∧ Hid (wr.ownsRow w.heap.size 60 1 ov j cs) ∧ Hid (∀ q, q < j → ∃ a c, cs[q]? = some (.slice a s c) ∧ Vals w a s c ((l.drop (q * h)).take s)) ∧ Hid (Below w.heap.size w wr)) (fun _ i _ => 200 - (intOf i).toNat)
  case atStart => exact ⟨0, 0, [], Nat.zero_le _, Lib.hid (by simp), by omega, by go_num, World.ownsRow_nil _ _ _ _, fun q hq => by omega, Below.refl _ _⟩
  case round =>
    obtain ⟨j, e, cs, hj, he, he2, rfl, ho, hc, hw⟩ := hrel
    have hwr := hw.out.size
    by_cases hlt : s + e ≤ n
    · have hjR : j < R := (HR.out j).2 (by have := he.out; omega)
      rcases HN.out.2.2.2 with h0 | ⟨b, off, rfl, hbw, hcs⟩
      · omega
      · clear hcs
        have hP := Vals.part (i := e) (s := s) HN.out (by omega)
        have HP := Lib.hid hP
        clear hP
        have hj1 : (0 : Int) ≤ (s : Int) + e - s := by omega
        have hj2 : (s : Int) + e ≤ (n : Int) := by omega
        have hj3 : (s : Int) + (e : Int) - (s : Int) = (e : Int) := by omega
        have hj4 : (s : Int) + (e : Int) - (e : Int) = (s : Int) := by omega
        have hlt' : ∀ q, u7.ownBlock = some q → w.heap.size ≤ q := fun q hq => (ho.out.lt q hq).1
        go_wp2_with (at_builtin; refine wpList_append_own _ rfl (.tmp 17) (.tmp 24) 106 rfl w.heap.size 60 i0 (.slice none 0 0) 1 24 Tryz.underlying106 hi0 hz0 hz1 hz2 rfl (by decide) _ _ _ rfl (ho.out.alloc _) ⟨wr.heap.size, 0, none⟩ 1 1 [.slice (some ⟨b, off + e * 3, none⟩) s (cap - e)] rfl rfl (cell_one_new _ _ _) (fun u hu => by rw [List.mem_singleton.1 hu]; rfl) (by unfold maxLen; omega) (by omega) (by simp; omega) ?_; intro v3 w3 hown3 hgrow3 hnil3; have HO3 := Lib.hid hown3; have HW3 := Lib.hid ((hw.out.alloc hwr _).grown hgrow3 (by simp; omega) hlt'); clear hown3 hgrow3 hnil3)
        go_roundw
        case rel =>
          refine ⟨j + 1, e + h, _, hjR, Lib.hid (by rw [he.out, Nat.add_mul, Nat.one_mul]), by omega, by go_num, HO3, Lib.hid ?_, HW3⟩
          intro q hq
          have hcl : cs.length = j := by have := ho.out.1; simpa using this
          by_cases hqj : q < j
          · obtain ⟨a', c, e1, e2⟩ := hc.out q hqj
            exact ⟨a', c, by rw [List.getElem?_append_left (by omega)]; exact e1, e2⟩
          · obtain rfl : q = j := by omega
            refine ⟨_, _, by rw [List.getElem?_append_right (by omega), hcl, Nat.sub_self]; rfl, ?_⟩
            rw [← he.out]; exact HP.out
        case measure => simp [intOf]; omega
    · obtain rfl : j = R := by
        have := (HR.out j)
        have h2 := he.out
        rcases Nat.lt_or_ge j R with h3 | h3
        · have := this.1 h3; omega
        · omega
      have hlt2 : ¬ ((s : Int) + e ≤ (n : Int)) := by omega
      go_wp2
      go_returns
      exact RowsVMade.of ho.out (fun q hq => by obtain ⟨a', c, e1, e2⟩ := hc.out q hq; exact ⟨a', c, e1, e2.below hw.out⟩) hw.out
set_option maxRecDepth 4000 in
set_option maxHeartbeats 1000000 in
theorem combineAll_any {k : Int} {T fu fl fc : Nat} (K : KindAt k T fu fl fc) (a : Option Addr) (n cap : Nat) (L : List Agg.V) (G : Nat → Agg.V) (hn : n ≤ 1000) (h0 : G 0 = Agg.unit k)
    (hG : ∀ t, t < n → Agg.ok k (G t) = true ∧ Agg.ok k (L[t]?.getD Agg.zero) = true ∧ Agg.comb k (G t) (L[t]?.getD Agg.zero) = G (t + 1)) (w : World) (hV : Vals w a n cap L) :
    Calls Tryz.prog 84 #[.iface T (.agg #[]), .slice a n cap] w fun e w' => e = .returned (.agg #[.int .i64 (G n).x, .int .i64 (G n).y, .int .i64 (G n).z]) ∧ Below w.heap.size w w' := by
  have hU := K.unit
  rw [← h0] at hU
  obtain ⟨⟨ux, uy, uz⟩, hu⟩ : ∃ u, u = G 0 := ⟨_, rfl⟩
  rw [← hu] at hU
  have HU := Lib.hid hU
  have hmu := K.mu
  have hcu := K.cu
  have hau := K.au
  have hmc := K.mc
  have hcc := K.cc
  have hac := K.ac
  have hcapm : cap ≤ 9223372036854775807 := by have := hV.2.2.1; unfold maxLen at this; omega
  have hnc := hV.2.1
  have HV := Lib.hid hV
  have HG := Lib.hid hG
  have HU0 := Lib.hid hu
  clear hU h0 hV hG hu
  go_enter Tryz.func84, Tryz.ntmps84
  go_wp2_with fail
  refine (HU.out _).mono ?_
  rintro e w1 ⟨rfl, hb1⟩
  have HR1 := Lib.hid ((Box.new w 24 0 0 0).call hb1)
  have HW1 := Lib.hid (((Below.refl w.heap.size w).alloc (Nat.le_refl _) (.cells #[.int .i64 0, .int .i64 0, .int .i64 0] 24)).trans (hb1.mono (by simp)))
  have hs1 : w.heap.size < w1.heap.size := HR1.out.lt
  clear hb1
  go_wp2_with fail
  go_loopw [12] (fun i wr => ∃ (j : Nat) (V : Agg.V), j ≤ n ∧ i = .int .i64 j ∧ Hid (V = G j) ∧ Hid (Box wr w.heap.size 24 0 0 0) ∧ Hid (Box wr w1.heap.size 24 V.x V.y V.z) ∧ Hid (Below w.heap.size w wr)) (fun i _ => n - (intOf i).toNat)
  case atStart => exact ⟨0, ⟨ux, uy, uz⟩, Nat.zero_le _, rfl, HU0, Lib.hid (HR1.out.alloc _), Lib.hid (Box.new _ _ _ _ _), Lib.hid (HW1.out.alloc HW1.out.size _)⟩
  case round =>
    obtain ⟨j, ⟨ax, ay, az⟩, hj, rfl, hval, hr, hvb, hw⟩ := hrel
    have hwr := hw.out.size
    have hvl := hvb.out.lt
    have hrl := hr.out.lt
    by_cases hlt : j < n
    · rcases (HV.out.below hw.out).2.2.2 with h4 | ⟨b, off, rfl, hbw, hcs⟩
      · omega
      · obtain ⟨o1, o2, o3⟩ := HG.out j hlt
        obtain ⟨p0, p1, p2⟩ := hcs j hlt
        obtain ⟨⟨x, y, z⟩, hx⟩ : ∃ x, x = L[j]?.getD Agg.zero := ⟨_, rfl⟩
        obtain ⟨⟨rx, ry, rz⟩, hrr⟩ : ∃ x, x = G (j + 1) := ⟨_, rfl⟩
        rw [← hval.out] at o1 o3
        rw [← hx] at o2 o3 p0 p1 p2
        have hC := fun w => K.comb ax ay az x y z w o1 o2
        rw [o3, ← hrr] at hC
        have HC := Lib.hid hC
        have HRR := Lib.hid hrr
        obtain ⟨v0, v1, v2⟩ := hvb.out.cells
        have hj0 : (0 : Int) ≤ (j : Int) := by omega
        have hjn : (j : Int) < (n : Int) := by omega
        clear hC o1 o2 o3 hx hrr hcs
        go_wp2_with fail
        refine (HC.out _).mono ?_
        rintro e w3 ⟨rfl, hb3⟩
        have HV3 := Lib.hid ((hvb.out.alloc (.cells #[.int .i64 x, .int .i64 y, .int .i64 z] 24)).call hb3)
        have HR3 := Lib.hid ((hr.out.alloc (.cells #[.int .i64 x, .int .i64 y, .int .i64 z] 24)).call hb3)
        have HW3 := Lib.hid ((hw.out.alloc hwr (.cells #[.int .i64 x, .int .i64 y, .int .i64 z] 24)).trans (hb3.mono (by simp; omega)))
        obtain ⟨q0, q1, q2⟩ := HV3.out.cells
        have f0 := HV3.out.free 0
        have f1 := HV3.out.free 1
        have f2 := HV3.out.free 2
        clear hb3 v0 v1 v2 p0 p1 p2 HC
        go_wp2_with fail
        go_roundw
        case rel => exact ⟨j + 1, ⟨rx, ry, rz⟩, by omega, by go_num, HRR, Lib.hid (((HR3.out.set_other (c := w1.heap.size) (by omega) 0 _).set_other (c := w1.heap.size) (by omega) 1 _).set_other (c := w1.heap.size) (by omega) 2 _), Lib.hid (HV3.out.set rx ry rz), Lib.hid (((HW3.out.setCell (Nat.le_of_lt hs1) _).setCell (Nat.le_of_lt hs1) _).setCell (Nat.le_of_lt hs1) _)⟩
        case measure => simp [intOf]; omega
    · obtain rfl : j = n := by omega
      obtain ⟨v0, v1, v2⟩ := hvb.out.cells
      obtain ⟨r0, r1, r2⟩ := hr.out.cells
      have f0 := hr.out.free 0
      have f1 := hr.out.free 1
      have f2 := hr.out.free 2
      go_wp2_with fail
      refine bodyPost_ret (by simp [results, Tryz.results84, go_sem, *]; try rfl) rfl ?_
      exact ⟨by rw [← hval.out], ((hw.out.setCell (Nat.le_refl _) _).setCell (Nat.le_refl _) _).setCell (Nat.le_refl _) _⟩
end Go.Proofs.YtfmkjpbmaogjpaaGreat

/-
  PaneNumbers, in the program and in the model.
-/
namespace Go.Proofs.YtfmkjpbmaogjpaaGreat
set_option linter.unusedSimpArgs false
set_option linter.unusedVariables false
open Go.RowKit
theorem Agg.lt_eq {A B : Nat} (h : ∀ j, j < A ↔ j < B) : A = B := by
  rcases Nat.lt_trichotomy A B with h1 | h1 | h1
  · exact absurd ((h A).2 h1) (Nat.lt_irrefl _)
  · exact h1
  · exact absurd ((h B).1 h1) (Nat.lt_irrefl _)
theorem Agg.rows_panes {n s h g s' h' : Nat} (hg : 1 ≤ g) (hs : s' * g = s) (hh : h' * g = h) (hh1 : 1 ≤ h') : Agg.rowsN (n / g) s' h' = Agg.rowsN n s h := by
  have h1 : 1 ≤ h := by rw [← hh]; exact Nat.le_trans hh1 (Nat.le_mul_of_pos_right _ (by omega))
  refine Agg.lt_eq fun j => ?_
  rw [Agg.rowsN_lt hh1, Agg.rowsN_lt h1, Nat.le_div_iff_mul_le (by omega), Nat.add_mul, Nat.mul_assoc, hs, hh]
theorem Agg.rowsN_div5 {n s : Nat} (hs : 1 ≤ s) : Agg.rowsN n s s = n / s := by
  unfold Agg.rowsN
  split
  · rw [Nat.div_eq_of_lt (by omega)]
  · rw [Nat.div_eq_sub_div (by omega) (by omega : s ≤ n)]
/-- The fold of t panes from pane i on. -/
def Agg.prun (k : Int) (l : List Int) (g i t : Nat) : Agg.V := Agg.fold k ((l.drop (i * g)).take (t * g))
theorem Agg.prun_zero (k : Int) (l : List Int) (g i : Nat) : Agg.prun k l g i 0 = Agg.unit k := by simp [Agg.prun, Agg.fold_nil]
theorem Agg.prun_step {k : Int} {l : List Int} (hk : Agg.isKind k = true) (hi : Agg.itemsOk l = true) (g i t : Nat) :
    Agg.ok k (Agg.prun k l g i t) = true ∧ Agg.ok k (Agg.fold k ((l.drop ((i + t) * g)).take g)) = true ∧ Agg.comb k (Agg.prun k l g i t) (Agg.fold k ((l.drop ((i + t) * g)).take g)) = Agg.prun k l g i (t + 1) := by
  refine ⟨Agg.ok_fold_all hk (part_ok hi _ _), Agg.ok_fold_all hk (part_ok hi _ _), ?_⟩
  have e : (l.drop (i * g)).take ((t + 1) * g) = (l.drop (i * g)).take (t * g) ++ (l.drop ((i + t) * g)).take g := by
    rw [Nat.add_mul, Nat.one_mul, List.take_add, List.drop_drop, Nat.add_mul]
  unfold Agg.prun
  rw [e, Agg.fold_append hk _ _ (by rw [← e]; exact part_ok hi _ _)]
theorem Agg.pane_at {k : Int} {l : List Int} {g N q : Nat} (h : q < N) : (Agg.folds k (fun q => (l.drop (q * g)).take g) N)[q]?.getD Agg.zero = Agg.fold k ((l.drop (q * g)).take g) := Agg.folds_at _ _ _ _ h
/-- What divides the sizes. -/
theorem Agg.gcd_parts {s h : Nat} (hs1 : 1 ≤ s) (hs2 : s ≤ 60) (hh1 : 1 ≤ h) (hh2 : h ≤ 60) : ∃ g s' h' : Nat, Agg.gcdA (s : Int) (h : Int) = (g : Int) ∧ Nat.gcd s h = g ∧ 1 ≤ g ∧ g ≤ 60 ∧ s' * g = s ∧ h' * g = h ∧ 1 ≤ s' ∧ s' ≤ 60 ∧ 1 ≤ h' ∧ h' ≤ 60 ∧ (s : Int) / (g : Int) = (s' : Int) ∧ (h : Int) / (g : Int) = (h' : Int) ∧ s / g = s' ∧ h / g = h' := by
  have hok : Agg.gcdOk (s : Int) (h : Int) = true := by simp only [Agg.gcdOk, Bool.and_eq_true, decide_eq_true_eq]; omega
  obtain ⟨g1, g2⟩ := Agg.gcd_le (x := s) (y := h) hs1
  have d1 : s / Nat.gcd s h * Nat.gcd s h = s := Nat.div_mul_cancel (Nat.gcd_dvd_left _ _)
  have d2 : h / Nat.gcd s h * Nat.gcd s h = h := Nat.div_mul_cancel (Nat.gcd_dvd_right _ _)
  have e1 : 1 ≤ s / Nat.gcd s h := (Nat.le_div_iff_mul_le (by omega)).2 (by omega)
  have e2 : 1 ≤ h / Nat.gcd s h := (Nat.le_div_iff_mul_le (by omega)).2 (by have : Nat.gcd s h ≤ h := Nat.gcd_le_right _ (by omega); omega)
  have f1 : s / Nat.gcd s h ≤ s := Nat.div_le_self _ _
  have f2 : h / Nat.gcd s h ≤ h := Nat.div_le_self _ _
  exact ⟨Nat.gcd s h, s / Nat.gcd s h, h / Nat.gcd s h, Agg.gcdA_of hok, rfl, g1, by omega, d1, d2, e1, by omega, e2, by omega, (Int.natCast_ediv _ _).symm, (Int.natCast_ediv _ _).symm, rfl, rfl⟩
set_option maxRecDepth 4000 in
set_option maxHeartbeats 1000000 in
theorem paneNumbers_any (k : Int) (a : Option Addr) (n cap : Nat) (l : List Int) (size hop : Int) (w : World) (h : Nums .i64 w a n cap l) :
    Calls Tryz.prog 44 #[.int .i64 k, .slice a n cap, .int .i64 size, .int .i64 hop] w (RowOut (Agg.hopsOut k l size hop) (Agg.hopsIn k l size hop) w) := by
  have hll : l.length = n := h.1
  have hnc : n ≤ cap := h.2.1
  have hcm : cap ≤ 9223372036854775807 := by have := h.2.2.1; unfold maxLen at this; omega
  have HN := Lib.hid h; clear h
  cases hk : Agg.isKind k
  · have e : Agg.hopsIn k l size hop = false := by simp [Agg.hopsIn, hk]
    rw [Agg.hopsOut, e, if_neg (by simp)]
    have hk2 := Lib.hid (show ¬ (1 ≤ k ∧ k ≤ 10) by simpa [Agg.isKind] using hk)
    go_enter Tryz.func44, Tryz.ntmps44
    go_wp2_with fail
    refine (kindOf_not _ _ hk2.out).mono ?_
    rintro e wk ⟨rfl, rfl⟩
    go_wp2_with fail
    go_returns
    exact RowOut.none_ (Below.refl _ _)
  · obtain ⟨T, fu, fl, fc, K⟩ := kind_at hk
    have HKO := Lib.hid K.of
    cases hi : Agg.itemsOk l
    · have e : Agg.hopsIn k l size hop = false := by simp [Agg.hopsIn, hi]
      rw [Agg.hopsOut, e, if_neg (by simp)]
      go_enter Tryz.func44, Tryz.ntmps44
      go_wp2_with fail
      refine (HKO.out _).mono ?_
      rintro e wk ⟨rfl, rfl⟩
      go_wp2_with fail
      refine (areItems_any _ _ _ l _ HN.out).mono ?_
      rintro e wk ⟨rfl, rfl⟩
      rw [hi]
      go_wp2_with fail
      go_returns
      exact RowOut.none_ (Below.refl _ _)
    · cases hv : Agg.hopsOk size hop
      · have e : Agg.hopsIn k l size hop = false := by simp [Agg.hopsIn, hv]
        rw [Agg.hopsOut, e, if_neg (by simp)]
        go_enter Tryz.func44, Tryz.ntmps44
        go_wp2_with fail
        refine (HKO.out _).mono ?_
        rintro e wk ⟨rfl, rfl⟩
        go_wp2_with fail
        refine (areItems_any _ _ _ l _ HN.out).mono ?_
        rintro e wk ⟨rfl, rfl⟩
        rw [hi]
        go_wp2_with fail
        refine (hopsValid_any _ _ _).mono ?_
        rintro e wk ⟨rfl, rfl⟩
        rw [hv]
        go_wp2_with fail
        go_returns
        exact RowOut.none_ (Below.refl _ _)
      · have e : Agg.hopsIn k l size hop = true := by simp [Agg.hopsIn, hk, hi, hv]
        rw [Agg.hopsOut, e, if_pos rfl]
        obtain ⟨i0, hi0, hz0, hz1, hz2⟩ := info_parts infoInt
        have hsz : 1 ≤ size ∧ size ≤ 60 ∧ 1 ≤ hop ∧ hop ≤ 60 := by simp [Agg.hopsOk] at hv; omega
        obtain ⟨hs1, hs2, hs3, hs4⟩ := hsz
        obtain ⟨s, rfl⟩ := Int.eq_ofNat_of_zero_le (show 0 ≤ size by omega)
        obtain ⟨h, rfl⟩ := Int.eq_ofNat_of_zero_le (show 0 ≤ hop by omega)
        rw [Int.toNat_natCast, Int.toNat_natCast]
        have hlen := Agg.items_len hi
        have hn60 : n ≤ 60 := by omega
        obtain ⟨g, s', h', hgA, -, g1, g2, d1, d2, b1, b2, b3, b4, q1, q2, -, -⟩ := Agg.gcd_parts (s := s) (h := h) (by omega) (by omega) (by omega) (by omega)
        have hpz := fun w => paneSize_any 0 (s : Int) (h : Int) w (by simp only [Agg.hopOk, hv, Bool.and_true, decide_eq_true_eq]; omega)
        rw [hgA] at hpz
        have HPZ := Lib.hid hpz
        have hN60 : n / g ≤ 60 := Nat.le_trans (Nat.div_le_self _ _) hn60
        have hpo : Agg.panesOk k l (g : Int) = true := by simp only [Agg.panesOk, Bool.and_eq_true, decide_eq_true_eq]; exact ⟨⟨hk, hi⟩, by omega, by omega⟩
        have hpa := fun w hN => panesOf_any k a n cap l (g : Int) w hN
        rw [show Agg.panesOut k l (g : Int) = Agg.folds k (fun q => (l.drop (q * g)).take g) (n / g) by rw [Agg.panesOut, hpo, if_pos rfl, Int.toNat_natCast, Agg.panes, hll, Agg.rowsN_div5 g1], hpo] at hpa
        obtain ⟨P, hP⟩ : ∃ P, P = Agg.folds k (fun q => (l.drop (q * g)).take g) (n / g) := ⟨_, rfl⟩
        rw [← hP] at hpa
        have HPA := Lib.hid hpa
        have hPl : P.length = n / g := by rw [hP, Agg.folds_len]
        have hpat : ∀ q, q < n / g → P[q]?.getD Agg.zero = Agg.fold k ((l.drop (q * g)).take g) := fun q hq => by rw [hP]; exact Agg.pane_at hq
        have hRR := Agg.rows_panes (n := n) g1 d1 d2 b3
        have hRlt := fun j => Agg.rowsN_lt (n := n / g) (s := s') (h := h') (j := j) b3
        have hR60 := Agg.rowsN_le (n := n) (s := s) (h := h) (by omega)
        have hRV := fun a cap w hl => rowsOf_val a (n / g) cap P s' h' hN60 b1 b2 b3 b4 w hl
        rw [hRR] at hRV
        simp only [hRR] at hRlt
        rw [Agg.hops, hll]
        have hsl := Agg.nums_len k (fun j => (l.drop (j * h)).take s) (Agg.rowsN n s h)
        have hst := fun j => Agg.nums_step k (fun j => (l.drop (j * h)).take s) (Agg.rowsN n s h) j
        obtain ⟨S, hS⟩ : ∃ S, S = Agg.nums k (fun j => (l.drop (j * h)).take s) (Agg.rowsN n s h) := ⟨_, rfl⟩
        rw [← hS] at hsl ⊢
        simp only [← hS] at hst
        obtain ⟨R, hRe⟩ : ∃ R, R = Agg.rowsN n s h := ⟨_, rfl⟩
        rw [← hRe] at hsl hR60 hRV
        simp only [← hRe] at hst hRlt
        have HSL := Lib.hid hsl
        have HST := Lib.hid hst
        have HRL := Lib.hid hRlt
        have HRV := Lib.hid hRV
        have HPAT := Lib.hid hpat
        have HPL := Lib.hid hPl
        have HI := Lib.hid hi
        have D1 := Lib.hid d1
        have D2 := Lib.hid d2
        have qa : IntKind.i64.wrap ((s : Int) / (g : Int)) = (s' : Int) := by rw [q1]; exact IntWalk.i64_in _ (by omega)
        have qb : IntKind.i64.wrap ((h : Int) / (g : Int)) = (h' : Int) := by rw [q2]; exact IntWalk.i64_in _ (by omega)
        have qc : wrap64 ((s : Int) / (g : Int)) = (s' : Int) := by rw [q1]; unfold wrap64; omega
        have qd : wrap64 ((h : Int) / (g : Int)) = (h' : Int) := by rw [q2]; unfold wrap64; omega
        have qe : IntKind.i64.wrap ((s : Int).tdiv (g : Int)) = (s' : Int) := by rw [Int.tdiv_eq_ediv_of_nonneg (by omega)]; exact qa
        have qf : IntKind.i64.wrap ((h : Int).tdiv (g : Int)) = (h' : Int) := by rw [Int.tdiv_eq_ediv_of_nonneg (by omega)]; exact qb
        have qg : ((g : Int) == 0) = false := by simp; omega
        have hg0 : ¬ ((g : Int) = 0) := by omega
        have hg1 : 1 ≤ (g : Int) := by omega
        have Q1 := Lib.hid q1
        have Q2 := Lib.hid q2
        clear e hpz hpo hpa hP hpat hRR hRlt hRV hsl hst hS hRe d1 d2 hPl hgA q1 q2
        go_enter Tryz.func44, Tryz.ntmps44
        go_wp2_with fail
        refine (HKO.out _).mono ?_
        rintro e wk ⟨rfl, rfl⟩
        go_wp2_with fail
        refine (areItems_any _ _ _ l _ HN.out).mono ?_
        rintro e wk ⟨rfl, rfl⟩
        rw [hi]
        go_wp2_with fail
        refine (hopsValid_any _ _ _).mono ?_
        rintro e wk ⟨rfl, rfl⟩
        rw [hv]
        clear hi hv
        go_wp2_with fail
        refine (HPZ.out _).mono ?_
        rintro e w1 ⟨rfl, hb1⟩
        have hs1' := hb1.size
        have HW1 := Lib.hid hb1
        clear hb1 HPZ
        go_wp2_with fail
        refine (HPA.out _ (HN.out.below HW1.out)).mono ?_
        rintro e w2 ⟨v2, n2, rfl, r2, hb2⟩
        have hn2 : n2 = n / g := by rw [← r2.len, HPL.out]
        obtain ⟨a2, c2, rfl, hV2⟩ := r2.vals
        rw [hn2] at hV2
        have hs2' := hb2.size
        have HV2 := Lib.hid hV2
        have HW2 := Lib.hid (HW1.out.trans (hb2.mono hs1'))
        clear r2 hb2 hV2 HPA
        subst hn2
        go_wp2_with fail
        go_region_with (go_at_call 82; refine (HRV.out a2 c2 w2.drew (show Vals w2.drew _ _ _ _ from HV2.out)).mono ?_; rintro e w3 ⟨a3, c3, rfl, hr3, hb3⟩; have HR3 := Lib.hid hr3; have HW3 := Lib.hid (HW2.out.drew.trans (hb3.mono HW2.out.size)); clear hb3)
        all_goals
          clear qa qb qc qd qe qf qg hg0 hg1 hN60
          have hs3' := HW3.out.size
          have hnc3 := HR3.out.1
          have hcm3 := HR3.out.2.1
          go_wp2_with fail
          (try simp only [Act.put, List.setIfInBounds_toArray, List.set_cons_zero, List.set_cons_succ, List.getElem_toArray, List.getElem_cons_zero, List.getElem_cons_succ])
          go_loopw [15, 55] (fun ov i wr => ∃ j : Nat, j ≤ R ∧ i = .int .i64 j ∧ Hid (wr.ownsRow w3.heap.size 3 1 ov j ((S.take j).map (Value.int .i64))) ∧ Hid (Below w3.heap.size w3 wr)) (fun _ i _ => R - (intOf i).toNat)
          case atStart => exact ⟨0, Nat.zero_le _, rfl, World.ownsRow_nil _ _ _ _, Below.refl _ _⟩
          case round =>
            obtain ⟨j, hj, rfl, ho, hw⟩ := hrel
            have hwr := hw.out.size
            by_cases hlt : j < R
            · rcases (HR3.out.below hw.out).2.2 with h0 | ⟨b, off, rfl, hbw, hcs⟩
              · omega
              · obtain ⟨a4, c4, hcell, hN4⟩ := hcs j hlt
                have hidx := (HRL.out j).1 hlt
                have hCA := combineAll_any K a4 s' c4 ((P.drop (j * h')).take s') (fun t => Agg.prun k l g (j * h') t) (by omega) (Agg.prun_zero _ _ _ _) (fun t ht => by
                  have e : ((P.drop (j * h')).take s')[t]?.getD Agg.zero = Agg.fold k ((l.drop ((j * h' + t) * g)).take g) := by
                    rw [List.getElem?_take, if_pos ht, List.getElem?_drop]; exact HPAT.out _ (by omega)
                  rw [e]; exact Agg.prun_step hk HI.out g (j * h') t) wr hN4
                have hres : Agg.prun k l g (j * h') s' = Agg.fold k ((l.drop (j * h)).take s) := by rw [Agg.prun, Nat.mul_assoc, D2.out, D1.out]
                simp only [hres] at hCA
                have hst := HST.out j hlt
                obtain ⟨⟨vx, vy, vz⟩, hV⟩ : ∃ V, V = Agg.fold k ((l.drop (j * h)).take s) := ⟨_, rfl⟩
                obtain ⟨x, hx⟩ : ∃ x, x = Agg.number k ((l.drop (j * h)).take s) := ⟨_, rfl⟩
                have hxe : Agg.num k ⟨vx, vy, vz⟩ = x := by rw [hx, Agg.number, hV]
                have hG := fun w => numberOf_any k vx vy vz w
                rw [hxe] at hG
                rw [← hV] at hCA
                rw [← hx] at hst
                have HCA := Lib.hid hCA
                have HG := Lib.hid hG
                have HS2 := Lib.hid hst
                clear hCA hG hst hV hx hxe hres hidx hcs hN4
                have hk0 : (0 : Int) ≤ (j : Int) := Int.natCast_nonneg _
                have hkn : (j : Int) < (R : Int) := by omega
                have hlt' : ∀ q, u15.ownBlock = some q → w3.heap.size ≤ q := fun q hq => (ho.out.lt q hq).1
                go_wp2_with fail
                refine HCA.out.mono ?_
                rintro e w4 ⟨rfl, hb4⟩
                have HO4 := Lib.hid (ho.out.kept (Below.grownNone hb4 none) (by cases hv : u15.ownBlock <;> simp))
                have HW4 := Lib.hid (hw.out.trans (hb4.mono hwr))
                clear hb4 hcell HCA
                go_wp2_with fail
                refine (HG.out _).mono ?_
                rintro e w5 ⟨rfl, hb5⟩
                have HO5 := Lib.hid (HO4.out.kept (Below.grownNone hb5 none) (by cases hv : u15.ownBlock <;> simp))
                have HW5 := Lib.hid (HW4.out.trans (hb5.mono HW4.out.size))
                have hs5 := HW5.out.size
                clear hb5 HG HO4 HW4
                go_wp2_with (at_builtin; refine wpList_append_own _ rfl (.tmp 59) (.tmp 65) 34 rfl w3.heap.size 3 i0 (.int .i64 0) 1 8 Tryz.underlying34 hi0 hz0 hz1 hz2 rfl (by decide) _ _ _ rfl (HO5.out.alloc _) ⟨w5.heap.size, 0, none⟩ 1 1 [.int .i64 x] rfl rfl (cell_one_new _ _ _) (ints_oneCell .i64 [x]) (by unfold maxLen; omega) (by omega) (by simp; omega) ?_; intro v' w6 hown6 hgrow6 hnil6; have HO6 := Lib.hid hown6; have HW6 := Lib.hid ((HW5.out.alloc HW5.out.size _).grown hgrow6 (by have := HW5.out.size; simp; omega) hlt'); clear hown6 hgrow6 hnil6)
                go_roundw
                case rel =>
                  refine ⟨j + 1, by omega, by go_num, Lib.hid ?_, HW6⟩
                  rw [HS2.out, List.map_append]
                  exact HO6.out
                case measure => simp [intOf]; omega
            · obtain rfl : j = R := by omega
              have ho2 := ho.out
              rw [List.take_of_length_le (by have := HSL.out; omega)] at ho2
              have HO2 := Lib.hid ho2
              have HB2 := Lib.hid (HW3.out.trans (hw.out.mono hs3'))
              clear ho2
              go_wp2
              go_returns
              exact ⟨_, _, rfl, OwnR.made (owns_lower HO2.out hs3') HB2.out.size, HB2.out⟩
end Go.Proofs.YtfmkjpbmaogjpaaGreat

/-
  PaneNumbers in the model.
-/
namespace Go.Proofs.YtfmkjpbmaogjpaaGreat
set_option linter.unusedSimpArgs false
set_option linter.unusedVariables false
open Go.RowKit
theorem own_empty_new5 (w : World) : (w.alloc (.cells #[] 3)).ownsRow w.heap.size 3 1 (.slice (some ⟨w.heap.size, 0, none⟩) 0 0) 0 ((([] : List Int)).map (Value.int .i64)) := World.ownsRow_made (base := w.heap.size) (e := 3) (size := 1) w #[] 0 (Nat.le_refl _) (by simp [maxLen]) (by simp)
theorem row_block5 {w : World} {base e size n g : Nat} {v : Value} {xs : List Value} (h : w.ownsRow base e size v n xs) (hg : v.ownBlock = some g) : ∃ cur, w.heap[g]? = some (.cells cur e (0, 0)) := by
  rcases h.2 with ⟨rfl, _⟩ | ⟨g', cap, cur, rfl, -, hh, -⟩
  · simp [Value.ownBlock] at hg
  · simp only [Value.ownBlock, Option.some.injEq] at hg
    subst hg
    exact ⟨cur, hh⟩
theorem rows_apart5 {w : World} {base e size n base' e' size' n' : Nat} {v v' : Value} {xs xs' : List Value} (h : w.ownsRow base e size v n xs) (h' : w.ownsRow base' e' size' v' n' xs') (he : e ≠ e') : v.ownBlock = none ∨ v.ownBlock ≠ v'.ownBlock := by
  cases hg : v.ownBlock with
  | none => exact .inl rfl
  | some g =>
    refine .inr (fun e2 => ?_)
    obtain ⟨cur, hc⟩ := row_block5 h hg
    obtain ⟨cur', hc'⟩ := row_block5 h' e2.symm
    rw [hc] at hc'
    simp only [Option.some.injEq, Obj.cells.injEq] at hc'
    exact he hc'.2.1
theorem vals_of_row5 {w : World} {base n cap : Nat} {a : Option Addr} {l : List Agg.V} (h : w.ownsRow base 24 3 (.slice a n cap) n (valRow l)) : Vals w a n cap l := by
  have h2 : OwnV w (min base w.heap.size) w.heap.size (.slice a n cap) n l := ⟨owns_lower h (Nat.min_le_left _ _), Nat.min_le_right _ _, Nat.le_refl _, fun g hg => (h.lt g hg).2⟩
  obtain ⟨a', c', e, hv⟩ := h2.vals
  simp only [Value.slice.injEq, true_and] at e
  obtain ⟨rfl, rfl⟩ := e
  exact hv
theorem own_far5 {w : World} {base e size n d : Nat} {v : Value} {xs : List Value} (h : w.ownsRow base e size v n xs) (hd : ∀ q, v.ownBlock = some q → q ≠ d) (o : Nat) (u : Value) : (w.setCell ⟨d, o, none⟩ u).ownsRow base e size v n xs := by
  have hg : w.grownBy (w.setCell ⟨d, o, none⟩ u) (some d) := ⟨rfl, rfl, rfl, by simp [World.setCell], fun k hk hne => Below.heap_setCell _ _ _ _ (fun e => hne (by rw [e]))⟩
  refine h.kept hg ?_
  cases hv : v.ownBlock with
  | none => exact .inl rfl
  | some g => exact .inr (fun e => hd g hv (Option.some.inj e))
set_option maxRecDepth 4000 in
set_option maxHeartbeats 1000000 in
theorem s_paneNumbers_any (k : Int) (a : Option Addr) (n cap : Nat) (l : List Int) (size hop : Int) (w : World) (h : Nums .i64 w a n cap l) :
    Calls Tryz.prog 45 #[.int .i64 k, .slice a n cap, .int .i64 size, .int .i64 hop] w (RowOut (Agg.hopsOut k l size hop) (Agg.hopsIn k l size hop) w) := by
  obtain ⟨i0, hi0, hz0, hz1, hz2⟩ := info_parts infoInt
  have hll : l.length = n := h.1
  have hnc : n ≤ cap := h.2.1
  have hcm : cap ≤ 9223372036854775807 := by have := h.2.2.1; unfold maxLen at this; omega
  have HN := Lib.hid h; clear h
  cases hk : Agg.isKind k
  · have e : Agg.hopsIn k l size hop = false := by simp [Agg.hopsIn, hk]
    rw [Agg.hopsOut, e, if_neg (by simp)]
    go_enter Tryz.func45, Tryz.ntmps45
    go_wp2_with fail
    refine (s_kind_any _ _).mono ?_
    rintro e wk ⟨rfl, rfl⟩
    rw [hk]
    go_wp2_with fail
    go_returns
    exact ⟨_, 0, rfl, OwnR.made (l := []) (World.ownsRow_made (base := w.heap.size) (e := 3) (size := 1) w #[] 0 (Nat.le_refl _) (by simp [maxLen]) (by simp)) (by simp), (Below.refl _ _).alloc (Nat.le_refl _) _⟩
  · cases hi : Agg.itemsOk l
    · have e : Agg.hopsIn k l size hop = false := by simp [Agg.hopsIn, hi]
      rw [Agg.hopsOut, e, if_neg (by simp)]
      go_enter Tryz.func45, Tryz.ntmps45
      go_wp2_with fail
      refine (s_kind_any _ _).mono ?_
      rintro e wk ⟨rfl, rfl⟩
      rw [hk]
      go_wp2_with fail
      refine (s_items_any _ _ _ l _ (HN.out.below (by go_grown))).mono ?_
      rintro e wk ⟨rfl, rfl⟩
      rw [hi]
      go_wp2_with fail
      go_returns
      exact ⟨_, 0, rfl, OwnR.made (l := []) (World.ownsRow_made (base := w.heap.size) (e := 3) (size := 1) w #[] 0 (Nat.le_refl _) (by simp [maxLen]) (by simp)) (by simp), (Below.refl _ _).alloc (Nat.le_refl _) _⟩
    · cases hv : Agg.hopsOk size hop
      · have e : Agg.hopsIn k l size hop = false := by simp [Agg.hopsIn, hv]
        rw [Agg.hopsOut, e, if_neg (by simp)]
        go_enter Tryz.func45, Tryz.ntmps45
        go_wp2_with fail
        refine (s_kind_any _ _).mono ?_
        rintro e wk ⟨rfl, rfl⟩
        rw [hk]
        go_wp2_with fail
        refine (s_items_any _ _ _ l _ (HN.out.below (by go_grown))).mono ?_
        rintro e wk ⟨rfl, rfl⟩
        rw [hi]
        go_wp2_with fail
        refine (s_sizes_any _ _ _).mono ?_
        rintro e wk ⟨rfl, rfl⟩
        rw [hv]
        go_wp2_with fail
        go_returns
        exact ⟨_, 0, rfl, OwnR.made (l := []) (World.ownsRow_made (base := w.heap.size) (e := 3) (size := 1) w #[] 0 (Nat.le_refl _) (by simp [maxLen]) (by simp)) (by simp), (Below.refl _ _).alloc (Nat.le_refl _) _⟩
      · have e : Agg.hopsIn k l size hop = true := by simp [Agg.hopsIn, hk, hi, hv]
        rw [Agg.hopsOut, e, if_pos rfl]
        have hsz : 1 ≤ size ∧ size ≤ 60 ∧ 1 ≤ hop ∧ hop ≤ 60 := by simp [Agg.hopsOk] at hv; omega
        obtain ⟨hs1, hs2, hs3, hs4⟩ := hsz
        obtain ⟨s, rfl⟩ := Int.eq_ofNat_of_zero_le (show 0 ≤ size by omega)
        obtain ⟨h, rfl⟩ := Int.eq_ofNat_of_zero_le (show 0 ≤ hop by omega)
        rw [Int.toNat_natCast, Int.toNat_natCast]
        have hlen := Agg.items_len hi
        have hn60 : n ≤ 60 := by omega
        obtain ⟨g, s', h', hgA, hgg, g1, g2, d1, d2, b1, b2, b3, b4, q1, q2, -, -⟩ := Agg.gcd_parts (s := s) (h := h) (by omega) (by omega) (by omega) (by omega)
        have hgc := fun w => s_gcd_any s h (by omega) (by omega) (by omega) (by omega) w
        rw [hgg] at hgc
        have HGC := Lib.hid hgc
        have hN60 : n / g ≤ 60 := Nat.le_trans (Nat.div_le_self _ _) hn60
        have hpa := fun w hN => s_panes_any k hk a n cap l hi g (by omega) (by omega) w hN
        rw [show Agg.panes k l g = Agg.folds k (fun q => (l.drop (q * g)).take g) (n / g) by rw [Agg.panes, hll, Agg.rowsN_div5 g1]] at hpa
        obtain ⟨N, hNe⟩ : ∃ N, N = n / g := ⟨_, rfl⟩
        rw [← hNe] at hN60 hpa
        obtain ⟨P, hP⟩ : ∃ P, P = Agg.folds k (fun q => (l.drop (q * g)).take g) N := ⟨_, rfl⟩
        rw [← hP] at hpa
        have HPA := Lib.hid hpa
        have hPl : P.length = N := by rw [hP, Agg.folds_len]
        have hpat : ∀ q, q < N → P[q]?.getD Agg.zero = Agg.fold k ((l.drop (q * g)).take g) := fun q hq => by rw [hP]; exact Agg.pane_at hq
        have hRR := Agg.rows_panes (n := n) g1 d1 d2 b3
        rw [← hNe] at hRR
        have hRlt := fun j => Agg.rowsN_lt (n := N) (s := s') (h := h') (j := j) b3
        have hR60 := Agg.rowsN_le (n := n) (s := s) (h := h) (by omega)
        simp only [hRR] at hRlt
        rw [Agg.hops, hll]
        have hsl := Agg.nums_len k (fun j => (l.drop (j * h)).take s) (Agg.rowsN n s h)
        have hst := fun j => Agg.nums_step k (fun j => (l.drop (j * h)).take s) (Agg.rowsN n s h) j
        obtain ⟨S, hS⟩ : ∃ S, S = Agg.nums k (fun j => (l.drop (j * h)).take s) (Agg.rowsN n s h) := ⟨_, rfl⟩
        rw [← hS] at hsl ⊢
        simp only [← hS] at hst
        obtain ⟨R, hRe⟩ : ∃ R, R = Agg.rowsN n s h := ⟨_, rfl⟩
        rw [← hRe] at hsl hR60
        simp only [← hRe] at hst hRlt
        have HSL := Lib.hid hsl
        have HST := Lib.hid hst
        have HRL := Lib.hid hRlt
        have HPAT := Lib.hid hpat
        have HPL := Lib.hid hPl
        have HI := Lib.hid hi
        have D1 := Lib.hid d1
        have D2 := Lib.hid d2
        have hg0 : ¬ ((g : Int) = 0) := by omega
        have hg1 : 1 ≤ (g : Int) := by omega
        have hU := fun w => s_unit_any k hk w
        obtain ⟨⟨ux, uy, uz⟩, hu⟩ : ∃ u, u = Agg.unit k := ⟨_, rfl⟩
        rw [← hu] at hU
        have HU := Lib.hid hU
        have HUU := Lib.hid hu
        clear e hgc hpa hP hpat hRR hRlt hsl hst hS hRe d1 d2 hPl hgA hgg hNe hU hu
        go_enter Tryz.func45, Tryz.ntmps45
        go_wp2_with fail
        refine (s_kind_any _ _).mono ?_
        rintro e wk ⟨rfl, rfl⟩
        rw [hk]
        go_wp2_with fail
        refine (s_items_any _ _ _ l _ (HN.out.below (by go_grown))).mono ?_
        rintro e wk ⟨rfl, rfl⟩
        rw [hi]
        go_wp2_with fail
        refine (s_sizes_any _ _ _).mono ?_
        rintro e wk ⟨rfl, rfl⟩
        rw [hv]
        clear hi hv
        go_wp2_with fail
        refine (HGC.out _).mono ?_
        rintro e w1 ⟨rfl, hb1⟩
        have HO1 := Lib.hid ((own_empty_new5 w).kept (Below.grownNone hb1 none) (.inr (by simp [Value.ownBlock])))
        have HW1 := Lib.hid (((Below.refl w.heap.size w).alloc (Nat.le_refl _) (.cells #[] 3)).trans (hb1.mono (by simp)))
        have hs1' := HW1.out.size
        clear hb1 HGC
        go_wp2_with fail
        refine (HPA.out _ (HN.out.below HW1.out)).mono ?_
        rintro e w2 ⟨v2, n2, rfl, r2, hb2⟩
        have hn2 : n2 = N := by rw [← r2.len, HPL.out]
        obtain ⟨a2, c2, rfl, hV2⟩ := r2.vals
        rw [hn2] at hV2
        have HPV := Lib.hid (show w2.ownsRow w1.heap.size 24 3 (.slice a2 n2 c2) n2 (valRow P) from r2.1)
        have HO2 := Lib.hid (HO1.out.kept (Below.grownNone hb2 none) (.inr (by simp [Value.ownBlock])))
        have HW2 := Lib.hid (HW1.out.trans (hb2.mono hs1'))
        have hs2' := HW2.out.size
        have hc2 : c2 ≤ 9223372036854775807 := by have := hV2.2.2.1; unfold maxLen at this; omega
        have hnc2 : N ≤ c2 := hV2.2.1
        clear r2 hb2 hV2 HPA HO1 HW1
        subst hn2
        go_wp2_with fail
        go_loopw [10, 13] (fun ov i wr => ∃ j c : Nat, j ≤ R ∧ Hid (c = j * h') ∧ c ≤ 120 ∧ i = .int .i64 (c : Int) ∧ Hid (wr.ownsRow w.heap.size 3 1 ov j ((S.take j).map (Value.int .i64))) ∧ Hid (Below w.heap.size w wr) ∧ Hid (wr.ownsRow w1.heap.size 24 3 (.slice a2 n2 c2) n2 (valRow P))) (fun _ i _ => 200 - (intOf i).toNat)
        case atStart => exact ⟨0, 0, Nat.zero_le _, Lib.hid (by simp), by omega, by go_num, HO2, HW2, HPV⟩
        case round =>
          obtain ⟨j, c, hj, hc, hc2', rfl, ho, hw, hv⟩ := hrel
          have hwr := hw.out.size
          have hpl : ∀ q, (Value.slice a2 n2 c2).ownBlock = some q → q < wr.heap.size := fun q hq => (hv.out.lt q hq).2
          by_cases hlt : s' + c ≤ n2
          · have hjR : j < R := (HRL.out j).2 (by have := hc.out; omega)
            have hlt1 : (c : Int) + (s' : Int) ≤ (n2 : Int) := by omega
            have hlt' : ∀ q, u10.ownBlock = some q → w.heap.size ≤ q ∧ q < wr.heap.size := fun q hq => ho.out.lt q hq
            have hst := HST.out j hjR
            have hres : Agg.prun k l g c s' = Agg.fold k ((l.drop (j * h)).take s) := by rw [Agg.prun, hc.out, Nat.mul_assoc, D2.out, D1.out]
            obtain ⟨⟨vx, vy, vz⟩, hV⟩ : ∃ V, V = Agg.fold k ((l.drop (j * h)).take s) := ⟨_, rfl⟩
            obtain ⟨x, hx⟩ : ∃ x, x = Agg.number k ((l.drop (j * h)).take s) := ⟨_, rfl⟩
            have hxe : Agg.num k ⟨vx, vy, vz⟩ = x := by rw [hx, Agg.number, hV]
            have hokv : Agg.ok k ⟨vx, vy, vz⟩ = true := by rw [hV]; exact Agg.ok_fold_all hk (part_ok HI.out _ _)
            have hG := fun w => s_number_any k hk vx vy vz w hokv
            rw [hxe] at hG
            rw [← hx] at hst
            rw [← hV] at hres
            have HG := Lib.hid hG
            have HS2 := Lib.hid hst
            have HRES := Lib.hid hres
            clear hG hst hV hx hxe hokv hres
            go_wp2_with fail
            refine (HU.out _).mono ?_
            rintro e w3 ⟨rfl, hb3⟩
            have HO3 := Lib.hid ((ho.out.kept (Below.grownNone hb3 none) (by cases hv : u10.ownBlock <;> simp)).alloc (.cells #[.int .i64 ux, .int .i64 uy, .int .i64 uz] 24))
            have hw3 := hw.out.trans (hb3.mono hwr)
            have hv3 := hv.out.kept (Below.grownNone hb3 none) (by cases hv : (Value.slice a2 n2 c2).ownBlock <;> simp)
            have hs3w : w.heap.size ≤ w3.heap.size := hw3.size
            have hs3r : wr.heap.size ≤ w3.heap.size := hb3.size
            have HW3 := Lib.hid (hw3.alloc hw3.size (.cells #[.int .i64 ux, .int .i64 uy, .int .i64 uz] 24))
            have HV3 := Lib.hid (hv3.alloc (.cells #[.int .i64 ux, .int .i64 uy, .int .i64 uz] 24))
            have hpl3 : ∀ q, (Value.slice a2 n2 c2).ownBlock = some q → q ≠ w3.heap.size := fun q hq => by have := hpl q hq; omega
            have HB3 := Lib.hid (Box.new w3 24 ux uy uz)
            clear hb3 hw3 hv3
            go_wp2_with fail
            go_loopw [15] (fun i wq => ∃ (t : Nat) (V : Agg.V), t ≤ s' ∧ i = .int .i64 ((c : Int) + (t : Int)) ∧ Hid (V = Agg.prun k l g c t) ∧ Hid (Box wq w3.heap.size 24 V.x V.y V.z) ∧ Hid (wq.ownsRow w.heap.size 3 1 u10 j ((S.take j).map (Value.int .i64))) ∧ Hid (Below w.heap.size w wq) ∧ Hid (wq.ownsRow w1.heap.size 24 3 (.slice a2 n2 c2) n2 (valRow P))) (fun i _ => c + s' - (intOf i).toNat)
            case atStart => exact ⟨0, ⟨ux, uy, uz⟩, Nat.zero_le _, by simp, Lib.hid (by rw [HUU.out, Agg.prun_zero]), HB3, HO3, HW3, HV3⟩
            case round =>
              obtain ⟨t, ⟨ax, ay, az⟩, ht, rfl, hval, hvb, hoq, hwq, hvq⟩ := hrel
              have hwqs := hwq.out.size
              have hvl := hvb.out.lt
              by_cases hlt2 : t < s'
              · have hcond : (c : Int) + (t : Int) < (c : Int) + (s' : Int) := by omega
                obtain ⟨o1, o2, o3⟩ := Agg.prun_step hk HI.out g c t
                have hpt := HPAT.out (c + t) (by omega)
                obtain ⟨⟨px, py, pz⟩, hp⟩ : ∃ V, V = Agg.fold k ((l.drop ((c + t) * g)).take g) := ⟨_, rfl⟩
                obtain ⟨⟨rx, ry, rz⟩, hrr⟩ : ∃ V, V = Agg.prun k l g c (t + 1) := ⟨_, rfl⟩
                rw [← hp] at o2 o3 hpt
                rw [← hval.out] at o1 o3
                have hC := fun w => s_combine_any k hk ax ay az px py pz w o1 o2
                rw [o3, ← hrr] at hC
                have HC := Lib.hid hC
                have HRR := Lib.hid hrr
                have HPT := Lib.hid hpt
                clear hC o1 o2 o3 hp hrr hpt
                have hQ := vals_of_row5 hvq.out
                rcases hQ.2.2.2 with h0 | ⟨b', off, rfl, hbw, hcs⟩
                · omega
                · obtain ⟨p0, p1, p2⟩ := hcs (c + t) (by omega)
                  rw [HPT.out] at p0 p1 p2
                  obtain ⟨v0, v1, v2⟩ := hvb.out.cells
                  have hj0 : (0 : Int) ≤ (c : Int) + (t : Int) := by omega
                  have hjn : (c : Int) + (t : Int) < (n2 : Int) := by omega
                  have hjt : ((c : Int) + (t : Int)).toNat = c + t := by omega
                  clear hcs hQ
                  go_wp2_with fail
                  have hoqd : World.ownsRow wr.drew w.heap.size 3 1 u10 j ((S.take j).map (Value.int .i64)) := hoq.out
                  have hvqd : World.ownsRow wr.drew w1.heap.size 24 3 (.slice (some ⟨b', off, none⟩) n2 c2) n2 (valRow P) := hvq.out
                  go_region_with (go_at_call 88; refine (HC.out _).mono ?_; rintro e w6 ⟨rfl, hb6⟩; have HB6 := Lib.hid (hvb.out.callD hb6); have HO6 := Lib.hid (hoqd.kept (Below.grownNone hb6 none) (by cases hv : u10.ownBlock <;> simp)); have HW6 := Lib.hid (hwq.out.drew.trans (hb6.mono hwqs)); have HV6 := Lib.hid (hvqd.kept (Below.grownNone hb6 none) (Classical.em _)); obtain ⟨o0, o1, o2⟩ := HB6.out.cells; have f0 := HB6.out.free 0; have f1 := HB6.out.free 1; have f2 := HB6.out.free 2; clear hb6)
                  all_goals
                    have hne : ∀ q, u10.ownBlock = some q → q ≠ w3.heap.size := fun q hq => by have := (hlt' q hq).2; omega
                    go_wp2_with fail
                    go_roundw
                    case rel => exact ⟨t + 1, ⟨rx, ry, rz⟩, by omega, by go_num, HRR, Lib.hid (HB6.out.set rx ry rz), Lib.hid (own_far5 (own_far5 (own_far5 HO6.out hne 0 _) hne 1 _) hne 2 _), Lib.hid (((HW6.out.setCell hs3w _).setCell hs3w _).setCell hs3w _), Lib.hid (own_far5 (own_far5 (own_far5 HV6.out hpl3 0 _) hpl3 1 _) hpl3 2 _)⟩
                    case measure => simp [intOf]; omega
              · obtain rfl : t = s' := by omega
                have hv2 := hval.out.trans HRES.out
                simp only [Agg.V.mk.injEq] at hv2
                obtain ⟨rfl, rfl, rfl⟩ := hv2
                obtain ⟨v0, v1, v2⟩ := hvb.out.cells
                go_wp2_with fail
                refine (HG.out _).mono ?_
                rintro e w7 ⟨rfl, hb7⟩
                have HO7 := Lib.hid (hoq.out.kept (Below.grownNone hb7 none) (by cases hv : u10.ownBlock <;> simp))
                have HW7 := Lib.hid (hwq.out.trans (hb7.mono hwqs))
                have HV7 := Lib.hid (hvq.out.kept (Below.grownNone hb7 none) (by cases hv : (Value.slice a2 n2 c2).ownBlock <;> simp))
                have hs7 := HW7.out.size
                clear hb7 v0 v1 v2
                have hj0 : (0 : Int) ≤ (c : Int) := by omega
                have hap := rows_apart5 (HV7.out.alloc (.cells #[.int .i64 x] 3)) (HO7.out.alloc (.cells #[.int .i64 x] 3)) (by decide)
                have HAP := Lib.hid hap
                clear hap
                have hltq : ∀ q, u10.ownBlock = some q → w.heap.size ≤ q := fun q hq => (hlt' q hq).1
                go_wp2_with (at_builtin; refine wpList_append_own _ rfl (.tmp 71) (.tmp 75) 34 rfl w.heap.size 3 i0 (.int .i64 0) 1 8 Tryz.underlying34 hi0 hz0 hz1 hz2 rfl (by decide) _ _ _ rfl (HO7.out.alloc _) ⟨w7.heap.size, 0, none⟩ 1 1 [.int .i64 x] rfl rfl (cell_one_new _ _ _) (ints_oneCell .i64 [x]) (by unfold maxLen; omega) (by omega) (by simp; omega) ?_; intro v' w8 hown8 hgrow8 hnil8; have HO8 := Lib.hid hown8; have HG8 := Lib.hid hgrow8; have HW8 := Lib.hid ((HW7.out.alloc HW7.out.size _).grown hgrow8 (by have := HW7.out.size; simp; omega) hltq); clear hown8 hgrow8 hnil8)
                go_roundw
                case rel =>
                  refine ⟨j + 1, c + h', hjR, Lib.hid (by rw [hc.out, Nat.add_mul, Nat.one_mul]), by omega, by go_num, Lib.hid ?_, HW8, Lib.hid ((HV7.out.alloc _).kept HG8.out HAP.out)⟩
                  rw [HS2.out, List.map_append]
                  exact HO8.out
                case measure => simp [intOf]; omega
          · obtain rfl : j = R := by
              have := (HRL.out j)
              have h2 := hc.out
              rcases Nat.lt_or_ge j R with h3 | h3
              · have := this.1 h3; omega
              · omega
            have hlt2 : ¬ ((c : Int) + (s' : Int) ≤ (n2 : Int)) := by omega
            have hall : S.take j = S := List.take_of_length_le (by have := HSL.out; omega)
            have ho2 := ho.out
            rw [hall] at ho2
            have HO2' := Lib.hid ho2
            clear ho2 hall
            go_wp2
            go_returns
            exact ⟨_, _, rfl, OwnR.made HO2'.out hw.out.size, hw.out⟩
end Go.Proofs.YtfmkjpbmaogjpaaGreat

/-
  The law that panes have the numbers of items.
-/
namespace Go.Proofs.YtfmkjpbmaogjpaaGreat
set_option linter.unusedSimpArgs false
set_option linter.unusedVariables false
open Go.RowKit
set_option maxRecDepth 8000 in
set_option maxHeartbeats 1000000 in
theorem law_FnPaneNumbers (a : Option Addr) (n cap : Nat) (zs : List Int) (w : World) (hrow : IsRow .u8 w a n cap zs) :
    Calls Tryz.prog 12 #[.slice a n cap] w fun e w' => e = .returned (.bool true) ∧ Below w.heap.size w w' := by
  have HB := Lib.hid (Bytes.of_row hrow)
  have hm : cap ≤ 9223372036854775807 := HB.out.2.1
  have hnc : n ≤ cap := HB.out.1
  clear hrow
  by_cases hn : n ≤ 1048576
  · go_enter Tryz.func12, Tryz.ntmps12
    go_wp2_with fail
    refine (drawPaneNumbers_any _ _ _ _ _ HB.out).mono ?_
    rintro e w1 ⟨k, s, h, vv, m, l, rfl, ho, hm20, hb1⟩
    obtain ⟨ia, mc, rfl, hN, hll⟩ := ho.nums
    have hs1 := hb1.size
    have HN := Lib.hid hN
    have HW1 := Lib.hid hb1
    clear hN hb1 HB ho
    have h1 := fun w h' => paneNumbers_any k ia m mc l s h w h'
    have h2 := fun w h' => s_paneNumbers_any k ia m mc l s h w h'
    have h3 := fun w h' => hopNumbers_any k ia m mc l s h w h'
    obtain ⟨S, hS⟩ : ∃ S, S = Agg.hopsOut k l s h := ⟨_, rfl⟩
    obtain ⟨o, ho⟩ : ∃ o, o = Agg.hopsIn k l s h := ⟨_, rfl⟩
    rw [← hS, ← ho] at h1 h2 h3
    have H1 := Lib.hid h1
    have H2 := Lib.hid h2
    have H3 := Lib.hid h3
    clear h1 h2 h3 hS ho
    go_wp2_with fail
    refine (H1.out _ HN.out).mono ?_
    rintro e w2 ⟨v2, n2, rfl, r2, hb2⟩
    have R2 := Lib.hid r2
    have HN2 := Lib.hid (HN.out.below hb2)
    have HW2 := Lib.hid (HW1.out.trans (hb2.mono hs1))
    have hs2 := HW2.out.size
    clear r2 hb2 H1 HN HW1
    go_wp2_with fail
    refine (H2.out _ HN2.out).mono ?_
    rintro e w3 ⟨v3, n3, rfl, r3, hb3⟩
    have R23 := Lib.hid (R2.out.below hb3)
    have R3 := Lib.hid r3
    have HN3 := Lib.hid (HN2.out.below hb3)
    have HW3 := Lib.hid (HW2.out.trans (hb3.mono hs2))
    have hs3 := HW3.out.size
    clear r3 hb3 H2 HN2 HW2 R2
    go_wp2_with fail
    refine (H3.out _ HN3.out).mono ?_
    rintro e w4 ⟨v4, n4, rfl, r4, hb4⟩
    obtain ⟨a2, c2, rfl, hp2, -⟩ := (R23.out.below hb4).nums
    obtain ⟨a3, c3, rfl, hp3, -⟩ := (R3.out.below hb4).nums
    obtain ⟨a4, c4, rfl, hp4, -⟩ := r4.nums
    have P2 := Lib.hid hp2
    have P3 := Lib.hid hp3
    have P4 := Lib.hid hp4
    have HW4 := Lib.hid (HW3.out.trans (hb4.mono hs3))
    have hs4 := HW4.out.size
    clear r4 hb4 H3 HN3 HW3 R23 R3 hp2 hp3 hp4
    cases o
    all_goals
      go_wp2_with fail
      refine (waInts_same _ _ _ _ _ _ S _ P2.out P3.out).mono ?_
      rintro e w5 ⟨rfl, hb5⟩
      have Q2 := Lib.hid (P2.out.below hb5)
      have Q4 := Lib.hid (P4.out.below hb5)
      have HW5 := Lib.hid (HW4.out.trans (hb5.mono hs4))
      have hs5 := HW5.out.size
      clear hb5
      go_wp2_with fail
      refine (waInts_same _ _ _ _ _ _ S _ Q4.out Q2.out).mono ?_
      rintro e w6 ⟨rfl, hb6⟩
      have HW6 := Lib.hid (HW5.out.trans (hb6.mono hs5))
      clear hb6
      go_wp2_with fail
      go_returns
      exact ⟨rfl, HW6.out⟩
  · go_enter Tryz.func12, Tryz.ntmps12
    go_wp2
    go_returns
    exact ⟨rfl, Below.refl _ _⟩
end Go.Proofs.YtfmkjpbmaogjpaaGreat
