/-
  Aggregates that the model draws: a fold of items that are drawn, one field of it replaced at times.
-/
import Derived.Test.YtmlkdbmhekiniaaGreatDq
import Derived.Test.YtmlkdbmhekiniaaGreatG1
import Derived.Test.YtmlkdbmhekiniaaGreatG2
import Derived.Test.YtmlkdbmhekiniaaGreatG3
import Derived.Test.YtmlkdbmhekiniaaGreatG4
import Derived.Test.YtmlkdbmhekiniaaGreatMa
namespace Go.Proofs.YtmlkdbmhekiniaaGreat
set_option linter.unusedSimpArgs false
set_option linter.unusedVariables false
open Go.RowKit

theorem Nums.of_drawn {w : World} {base e n : Nat} {v : Value} {l : List Int} (h : w.ownsRow base e 1 v n (l.map (Value.int .i64))) (hv : v ≠ .slice none 0 0) : ∃ b cap, v = .slice (some ⟨b, 0, none⟩) n cap ∧ Nums .i64 w (some ⟨b, 0, none⟩) n cap l := by
  rcases h.2 with ⟨rfl, rfl⟩ | ⟨g, cap, cur, rfl, -, hg, h1, h2, -⟩
  · exact absurd rfl hv
  · exact ⟨g, cap, rfl, Nums.of_owns (g := g) h⟩

theorem grown_set {a b : World} {c d o : Nat} {v : Value} (h : a.grownBy b (some c)) (hd : a.heap.size ≤ d) : a.grownBy (b.setCell ⟨d, o, none⟩ v) (some c) :=
  ⟨h.os, h.tape, h.output, by have := h.size; simpa [World.setCell] using this, fun i hi hne => (Below.heap_setCell _ _ _ _ (by show i ≠ d; omega)).trans (h.block i hi hne)⟩
theorem rd_set {w : World} {B c d o : Nat} {p : Int} {v : Value} (h : Rd w B c p) (hd : c < d) : Rd (w.setCell ⟨d, o, none⟩ v) B c p := by
  obtain ⟨h1, h2, h3, a, n, cap, l, h4, h5, h6⟩ := h
  refine ⟨h1, by simpa [World.setCell] using h2, h3, a, n, cap, l, (Below.heap_setCell _ _ _ _ (by show c ≠ d; omega)).trans h4, h5, ?_⟩
  rcases h6 with h6 | ⟨b, off, ha, hb, hc⟩
  · exact .inl h6
  · exact .inr ⟨b, off, ha, hb, fun i hi => ⟨(World.cell?_of_block (Below.heap_setCell _ _ _ _ (by show b ≠ d; omega))).trans (hc i hi).1, (hc i hi).2⟩⟩
theorem rd_below {w w' : World} {B c : Nat} {p : Int} (h : Rd w B c p) (hb : Below w.heap.size w w') : Rd w' B c p := by
  obtain ⟨h1, h2, h3, a, n, cap, l, h4, h5, h6⟩ := h
  refine ⟨h1, Nat.lt_of_lt_of_le h2 hb.size, h3, a, n, cap, l, (hb.block c h2).trans h4, h5, ?_⟩
  rcases h6 with h6 | ⟨b, off, ha, hb2, hc⟩
  · exact .inl h6
  · exact .inr ⟨b, off, ha, hb2, fun i hi => ⟨(World.cell?_of_block (hb.block b (by omega))).trans (hc i hi).1, (hc i hi).2⟩⟩
theorem grown_call {a b d : World} {c : Nat} (h : a.grownBy b (some c)) (hb : Below b.heap.size b d) : a.grownBy d (some c) :=
  ⟨hb.os.trans h.os, hb.tape.trans h.tape, hb.output.trans h.output, Nat.le_trans h.size hb.size, fun i hi hne => (hb.block i (Nat.lt_of_lt_of_le hi h.size)).trans (h.block i hi hne)⟩

theorem Box.grown {w w' : World} {c d : Nat} {T : TypeId} {x y z : Int} (h : Box w d T x y z) (hg : w.grownBy w' (some c)) (hd : d ≠ c) : Box w' d T x y z := (hg.block d h.lt (fun e => hd (Option.some.inj e))).trans h

theorem s_fold_any (k : Int) (hk : Agg.isKind k = true) (a : Option Addr) (n cap : Nat) (l : List Int) (w : World) (h : Nums .i64 w a n cap l) (hi : Agg.itemsOk l = true) :
    Calls Tryz.prog 81 #[.int .i64 k, .slice a n cap] w fun e w' => e = .returned (.agg #[.int .i64 (Agg.fold k l).x, .int .i64 (Agg.fold k l).y, .int .i64 (Agg.fold k l).z]) ∧ Below w.heap.size w w' := by
  rcases Agg.kinds hk with rfl | rfl | rfl | rfl | rfl | rfl | rfl | rfl | rfl | rfl
  · exact s_fold_1 a n cap l w h hi
  · exact s_fold_2 a n cap l w h hi
  · exact s_fold_3 a n cap l w h hi
  · exact s_fold_4 a n cap l w h hi
  · exact s_fold_5 a n cap l w h hi
  · exact s_fold_6 a n cap l w h hi
  · exact s_fold_7 a n cap l w h hi
  · exact s_fold_8 a n cap l w h hi
  · exact s_fold_9 a n cap l w h hi
  · exact s_fold_10 a n cap l w h hi

/-- An aggregate is drawn: its fields are not great; the reader is some steps further. -/
def ValDrawn (B c : Nat) (p : Int) (w : World) (e : Ending) (w' : World) : Prop :=
  ∃ (x y z p' : Int), e = .returned (.agg #[.int .i64 x, .int .i64 y, .int .i64 z]) ∧ Agg.few ⟨x, y, z⟩ ∧ p ≤ p' ∧ p' ≤ p + 10 ∧ Rd w' B c p' ∧ w.grownBy w' (some c)

end Go.Proofs.YtmlkdbmhekiniaaGreat
