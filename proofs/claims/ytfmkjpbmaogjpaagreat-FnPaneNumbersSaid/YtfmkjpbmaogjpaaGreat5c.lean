/-
  What the model draws for panes: two numbers out of lists; a kind, items and sizes.
-/
import Derived.Test.YtfmkjpbmaogjpaaGreatDq
import Derived.Test.YtfmkjpbmaogjpaaGreat5a
import Derived.Test.YtfmkjpbmaogjpaaGreatRw
namespace Go.Proofs.YtfmkjpbmaogjpaaGreat
set_option linter.unusedSimpArgs false
set_option linter.unusedVariables false
open Go.RowKit
theorem bytes5 {w w' : World} {a : Option Addr} {n cap : Nat} {l : List Int} (h : Bytes w a n cap l) (hb : Below w.heap.size w w') : Bytes w' a n cap l := by
  obtain ⟨h1, h2, h3⟩ := h
  refine ⟨h1, h2, ?_⟩
  rcases h3 with h3 | ⟨b, off, ha, hlt, hc⟩
  · exact .inl h3
  · exact .inr ⟨b, off, ha, Nat.lt_of_lt_of_le hlt hb.size, fun i hi => ⟨(hb.cell (p := ⟨b, off + i, none⟩) hlt).trans (hc i hi).1, (hc i hi).2⟩⟩
/-- Two numbers are drawn. -/
def DrawnPair5 (w : World) (e : Ending) (w' : World) : Prop := ∃ a b : Int, e = .returned (.tuple #[.int .i64 a, .int .i64 b]) ∧ Below w.heap.size w w'
/-- Three numbers are drawn. -/
def DrawnThree (w : World) (e : Ending) (w' : World) : Prop := ∃ a b c : Int, e = .returned (.tuple #[.int .i64 a, .int .i64 b, .int .i64 c]) ∧ Below w.heap.size w w'
/-- A kind, items and two numbers are drawn. -/
def DrawnHop (w : World) (e : Ending) (w' : World) : Prop :=
  ∃ (k s h : Int) (v : Value) (n : Nat) (l : List Int), e = .returned (.tuple #[.int .i64 k, v, .int .i64 s, .int .i64 h]) ∧ OwnR w' w.heap.size w'.heap.size v n l ∧ n ≤ 20 ∧ Below w.heap.size w w'
set_option maxRecDepth 4000 in
set_option maxHeartbeats 1000000 in
theorem l5Case_any (a : Option Addr) (n cap : Nat) (l : List Int) (w : World) (h : Bytes w a n cap l) :
    Calls Tryz.prog 78 #[.slice a n cap] w (DrawnHop w) := by
  have HB := Lib.hid h; clear h
  go_enter Tryz.func78, Tryz.ntmps78
  go_wp2_with fail
  refine (open_any _ _ _ l _ HB.out).mono ?_
  rintro e w1 ⟨c, rfl, hr, hb⟩
  have hs1 := hb.size
  have hc1 := hr.1
  have hc2 := hr.2.1
  have HR := Lib.hid hr
  have HW1 := Lib.hid hb
  clear hr hb
  go_wp2_with fail
  refine (l1Kind_any _ c _ _ HR.out (by omega)).mono ?_
  rintro e w2 ⟨k2, p2, rfl, -, hp2, hq2, hr2, hg2⟩
  have HR2 := Lib.hid hr2
  have HG2 := Lib.hid hg2
  clear hr2 hg2
  go_wp2_with fail
  refine (l1Wrong_any _ _ c _ _ HR2.out (by omega)).mono ?_
  rintro e w3 ⟨k3, p3, rfl, -, hp3, hq3, hr3, hg3⟩
  have HR3 := Lib.hid hr3
  have HG3 := Lib.hid (grown_trans HG2.out hg3)
  have hs3 := HG3.out.size
  clear hr3 hg3
  go_wp2_with fail
  refine (l1List_any 20 _ c _ _ HR3.out (by omega) (by omega) (by omega)).mono ?_
  rintro e w4 ⟨v4, n4, xs, p4, rfl, -, ho4, hn4, -, hp4, hq4, hr4, hg4⟩
  have hc4 := hr4.2.1
  have hs4 := hg4.size
  have HO4 := Lib.hid (show OwnR w4 w3.heap.size w4.heap.size v4 n4 xs from OwnR.made ho4 hs4)
  have HR4 := Lib.hid hr4
  have HG4 := Lib.hid (grown_trans HG3.out hg4)
  clear hr4 hg4 ho4
  go_wp2_with fail
  refine (num_any w4.heap.size _ [4, 6, 3, 2, 1, 8, 0, 61] w.heap.size c _ _ (HR4.out.kept (World.grownBy_alloc _ _ _)) (by omega) (ListAt.new w4 [4, 6, 3, 2, 1, 8, 0, 61] _) (by omega) (by decide) (by decide)).mono ?_
  rintro e w6 ⟨v6, rfl, -, hr6, hg6⟩
  have hc6 := hr6.2.1
  have HR6 := Lib.hid hr6
  have HG6 := Lib.hid (grown_trans (grown_alloc (grown_refl w4 c) _) hg6)
  clear hr6 hg6
  go_wp2_with fail
  refine (num_any w6.heap.size _ [2, 4, 1, 3, 6, 5, 0, 61] w.heap.size c _ _ (HR6.out.kept (World.grownBy_alloc _ _ _)) (by omega) (ListAt.new w6 [2, 4, 1, 3, 6, 5, 0, 61] _) (by omega) (by decide) (by decide)).mono ?_
  rintro e w7 ⟨v7, rfl, -, hr7, hg7⟩
  have HG7 := Lib.hid (grown_trans (grown_alloc HG6.out _) hg7)
  clear hr7 hg7
  have hs7 := HG7.out.size
  have HO7 := Lib.hid (HO4.out.kept HG7.out (fun j hj => by have := Option.some.inj hj; omega))
  have HB7 := Lib.hid (HW1.out.trans (grown_below (grown_trans HG4.out HG7.out) hs1 hc1))
  go_wp2_with fail
  go_returns
  exact ⟨k3, v6, v7, v4, n4, xs, rfl, ⟨owns_lower HO7.out.1 (by omega), by omega, Nat.le_refl _, fun g hg => Nat.lt_of_lt_of_le (HO7.out.2.2.2 g hg) hs7⟩, by omega, HB7.out⟩
theorem drawHopNumbers_any (a : Option Addr) (n cap : Nat) (l : List Int) (w : World) (h : Bytes w a n cap l) :
    Calls Tryz.prog 39 #[.slice a n cap] w (DrawnHop w) := by
  have HB := Lib.hid h; clear h
  go_enter Tryz.func39, Tryz.ntmps39
  go_wp2_with fail
  refine (l5Case_any _ _ _ l _ HB.out).mono ?_
  rintro e w1 ⟨k, s, h, v, n1, l1, rfl, ho, hn, hb⟩
  have HO := Lib.hid ho
  have HW := Lib.hid hb
  clear ho hb
  go_wp2_with fail
  go_returns
  exact ⟨k, s, h, v, n1, l1, rfl, HO.out, hn, HW.out⟩
theorem drawPaneNumbers_any (a : Option Addr) (n cap : Nat) (l : List Int) (w : World) (h : Bytes w a n cap l) :
    Calls Tryz.prog 43 #[.slice a n cap] w (DrawnHop w) := by
  have HB := Lib.hid h; clear h
  go_enter Tryz.func43, Tryz.ntmps43
  go_wp2_with fail
  refine (l5Case_any _ _ _ l _ HB.out).mono ?_
  rintro e w1 ⟨k, s, h, v, n1, l1, rfl, ho, hn, hb⟩
  have HO := Lib.hid ho
  have HW := Lib.hid hb
  clear ho hb
  go_wp2_with fail
  go_returns
  exact ⟨k, s, h, v, n1, l1, rfl, HO.out, hn, HW.out⟩
end Go.Proofs.YtfmkjpbmaogjpaaGreat
