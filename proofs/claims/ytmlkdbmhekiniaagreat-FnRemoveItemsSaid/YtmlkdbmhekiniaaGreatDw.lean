/-
  The arguments that the model draws for the laws of chapter 1.
-/
import Derived.Test.YtmlkdbmhekiniaaGreatLv
import Derived.Test.YtmlkdbmhekiniaaGreatZr
namespace Go.Proofs.YtmlkdbmhekiniaaGreat
set_option linter.unusedSimpArgs false
set_option linter.unusedVariables false
open Go.RowKit

theorem Bytes.below {w w' : World} {a : Option Addr} {n cap : Nat} {l : List Int} (h : Bytes w a n cap l) (hb : Below w.heap.size w w') : Bytes w' a n cap l := by
  obtain ⟨h1, h2, h3⟩ := h
  refine ⟨h1, h2, ?_⟩
  rcases h3 with h3 | ⟨b, off, ha, hlt, hc⟩
  · exact .inl h3
  · exact .inr ⟨b, off, ha, Nat.lt_of_lt_of_le hlt hb.size, fun i hi => ⟨(hb.cell (p := ⟨b, off + i, none⟩) hlt).trans (hc i hi).1, (hc i hi).2⟩⟩
theorem grown_drew {a b : World} {c : Nat} (h : a.grownBy b (some c)) : a.grownBy b.drew (some c) := ⟨h.os, h.tape, h.output, h.size, h.block⟩
/-- Two numbers are drawn. -/
def DrawnTwo (w : World) (e : Ending) (w' : World) : Prop := ∃ k n : Int, e = .returned (.tuple #[.int .i64 k, .int .i64 n]) ∧ Below w.heap.size w w'
/-- A kind and an aggregate are drawn. -/
def DrawnVal (w : World) (e : Ending) (w' : World) : Prop :=
  ∃ k x y z : Int, e = .returned (.tuple #[.int .i64 k, .agg #[.int .i64 x, .int .i64 y, .int .i64 z]]) ∧ Agg.few ⟨x, y, z⟩ ∧ Below w.heap.size w w'
/-- A kind and two aggregates are drawn. -/
def DrawnVals (w : World) (e : Ending) (w' : World) : Prop :=
  ∃ k ax ay az bx by' bz : Int, e = .returned (.tuple #[.int .i64 k, .agg #[.int .i64 ax, .int .i64 ay, .int .i64 az], .agg #[.int .i64 bx, .int .i64 by', .int .i64 bz]]) ∧ Agg.few ⟨ax, ay, az⟩ ∧ Agg.few ⟨bx, by', bz⟩ ∧ Below w.heap.size w w'
/-- A kind and a list are drawn. -/
def DrawnList (w : World) (e : Ending) (w' : World) : Prop :=
  ∃ (k : Int) (b n cap : Nat) (l : List Int), e = .returned (.tuple #[.int .i64 k, .slice (some ⟨b, 0, none⟩) n cap]) ∧ Nums .i64 w' (some ⟨b, 0, none⟩) n cap l ∧ n ≤ 1000 ∧ Below w.heap.size w w'




set_option maxRecDepth 4000 in
set_option maxHeartbeats 2000000 in
theorem drawFoldItems_any (a : Option Addr) (n cap : Nat) (l : List Int) (w : World) (h : Bytes w a n cap l) :
    Calls Tryz.prog 31 #[.slice a n cap] w (DrawnList w) := by
  have HB := Lib.hid h; clear h
  go_enter Tryz.func31, Tryz.ntmps31
  go_wp2_with fail
  refine (open_any _ _ _ l _ HB.out).mono ?_
  rintro e w1 ⟨c, rfl, hr, hb⟩
  have hBc := hr.1
  have HR := Lib.hid hr; clear hr
  have HW := Lib.hid hb; clear hb
  go_wp2_with fail
  refine (l1Kind_any _ c _ _ HR.out (by omega)).mono ?_
  rintro e w2 ⟨k, p2, rfl, -, hp2, hq2, hr2, hg2⟩
  have HR2 := Lib.hid hr2; clear hr2
  have HW2 := Lib.hid (HW.out.trans (grown_below hg2 HW.out.size hBc)); clear hg2
  go_wp2_with fail
  refine (l1Wrong_any _ _ c _ _ HR2.out (by omega)).mono ?_
  rintro e w3 ⟨k3, p3, rfl, -, hp3, hq3, hr3, hg3⟩
  have HR3 := Lib.hid hr3; clear hr3
  have HW3 := Lib.hid (HW2.out.trans (grown_below hg3 HW2.out.size hBc)); clear hg3
  go_wp2_with fail
  refine (l1List_any 8 _ c p3 _ HR3.out (by omega) (by omega) (by omega)).mono ?_
  rintro e w4 ⟨vv, m, xs, p4, rfl, hvv, ho, hm, hxs, hp4, hq4, hr4, hg4⟩
  have hlt3 := HR3.out.2.1
  have hs34' := hg4.size
  have HR4 := Lib.hid hr4; clear hr4
  have HW4 := Lib.hid (HW3.out.trans (grown_below hg4 HW3.out.size hBc)); clear hg4
  have HO4 := Lib.hid ho; clear ho
  clear hxs
  go_wp2_with fail
  refine (pick_any _ _ c p4 _ HR4.out (by omega) (by omega)).mono ?_
  rintro e w5 ⟨v, rfl, hv0, hv1, -, hr5, hg5⟩
  have hown4 : ∀ j, vv.ownBlock = some j → w3.heap.size ≤ j := fun j hj => (HO4.out.lt j hj).1
  have hs45 := hg5.size
  have hs34 : w3.heap.size ≤ w4.heap.size := hs34'
  have HO5 := Lib.hid (HO4.out.kept hg5 (.inr (fun e => by have := hown4 c e; omega)))
  have HR5 := Lib.hid hr5; clear hr5
  have HW5 := Lib.hid (HW4.out.trans (grown_below hg5 HW4.out.size hBc)); clear hg5
  obtain ⟨i0, hi, hz0, hz1, hz2⟩ := info_parts infoInt
  by_cases h0 : v = 0
  · subst h0
    go_wp2_with fail
    refine (num_any w5.heap.size 2 [97, -1] _ c (p4 + 1) _ (HR5.out.kept (World.grownBy_alloc _ _ _)) (by omega) (ListAt.new w5 [97, -1] _) (by have := HR5.out.2.1; omega) (by decide) (by decide)).mono ?_
    rintro e w6 ⟨x, rfl, -, hr6, hg6⟩
    have hs6 := hg6.size
    simp at hs6
    have ho6 := (HO5.out.alloc _).kept hg6 (.inr (fun e => by have := hown4 c e; omega))
    have HO6 := Lib.hid ho6; clear ho6
    have HW6 := Lib.hid ((HW5.out.alloc HW5.out.size _).trans (grown_below hg6 (by have := HW5.out.size; simp; omega) hBc)); clear hg6 hr6
    go_wp2_with (at_builtin; refine wpList_append_own _ rfl (.tmp 19) (.tmp 23) 23 rfl w3.heap.size 3 i0 (.int .i64 0) 1 8 Tryz.underlying23 hi hz0 hz1 hz2 rfl (by decide) _ _ _ rfl (HO6.out.alloc _) ⟨w6.heap.size, 0, none⟩ 1 1 [.int .i64 x] rfl rfl (cell_one_new _ _ _) (ints_oneCell .i64 [x]) (by unfold maxLen; omega) (by omega) (by simp; omega) ?_; intro v' w7 hown7 hgrow7 hnil7)
    obtain ⟨b', cap', rfl, hN⟩ := Nums.of_drawn (l := xs ++ [x]) (by simpa using hown7) (fun hh => hvv (hnil7.1 hh).1)
    have HN := Lib.hid hN; clear hN hown7
    have HW7 := Lib.hid ((HW6.out.alloc HW6.out.size _).grown hgrow7 (by have := HW6.out.size; simp; omega) (fun j hj => Nat.le_trans HW3.out.size (hown4 j hj)))
    clear hgrow7
    go_wp2_with fail
    go_returns
    exact ⟨k3, b', m + 1, cap', _, rfl, HN.out, by omega, HW7.out⟩
  · by_cases h1 : v = 1
    · subst h1
      obtain ⟨v', w6, hrun, hv', hown6, hgrow6⟩ := run_append_zeros (P := Tryz.prog) w5 w3.heap.size 23 3 23 3 i0 (.int .i64 0) .i64 .i64 Tryz.underlying23 Tryz.underlying3 hi hz0 hz1 rfl rfl vv hvv m _ HO5.out 60 (by omega) (by unfold maxLen; omega) (by rw [hz2]; omega) (by rw [hz2]; omega) (by omega)
      have HRUN := Lib.hid hrun; clear hrun
      have HW6 := Lib.hid (HW5.out.grown hgrow6 HW5.out.size (fun j hj => Nat.le_trans HW3.out.size (hown4 j hj)))
      obtain ⟨b', cap', rfl, hN⟩ := Nums.of_drawn (l := xs ++ List.replicate 60 0) (by simpa using hown6) hv'
      have HN := Lib.hid hN; clear hN hown6 hgrow6 hv'
      go_wp2_with (at_builtin; refine Lib.wpList_append_run _ rfl _ _ _ _ rfl _ _ rfl rfl _ _ HRUN.out ?_)
      go_returns
      exact ⟨k3, b', m + 60, cap', _, rfl, HN.out, by omega, HW6.out⟩
    · obtain ⟨b', cap', rfl, hN⟩ := Nums.of_drawn HO5.out hvv
      have HN := Lib.hid hN; clear hN
      go_wp2_with fail
      go_returns
      exact ⟨k3, b', m, cap', xs, rfl, HN.out, by omega, HW5.out⟩
end Go.Proofs.YtmlkdbmhekiniaaGreat
