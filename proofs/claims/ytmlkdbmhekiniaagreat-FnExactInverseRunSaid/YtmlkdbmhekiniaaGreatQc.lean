import Derived.Test.YtmlkdbmhekiniaaGreatQi
import Derived.Test.YtmlkdbmhekiniaaGreatQb
import Derived.Test.YtmlkdbmhekiniaaGreatM
import Derived.Test.YtmlkdbmhekiniaaGreatL
import Derived.Test.YtmlkdbmhekiniaaGreat3a
import Derived.Deep.RegionHeld3
import Derived.Deep.Cut
import Derived.Test.YtmlkdbmhekiniaaGreatTb
import Derived.Deep.DeepMust
/-
  Valid windows with an inverse, in the program and in the model.
-/
namespace Go.Proofs.YtmlkdbmhekiniaaGreat
set_option linter.unusedSimpArgs false
set_option linter.unusedVariables false
open Go.RowKit
set_option maxRecDepth 8000 in
set_option maxHeartbeats 2000000 in
theorem inverseValid_any (k : Int) (ia : Option Addr) (m ic : Nat) (ax ay az : Int) (I : List Int) (w : World) (hI : Nums .i64 w ia m ic I) :
    Calls Tryz.prog 18 #[.int .i64 k, .agg #[.slice ia m ic, .int .i64 ax, .int .i64 ay, .int .i64 az]] w fun e w' => e = .returned (.bool (Agg.ivOk k ⟨I, ⟨ax, ay, az⟩⟩)) ∧ Below w.heap.size w w' := by
  obtain ⟨b, hb⟩ : ∃ b, b = Agg.ivOk k ⟨I, ⟨ax, ay, az⟩⟩ := ⟨_, rfl⟩
  rw [← hb]
  obtain ⟨W, hW⟩ : ∃ W, W = w.alloc (.cells #[.slice ia m ic, .int .i64 ax, .int .i64 ay, .int .i64 az] 27) := ⟨_, rfl⟩
  have HX := Lib.hid (show Box4 W w.heap.size 27 (.slice ia m ic) (.int .i64 ax) (.int .i64 ay) (.int .i64 az) from by rw [hW]; exact Box4.new _ _ _ _ _ _)
  have HB := Lib.hid (show Below w.heap.size w W from by rw [hW]; exact (Below.refl _ _).alloc (Nat.le_refl _) _)
  have HI := Lib.hid (hI.below HB.out)
  clear hI
  cases hr : Agg.removes k
  · have hbf : b = false := by rw [hb]; simp [Agg.ivOk, hr]
    subst hbf
    have HR := Lib.hid hr
    clear hb hr
    go_enter Tryz.func18, Tryz.ntmps18
    go_wp2_with fail
    rw [← hW]
    clear hW
    refine (removerOf_not k _ HR.out).mono ?_
    rintro e w1 ⟨rfl, rfl⟩
    go_wp2_with fail
    go_returns
    exact ⟨rfl, HB.out⟩
  · obtain ⟨T, fu, fl, fc, fr, R⟩ := rem_at hr
    have HRO := Lib.hid R.of
    have hk := Agg.removes_kind hr
    have hh := fun w h => foldItems_any k ia m ic I w h
    obtain ⟨q0, q1, q2, q3⟩ := HX.out.cells
    cases hi : Agg.itemsOk I
    · have hbf : b = false := by rw [hb]; simp [Agg.ivOk, hi]
      subst hbf
      rw [show Agg.aFold k I = (Agg.zero, false) by simp [Agg.aFold, Agg.give, hi]] at hh
      have HH := Lib.hid hh
      clear hh hb hr hi hk R
      go_enter Tryz.func18, Tryz.ntmps18
      go_wp2_with fail
      rw [← hW]
      clear hW
      refine (HRO.out _).mono ?_
      rintro e w1 ⟨rfl, rfl⟩
      go_wp2_with fail
      refine (HH.out _ HI.out).mono ?_
      rintro e w2 ⟨rfl, hb2⟩
      have HB2 := Lib.hid (HB.out.trans (hb2.mono HB.out.size))
      clear hb2
      go_wp2_with fail
      go_returns
      exact ⟨rfl, HB2.out.alloc HB2.out.size _⟩
    · rw [Agg.aFold_of hk hi] at hh
      obtain ⟨⟨X, Y, Z⟩, hV⟩ : ∃ V, V = Agg.fold k I := ⟨_, rfl⟩
      rw [← hV] at hh
      have HH := Lib.hid hh
      have hbd : b = decide ((⟨ax, ay, az⟩ : Agg.V) = ⟨X, Y, Z⟩) := by rw [hb, hV]; simp [Agg.ivOk, hr, hi]
      clear hh hb hr hi hk R hV
      by_cases heq : ax = X ∧ ay = Y ∧ az = Z
      · obtain ⟨rfl, rfl, rfl⟩ := heq
        have hbf : b = true := by rw [hbd]; simp
        subst hbf
        clear hbd
        go_enter Tryz.func18, Tryz.ntmps18
        go_wp2_with fail
        rw [← hW]
        clear hW
        refine (HRO.out _).mono ?_
        rintro e w1 ⟨rfl, rfl⟩
        go_wp2_with fail
        refine (HH.out _ HI.out).mono ?_
        rintro e w2 ⟨rfl, hb2⟩
        have HX2 := Lib.hid (HX.out.call hb2)
        have HB2 := Lib.hid (HB.out.trans (hb2.mono HB.out.size))
        have hl2 := HX2.out.lt
        obtain ⟨p0, p1, p2, p3⟩ := HX2.out.cells
        clear hb2 q0 q1 q2 q3
        go_wp2_with fail
        go_returns
        exact ⟨by first | rfl | simp, HB2.out.alloc HB2.out.size _⟩
      · have hbf : b = false := by rw [hbd]; simpa using heq
        subst hbf
        clear hbd
        have heq3 : ¬ (ax = X) ∨ (ax = X ∧ ¬ (ay = Y)) ∨ (ax = X ∧ ay = Y ∧ ¬ (az = Z)) := by
          by_cases e1 : ax = X
          · by_cases e2 : ay = Y
            · exact .inr (.inr ⟨e1, e2, fun e3 => heq ⟨e1, e2, e3⟩⟩)
            · exact .inr (.inl ⟨e1, e2⟩)
          · exact .inl e1
        clear heq
        rcases heq3 with hne | ⟨rfl, hne⟩ | ⟨rfl, rfl, hne⟩
        all_goals
          go_enter Tryz.func18, Tryz.ntmps18
          go_wp2_with fail
          rw [← hW]
          clear hW
          refine (HRO.out _).mono ?_
          rintro e w1 ⟨rfl, rfl⟩
          go_wp2_with fail
          refine (HH.out _ HI.out).mono ?_
          rintro e w2 ⟨rfl, hb2⟩
          have HX2 := Lib.hid (HX.out.call hb2)
          have HB2 := Lib.hid (HB.out.trans (hb2.mono HB.out.size))
          have hl2 := HX2.out.lt
          obtain ⟨p0, p1, p2, p3⟩ := HX2.out.cells
          clear hb2 q0 q1 q2 q3
          go_wp2_with fail
          go_returns
          exact ⟨by first | rfl | simp [hne], HB2.out.alloc HB2.out.size _⟩
theorem s_l6Has_any (k : Int) (w : World) : Calls Tryz.prog 98 #[.int .i64 k] w fun e w' => e = .returned (.bool (Agg.removes k)) ∧ w = w' := by
  obtain ⟨b, hb⟩ : ∃ b, b = Agg.removes k := ⟨_, rfl⟩
  rw [← hb]
  by_cases h : k = 1 ∨ k = 2 ∨ k = 7 ∨ k = 8
  · have hbt : b = true := by rw [hb]; simpa [Agg.removes] using h
    subst hbt
    clear hb
    rcases h with rfl | rfl | rfl | rfl
    all_goals
      go_enter Tryz.func98, Tryz.ntmps98
      go_wp2
      go_returns
      exact ⟨rfl, rfl⟩
  · have hbt : b = false := by rw [hb]; simpa [Agg.removes] using h
    subst hbt
    clear hb
    have h1 : ¬ k = 1 := fun e => h (by simp [e])
    have h2 : ¬ k = 2 := fun e => h (by simp [e])
    have h3 : ¬ k = 7 := fun e => h (by simp [e])
    have h4 : ¬ k = 8 := fun e => h (by simp [e])
    clear h
    go_enter Tryz.func98, Tryz.ntmps98
    go_wp2
    go_returns
    exact ⟨by simp [h1, h2, h3, h4], rfl⟩
set_option maxRecDepth 8000 in
set_option maxHeartbeats 4000000 in
theorem s_inverseValid_any (k : Int) (ia : Option Addr) (m ic : Nat) (ax ay az : Int) (I : List Int) (w : World) (hI : Nums .i64 w ia m ic I) :
    Calls Tryz.prog 60 #[.int .i64 k, .agg #[.slice ia m ic, .int .i64 ax, .int .i64 ay, .int .i64 az]] w fun e w' => e = .returned (.bool (Agg.ivOk k ⟨I, ⟨ax, ay, az⟩⟩)) ∧ Below w.heap.size w w' := by
  obtain ⟨b, hb⟩ : ∃ b, b = Agg.ivOk k ⟨I, ⟨ax, ay, az⟩⟩ := ⟨_, rfl⟩
  rw [← hb]
  obtain ⟨W, hW⟩ : ∃ W, W = w.alloc (.cells #[.slice ia m ic, .int .i64 ax, .int .i64 ay, .int .i64 az] 27) := ⟨_, rfl⟩
  have HX := Lib.hid (show Box4 W w.heap.size 27 (.slice ia m ic) (.int .i64 ax) (.int .i64 ay) (.int .i64 az) from by rw [hW]; exact Box4.new _ _ _ _ _ _)
  have HB := Lib.hid (show Below w.heap.size w W from by rw [hW]; exact (Below.refl _ _).alloc (Nat.le_refl _) _)
  have HI := Lib.hid (hI.below HB.out)
  have hH := fun w => s_l6Has_any k w
  have hL := fun w h => s_items_any ia m ic I w h
  clear hI
  obtain ⟨q0, q1, q2, q3⟩ := HX.out.cells
  cases hr : Agg.removes k
  · have hbf : b = false := by rw [hb]; simp [Agg.ivOk, hr]
    subst hbf
    rw [hr] at hH
    have HH := Lib.hid hH
    clear hb hr hH hL
    go_enter Tryz.func60, Tryz.ntmps60
    go_upto_region 1 with (fail)
    rw [← hW]
    clear hW
    first | go_region_with (go_at_call 98; refine (HH.out _).mono ?_; rintro e w1 ⟨rfl, rfl⟩) | fail
    all_goals
      go_wp2_with fail
      go_returns
      exact ⟨rfl, HB.out.drew⟩
  · have hk := Agg.removes_kind hr
    rw [hr] at hH
    have HH := Lib.hid hH
    cases hi : Agg.itemsOk I
    · have hbf : b = false := by rw [hb]; simp [Agg.ivOk, hi]
      subst hbf
      rw [hi] at hL
      have HL := Lib.hid hL
      clear hb hr hH hL hk hi
      go_enter Tryz.func60, Tryz.ntmps60
      go_upto_region 1 with (fail)
      rw [← hW]
      clear hW
      first | go_region_with (first | (go_at_call 98; refine (HH.out _).mono ?_; rintro e w1 ⟨rfl, rfl⟩) | (go_at_call 80; refine (HL.out _ (show Nums .i64 W.drew _ _ _ _ from HI.out)).mono ?_; rintro e w1 ⟨rfl, rfl⟩)) | fail
      all_goals
        go_wp2_with fail
        go_returns
        exact ⟨rfl, HB.out.drew⟩
    · rw [hi] at hL
      have HL := Lib.hid hL
      have hF := fun w h => s_fold_all k hk ia m ic I w h hi
      obtain ⟨⟨X, Y, Z⟩, hV⟩ : ∃ V, V = Agg.fold k I := ⟨_, rfl⟩
      rw [← hV] at hF
      have HF := Lib.hid hF
      have hbd : b = decide ((⟨ax, ay, az⟩ : Agg.V) = ⟨X, Y, Z⟩) := by rw [hb, hV]; simp [Agg.ivOk, hr, hi]
      clear hb hr hi hk hV hF hH hL
      by_cases heq : ax = X ∧ ay = Y ∧ az = Z
      · obtain ⟨rfl, rfl, rfl⟩ := heq
        have hbf : b = true := by rw [hbd]; simp
        subst hbf
        clear hbd
        go_enter Tryz.func60, Tryz.ntmps60
        go_upto_region 1 with (fail)
        rw [← hW]
        clear hW
        go_region_held3 (fun w' => w'.cell? ⟨w.heap.size, 0, none⟩ = some (.slice ia m ic) ∧ w'.cell? ⟨w.heap.size, 1, none⟩ = some (.int .i64 ax) ∧ w'.cell? ⟨w.heap.size, 2, none⟩ = some (.int .i64 ay) ∧ w'.cell? ⟨w.heap.size, 3, none⟩ = some (.int .i64 az)) (first | (refine ⟨?_, ?_, ?_, ?_⟩ <;> assumption) | go_keep) (first | (go_at_call 98; refine (HH.out _).mono ?_; rintro e w1 ⟨rfl, rfl⟩) | (go_at_call 80; refine (HL.out _ (show Nums .i64 W.drew _ _ _ _ from HI.out)).mono ?_; rintro e w1 ⟨rfl, rfl⟩) | (go_at_call 81; refine (HF.out _ (show Nums .i64 W.drew _ _ _ _ from HI.out)).mono ?_; rintro e w3 ⟨rfl, hb3⟩; have HX3 := Lib.hid (HX.out.callD hb3); have HB3 := Lib.hid (HB.out.drew.trans (hb3.mono HB.out.size)); obtain ⟨p0, p1, p2, p3⟩ := HX3.out.cells; clear hb3))
        all_goals
          go_wp2_with fail
          go_returns
          exact ⟨by first | rfl | simp, HB3.out⟩
      · have hbf : b = false := by rw [hbd]; simpa using heq
        subst hbf
        clear hbd
        have heq3 : ¬ (ax = X) ∨ (ax = X ∧ ¬ (ay = Y)) ∨ (ax = X ∧ ay = Y ∧ ¬ (az = Z)) := by
          by_cases e1 : ax = X
          · by_cases e2 : ay = Y
            · exact .inr (.inr ⟨e1, e2, fun e3 => heq ⟨e1, e2, e3⟩⟩)
            · exact .inr (.inl ⟨e1, e2⟩)
          · exact .inl e1
        clear heq
        rcases heq3 with hne | ⟨rfl, hne⟩ | ⟨rfl, rfl, hne⟩
        all_goals
          go_enter Tryz.func60, Tryz.ntmps60
          go_upto_region 1 with (fail)
          rw [← hW]
          clear hW
          go_region_held3 (fun w' => w'.cell? ⟨w.heap.size, 0, none⟩ = some (.slice ia m ic) ∧ w'.cell? ⟨w.heap.size, 1, none⟩ = some (.int .i64 ax) ∧ w'.cell? ⟨w.heap.size, 2, none⟩ = some (.int .i64 ay) ∧ w'.cell? ⟨w.heap.size, 3, none⟩ = some (.int .i64 az)) (first | (refine ⟨?_, ?_, ?_, ?_⟩ <;> assumption) | go_keep) (first | (go_at_call 98; refine (HH.out _).mono ?_; rintro e w1 ⟨rfl, rfl⟩) | (go_at_call 80; refine (HL.out _ (show Nums .i64 W.drew _ _ _ _ from HI.out)).mono ?_; rintro e w1 ⟨rfl, rfl⟩) | (go_at_call 81; refine (HF.out _ (show Nums .i64 W.drew _ _ _ _ from HI.out)).mono ?_; rintro e w3 ⟨rfl, hb3⟩; have HX3 := Lib.hid (HX.out.callD hb3); have HB3 := Lib.hid (HB.out.drew.trans (hb3.mono HB.out.size)); obtain ⟨p0, p1, p2, p3⟩ := HX3.out.cells; clear hb3))
          all_goals
            go_wp2_with fail
            go_returns
            exact ⟨by first | rfl | simp [hne], HB3.out⟩
end Go.Proofs.YtmlkdbmhekiniaaGreat

/-
  InverseStep in the program.
-/
namespace Go.Proofs.YtmlkdbmhekiniaaGreat
set_option linter.unusedSimpArgs false
set_option linter.unusedVariables false
open Go.RowKit
theorem p_slice {w : World} {base e size n : Nat} {v : Value} {xs : List Value} (h : w.ownsRow base e size v n xs) : ∃ a c, v = .slice a n c := by
  rcases h.2 with ⟨rfl, rfl⟩ | ⟨g, cap, cur, rfl, -⟩
  · exact ⟨none, 0, rfl⟩
  · exact ⟨_, cap, rfl⟩
/-- What InverseStep answers, in memory of its own. -/
def IvOut (b : Bool) (s : Agg.Iv) (w : World) (e : Ending) (w' : World) : Prop :=
  ∃ v, e = .returned (.tuple #[v, .bool b]) ∧ IvOwn w' w.heap.size w'.heap.size v s ∧ Below w.heap.size w w'
theorem IvOut.zero {w w' : World} (hb : Below w.heap.size w w') : IvOut false Agg.zeroIv w (.returned (.tuple #[.agg #[.slice none 0 0, .int .i64 0, .int .i64 0, .int .i64 0], .bool false])) w' :=
  ⟨_, rfl, ⟨_, rfl, ⟨World.ownsRow_nil _ _ _ _, hb.size, Nat.le_refl _, fun g hg => by simp [Value.ownBlock] at hg⟩⟩, hb⟩
theorem sets4 {w wr : World} {c d : Nat} (h : Below d w wr) (hd : d ≤ c) (u0 u1 u2 u3 : Value) :
    Below d w ((((wr.setCell ⟨c, 0, none⟩ u0).setCell ⟨c, 1, none⟩ u1).setCell ⟨c, 2, none⟩ u2).setCell ⟨c, 3, none⟩ u3) := (((h.setCell hd u0).setCell hd u1).setCell hd u2).setCell hd u3
theorem size_sets4 {wr : World} {c : Nat} (u0 u1 u2 u3 : Value) : ((((wr.setCell ⟨c, 0, none⟩ u0).setCell ⟨c, 1, none⟩ u1).setCell ⟨c, 2, none⟩ u2).setCell ⟨c, 3, none⟩ u3).heap.size = wr.heap.size := by simp [World.setCell]
theorem own_setlow {w : World} {base e size n d o : Nat} {v u : Value} {xs : List Value} (h : w.ownsRow base e size v n xs) (hd : d < base) : (w.setCell ⟨d, o, none⟩ u).ownsRow base e size v n xs := ownsRow_setCell_below h hd u
theorem lit_kept {Y Z : World} {c : Nat} {u : Value} (h : ∀ j v, ([u])[j]? = some v → Y.cell? ((⟨c, 0, none⟩ : Addr).add j) = some v) (hb : Below Y.heap.size Y Z) (hc : c < Y.heap.size) : ∀ j v, ([u])[j]? = some v → Z.cell? ((⟨c, 0, none⟩ : Addr).add j) = some v := by
  intro j v hj
  rw [Addr.add_lit]
  have h1 := h j v hj
  rw [Addr.add_lit] at h1
  exact (hb.cell (p := ⟨c, 0 + j, none⟩) hc).trans h1
def Box2p (w : World) (c : Nat) (T : TypeId) (u v : Value) : Prop := w.heap[c]? = some (.cells #[u, v] T (0, 0))
theorem Box2p.cells {w : World} {c : Nat} {T : TypeId} {u v : Value} (h : Box2p w c T u v) : w.cell? ⟨c, 0, none⟩ = some u ∧ w.cell? ⟨c, 1, none⟩ = some v := by
  unfold Box2p at h
  constructor <;> simp [World.cell?, h]
/-- The variables of a change under way. -/
structure IvJ (w : World) (iv : Value) (ax ay az : Int) (p : Bool) (x : Int) (W : World) : Prop where
  s : Box4 W w.heap.size 27 iv (.int .i64 ax) (.int .i64 ay) (.int .i64 az)
  o : Box2p W (w.heap.size + 1) 29 (.bool p) (.int .i64 x)
  r : Box4 W (w.heap.size + 1 + 1) 27 (.slice none 0 0) (.int .i64 0) (.int .i64 0) (.int .i64 0)
  b : Below w.heap.size w W
theorem IvJ.lt {w W : World} {iv : Value} {ax ay az : Int} {p : Bool} {x : Int} (h : IvJ w iv ax ay az p x W) : w.heap.size + 3 ≤ W.heap.size := by have := h.r.lt; omega
theorem IvJ.call {w X Y : World} {iv : Value} {ax ay az : Int} {p : Bool} {x : Int} (h : IvJ w iv ax ay az p x X) (hb : Below X.heap.size X Y) : IvJ w iv ax ay az p x Y :=
  ⟨h.s.call hb, (hb.block _ (Array.getElem?_eq_some_iff.1 h.o).1).trans h.o, h.r.call hb, h.b.trans (hb.mono h.b.size)⟩
theorem IvJ.drew {w X : World} {iv : Value} {ax ay az : Int} {p : Bool} {x : Int} (h : IvJ w iv ax ay az p x X) : IvJ w iv ax ay az p x X.drew := ⟨h.s, h.o, h.r, h.b.drew⟩
theorem IvJ.grown {w X Y : World} {iv : Value} {ax ay az : Int} {p : Bool} {x : Int} {row : Option Nat} (h : IvJ w iv ax ay az p x X) (hg : X.grownBy Y row) (hr : ∀ g, row = some g → w.heap.size + 3 ≤ g) : IvJ w iv ax ay az p x Y :=
  ⟨h.s.grown hg (fun e => by have := hr _ e; omega), (hg.block _ (Array.getElem?_eq_some_iff.1 h.o).1 (fun e => by have := hr _ e.symm; omega)).trans h.o, h.r.grown hg (fun e => by have := hr _ e; omega), h.b.grown hg h.b.size (fun g e => by have := hr g e; omega)⟩
theorem IvJ.setAgg {w X : World} {iv : Value} {ax ay az : Int} {p : Bool} {x : Int} (h : IvJ w iv ax ay az p x X) (x' y' z' : Int) :
    IvJ w iv x' y' z' p x (((X.setCell ⟨w.heap.size, 1, none⟩ (.int .i64 x')).setCell ⟨w.heap.size, 2, none⟩ (.int .i64 y')).setCell ⟨w.heap.size, 3, none⟩ (.int .i64 z')) := by
  refine ⟨((h.s.set1 _).set2 _).set3 _, ?_, ((h.r.other (by omega) _ _).other (by omega) _ _).other (by omega) _ _, ((h.b.setCell (Nat.le_refl _) _).setCell (Nat.le_refl _) _).setCell (Nat.le_refl _) _⟩
  have := h.o
  unfold Box2p at *
  rw [Below.heap_setCell _ _ _ _ (by simp), Below.heap_setCell _ _ _ _ (by simp), Below.heap_setCell _ _ _ _ (by simp)]
  exact this
theorem IvJ.setItems {w X : World} {iv : Value} {ax ay az : Int} {p : Bool} {x : Int} (h : IvJ w iv ax ay az p x X) (v : Value) : IvJ w v ax ay az p x (X.setCell ⟨w.heap.size, 0, none⟩ v) := by
  refine ⟨h.s.set0 _, ?_, h.r.other (by omega) _ _, h.b.setCell (Nat.le_refl _) _⟩
  have := h.o
  unfold Box2p at *
  rw [Below.heap_setCell _ _ _ _ (by simp)]
  exact this
/-- The result is written. -/
theorem iv_out {w Y : World} {iv : Value} {s : Agg.Iv} (hB : Below w.heap.size w Y) (hi : Y.ownsRow (w.heap.size + 3) 3 1 iv s.items.length (s.items.map (Value.int .i64))) (u0 u1 u2 u3 : Value) :
    IvOut true s w (.returned (.tuple #[.agg #[iv, .int .i64 s.agg.x, .int .i64 s.agg.y, .int .i64 s.agg.z], .bool true])) ((((Y.setCell ⟨w.heap.size + 1 + 1, 0, none⟩ u0).setCell ⟨w.heap.size + 1 + 1, 1, none⟩ u1).setCell ⟨w.heap.size + 1 + 1, 2, none⟩ u2).setCell ⟨w.heap.size + 1 + 1, 3, none⟩ u3) := by
  have hB' := sets4 hB (c := w.heap.size + 1 + 1) (by omega) u0 u1 u2 u3
  have h2 : ((((Y.setCell ⟨w.heap.size + 1 + 1, 0, none⟩ u0).setCell ⟨w.heap.size + 1 + 1, 1, none⟩ u1).setCell ⟨w.heap.size + 1 + 1, 2, none⟩ u2).setCell ⟨w.heap.size + 1 + 1, 3, none⟩ u3).ownsRow (w.heap.size + 3) 3 1 iv s.items.length (s.items.map (Value.int .i64)) :=
    own_setlow (own_setlow (own_setlow (own_setlow hi (by omega)) (by omega)) (by omega)) (by omega)
  exact ⟨_, rfl, ⟨iv, rfl, ⟨owns_lower h2 (by omega), hB'.size, Nat.le_refl _, fun g hg => (h2.lt g hg).2⟩⟩, hB'⟩
set_option maxRecDepth 8000 in
set_option maxHeartbeats 8000000 in
theorem inverseStep_not (k : Int) (ia : Option Addr) (m ic : Nat) (ax ay az : Int) (I : List Int) (p : Bool) (x : Int) (w : World) (hI : Nums .i64 w ia m ic I) (hst : Agg.ivCan k ⟨I, ⟨ax, ay, az⟩⟩ (p, x) = false) :
    Calls Tryz.prog 14 #[.int .i64 k, .agg #[.slice ia m ic, .int .i64 ax, .int .i64 ay, .int .i64 az], .agg #[.bool p, .int .i64 x]] w (IvOut false Agg.zeroIv w) := by
  obtain ⟨W, hW⟩ : ∃ W, W = ((w.alloc (.cells #[.slice ia m ic, .int .i64 ax, .int .i64 ay, .int .i64 az] 27)).alloc (.cells #[.bool p, .int .i64 x] 29)).alloc (.cells #[.slice none 0 0, .int .i64 0, .int .i64 0, .int .i64 0] 27) := ⟨_, rfl⟩
  have HJ := Lib.hid (show IvJ w (.slice ia m ic) ax ay az p x W from by
    rw [hW]
    exact ⟨((Box4.new w _ _ _ _ _).alloc _).alloc _, (Below.heap_alloc _ _ (w.heap.size + 1) (by simp)).trans (by have := heap_alloc_new (w.alloc (.cells #[.slice ia m ic, .int .i64 ax, .int .i64 ay, .int .i64 az] 27)) (.cells #[.bool p, .int .i64 x] 29); simpa using this), Box4.new1 _ _ _ _ _ (by simp), (((Below.refl _ _).alloc (Nat.le_refl _) _).alloc (by simp) _).alloc (by simp; omega) _⟩)
  have HIL := Lib.hid (show I.length = m from hI.1)
  have hV := fun w hI => inverseValid_any k ia m ic ax ay az I w hI
  have HI0 := Lib.hid hI
  clear hI
  obtain ⟨q0, q1, q2, q3⟩ := HJ.out.s.cells
  obtain ⟨p0, p1⟩ := HJ.out.o.cells
  cases hr : Agg.removes k
  · have HR := Lib.hid hr
    clear hV hst hr
    go_enter Tryz.func14, Tryz.ntmps14
    go_upto_region 1 with (fail)
    rw [← hW]
    clear hW
    go_wp2_with fail
    refine (removerOf_not k _ HR.out).mono ?_
    rintro e w1 ⟨rfl, rfl⟩
    obtain ⟨s0, s1, s2, s3⟩ := HJ.out.r.cells
    have e0 := HJ.out.r.free
    go_wp2_with fail
    refine bodyPost_ret (by simp [results, Tryz.results14, go_sem, *]; try rfl) rfl ?_
    exact IvOut.zero (sets4 HJ.out.b (by omega) _ _ _ _)
  · obtain ⟨T, fu, fl, fc, fr, R⟩ := rem_at hr
    have HRO := Lib.hid R.of
    cases hv : Agg.ivOk k ⟨I, ⟨ax, ay, az⟩⟩
    · rw [hv] at hV
      have HV := Lib.hid hV
      clear hV hst hr hv R
      go_enter Tryz.func14, Tryz.ntmps14
      go_upto_region 1 with (fail)
      rw [← hW]
      clear hW
      go_wp2_with fail
      refine (HRO.out _).mono ?_
      rintro e w1 ⟨rfl, rfl⟩
      go_wp2_with fail
      refine (HV.out _ (HI0.out.below HJ.out.b)).mono ?_
      rintro e w1 ⟨rfl, hb1⟩
      have HJ := Lib.hid (HJ.out.call hb1)
      clear hb1 q0 q1 q2 q3 p0 p1
      obtain ⟨q0, q1, q2, q3⟩ := HJ.out.s.cells
      obtain ⟨p0, p1⟩ := HJ.out.o.cells
      obtain ⟨s0, s1, s2, s3⟩ := HJ.out.r.cells
      have e0 := HJ.out.r.free
      go_wp2_with fail
      refine bodyPost_ret (by simp [results, Tryz.results14, go_sem, *]; try rfl) rfl ?_
      exact IvOut.zero (sets4 HJ.out.b (by omega) _ _ _ _)
    · have hcan : Agg.can (p, x) (m : Int) = false := by
        simp only [Agg.ivCan, hv, Bool.true_and, HIL.out] at hst
        exact hst
      have hC := fun w => canChange_any p x (m : Int) w
      rw [hcan] at hC
      rw [hv] at hV
      have HV := Lib.hid hV
      have HC := Lib.hid hC
      clear hV hst hr hv R hC hcan
      go_enter Tryz.func14, Tryz.ntmps14
      go_upto_region 1 with (fail)
      rw [← hW]
      clear hW
      go_wp2_with fail
      refine (HRO.out _).mono ?_
      rintro e w1 ⟨rfl, rfl⟩
      go_wp2_with fail
      refine (HV.out _ (HI0.out.below HJ.out.b)).mono ?_
      rintro e w1 ⟨rfl, hb1⟩
      have HJ := Lib.hid (HJ.out.call hb1)
      clear hb1 q0 q1 q2 q3 p0 p1
      obtain ⟨q0, q1, q2, q3⟩ := HJ.out.s.cells
      obtain ⟨p0, p1⟩ := HJ.out.o.cells
      go_wp2_with fail
      refine (HC.out _).mono ?_
      rintro e w2 ⟨rfl, hb2⟩
      have HJ := Lib.hid (HJ.out.call hb2)
      clear hb2 q0 q1 q2 q3 p0 p1
      obtain ⟨s0, s1, s2, s3⟩ := HJ.out.r.cells
      have e0 := HJ.out.r.free
      go_wp2_with fail
      refine bodyPost_ret (by simp [results, Tryz.results14, go_sem, *]; try rfl) rfl ?_
      exact IvOut.zero (sets4 HJ.out.b (by omega) _ _ _ _)
set_option maxRecDepth 8000 in
set_option maxHeartbeats 8000000 in
theorem inverseStep_push (k : Int) (ia : Option Addr) (m ic : Nat) (ax ay az : Int) (I : List Int) (x : Int) (w : World) (hI : Nums .i64 w ia m ic I) (hst : Agg.ivCan k ⟨I, ⟨ax, ay, az⟩⟩ (true, x) = true) :
    Calls Tryz.prog 14 #[.int .i64 k, .agg #[.slice ia m ic, .int .i64 ax, .int .i64 ay, .int .i64 az], .agg #[.bool true, .int .i64 x]] w (IvOut true (Agg.ivStep k I (true, x)) w) := by
  obtain ⟨W, hW⟩ : ∃ W, W = ((w.alloc (.cells #[.slice ia m ic, .int .i64 ax, .int .i64 ay, .int .i64 az] 27)).alloc (.cells #[.bool true, .int .i64 x] 29)).alloc (.cells #[.slice none 0 0, .int .i64 0, .int .i64 0, .int .i64 0] 27) := ⟨_, rfl⟩
  have HJ := Lib.hid (show IvJ w (.slice ia m ic) ax ay az true x W from by
    rw [hW]
    exact ⟨((Box4.new w _ _ _ _ _).alloc _).alloc _, (Below.heap_alloc _ _ (w.heap.size + 1) (by simp)).trans (by have := heap_alloc_new (w.alloc (.cells #[.slice ia m ic, .int .i64 ax, .int .i64 ay, .int .i64 az] 27)) (.cells #[.bool true, .int .i64 x] 29); simpa using this), Box4.new1 _ _ _ _ _ (by simp), (((Below.refl _ _).alloc (Nat.le_refl _) _).alloc (by simp) _).alloc (by simp; omega) _⟩)
  have HIL := Lib.hid (show I.length = m from hI.1)
  have hV := fun w hI => inverseValid_any k ia m ic ax ay az I w hI
  have HI0 := Lib.hid hI
  clear hI
  obtain ⟨q0, q1, q2, q3⟩ := HJ.out.s.cells
  obtain ⟨p0, p1⟩ := HJ.out.o.cells
  have hv : Agg.ivOk k ⟨I, ⟨ax, ay, az⟩⟩ = true := by simp only [Agg.ivCan, Bool.and_eq_true] at hst; exact hst.1
  have hcan : Agg.can (true, x) (m : Int) = true := by simp only [Agg.ivCan, Bool.and_eq_true, HIL.out] at hst; exact hst.2
  obtain ⟨hr, hk, hit, hag, hok⟩ := Agg.ivOk_parts hv
  simp only at hit hag hok
  obtain ⟨T, fu, fl, fc, fr, R⟩ := rem_at hr
  have HRO := Lib.hid R.of
  have hC := fun w => canChange_any true x (m : Int) w
  rw [hcan] at hC
  rw [hv] at hV
  have HV := Lib.hid hV
  have HC := Lib.hid hC
  have hml := R.K.ml
  have hmc := R.K.mc
  have hal := R.K.al
  have hac := R.K.ac
  have hcl := R.K.cl
  have hcc := R.K.cc
  have hmr := R.mr
  have har := R.ar
  have hcr := R.cr
  obtain ⟨hx, hm60⟩ := Agg.can_push hcan
  have hxb : 0 ≤ x ∧ x ≤ 96 := by simpa [Agg.isItem] using hx
  have hlk := Agg.ok_lift hk hx
  have hLI := fun w => R.K.lift x w hxb.1 hxb.2
  obtain ⟨⟨lx, ly, lz⟩, hL⟩ : ∃ V, V = Agg.lift k x := ⟨_, rfl⟩
  rw [← hL] at hLI hlk
  have hCO := fun w => R.K.comb ax ay az lx ly lz w hok hlk
  obtain ⟨⟨rx, ry, rz⟩, hR⟩ : ∃ V, V = Agg.comb k ⟨ax, ay, az⟩ ⟨lx, ly, lz⟩ := ⟨_, rfl⟩
  rw [← hR] at hCO
  have HRES := Lib.hid (show (⟨rx, ry, rz⟩ : Agg.V) = Agg.fold k (I ++ [x]) from by rw [hR, hL, hag]; exact Agg.iv_push k I x)
  have HLI := Lib.hid hLI
  have HCO := Lib.hid hCO
  have hm60' : m < 60 := by omega
  clear hV hst hr hv hC hcan hk hit hag hok R hx hxb hlk hLI hCO hL hR hm60
  go_enter Tryz.func14, Tryz.ntmps14
  go_upto_region 1 with (fail)
  rw [← hW]
  clear hW
  go_wp2_with fail
  refine (HRO.out _).mono ?_
  rintro e w1 ⟨rfl, rfl⟩
  go_wp2_with fail
  refine (HV.out _ (HI0.out.below HJ.out.b)).mono ?_
  rintro e w1 ⟨rfl, hb1⟩
  have HJ := Lib.hid (HJ.out.call hb1)
  clear hb1 q0 q1 q2 q3 p0 p1
  obtain ⟨q0, q1, q2, q3⟩ := HJ.out.s.cells
  obtain ⟨p0, p1⟩ := HJ.out.o.cells
  go_wp2_with fail
  refine (HC.out _).mono ?_
  rintro e w2 ⟨rfl, hb2⟩
  have HJ := Lib.hid (HJ.out.call hb2)
  clear hb2 q0 q1 q2 q3 p0 p1
  obtain ⟨q0, q1, q2, q3⟩ := HJ.out.s.cells
  obtain ⟨p0, p1⟩ := HJ.out.o.cells
  go_wp2_with fail
  clear q0 q1 q2 q3 p0 p1
  refine wp_region_held_drew (S := (fun X => X.cell? ⟨w.heap.size + 1, 0, none⟩ = some (.bool true) ∧ X.cell? ⟨w.heap.size + 1, 1, none⟩ = some (.int .i64 x))) (by kernel_rfl) (by exact HJ.out.o.cells) (fun hHeld => ?_)
  first | (refine wpAnyH_take (i := 0) (v := ?_) rfl (by kernel_rfl) (by kernel_rfl) (by kernel_rfl) (fun _ _ _ h => h) (Or.inl ⟨by rfl, ?_⟩) (by assumption) ?_; rotate_left; (intro X hSw; (try dsimp only at hSw); go_simp; (try with_reducible rfl)); (try simp only [Act.put, List.setIfInBounds_toArray, List.set_cons_zero, List.set_cons_succ, List.getElem_toArray, List.getElem_cons_zero, List.getElem_cons_succ])) | fail "take 0"
  first | (refine wpAnyH_take (i := 1) (v := ?_) rfl (by kernel_rfl) (by kernel_rfl) (by kernel_rfl) (fun _ _ _ h => h) (Or.inl ⟨by rfl, ?_⟩) (by assumption) ?_; rotate_left; (intro X hSw; (try dsimp only at hSw); go_simp; (try with_reducible rfl)); (try simp only [Act.put, List.setIfInBounds_toArray, List.set_cons_zero, List.set_cons_succ, List.getElem_toArray, List.getElem_cons_zero, List.getElem_cons_succ])) | fail "take 1"
  first | (refine wpAnyH_take (i := 3) (v := ?_) rfl (by kernel_rfl) (by kernel_rfl) (by kernel_rfl) (fun _ _ _ h => h) (Or.inl ⟨by rfl, ?_⟩) (by assumption) ?_; rotate_left; (intro X hSw; (try dsimp only at hSw); go_simp; (try with_reducible rfl)); (try simp only [Act.put, List.setIfInBounds_toArray, List.set_cons_zero, List.set_cons_succ, List.getElem_toArray, List.getElem_cons_zero, List.getElem_cons_succ])) | fail "take 3"
  first | (refine wpAnyH_take (i := 4) (v := ?_) rfl (by kernel_rfl) (by kernel_rfl) (by kernel_rfl) (fun _ _ _ h => h) (Or.inl ⟨by rfl, ?_⟩) (by assumption) ?_; rotate_left; (intro X hSw; (try dsimp only at hSw); go_simp; (try with_reducible rfl)); (try simp only [Act.put, List.setIfInBounds_toArray, List.set_cons_zero, List.set_cons_succ, List.getElem_toArray, List.getElem_cons_zero, List.getElem_cons_succ])) | fail "take 4"
  first | (refine wpAnyH_take (i := 5) (v := ?_) rfl (by kernel_rfl) (by kernel_rfl) (by kernel_rfl) (fun _ _ _ h => h) (Or.inl ⟨by rfl, ?_⟩) (by assumption) ?_; rotate_left; (intro X hSw; (try dsimp only at hSw); go_simp; (try with_reducible rfl)); (try simp only [Act.put, List.setIfInBounds_toArray, List.set_cons_zero, List.set_cons_succ, List.getElem_toArray, List.getElem_cons_zero, List.getElem_cons_succ])) | fail "take 5"
  first | (refine wpAnyH_take (i := 7) (v := ?_) rfl (by kernel_rfl) (by kernel_rfl) (by kernel_rfl) (fun _ _ _ h => h) (Or.inl ⟨by rfl, ?_⟩) (by assumption) ?_; rotate_left; (intro X hSw; (try dsimp only at hSw); go_simp; (try with_reducible rfl)); (try simp only [Act.put, List.setIfInBounds_toArray, List.set_cons_zero, List.set_cons_succ, List.getElem_toArray, List.getElem_cons_zero, List.getElem_cons_succ])) | fail "take 7"
  first | (refine wpAnyH_take (i := 8) (v := ?_) rfl (by kernel_rfl) (by kernel_rfl) (by kernel_rfl) (fun _ _ _ h => h) (Or.inl ⟨by rfl, ?_⟩) (by assumption) ?_; rotate_left; (intro X hSw; (try dsimp only at hSw); go_simp; (try with_reducible rfl)); (try simp only [Act.put, List.setIfInBounds_toArray, List.set_cons_zero, List.set_cons_succ, List.getElem_toArray, List.getElem_cons_zero, List.getElem_cons_succ])) | fail "take 8"
  first | (refine wpAnyH_take (i := 9) (v := ?_) rfl (by kernel_rfl) (by kernel_rfl) (by kernel_rfl) (fun _ _ _ h => h) (Or.inl ⟨by rfl, ?_⟩) (by assumption) ?_; rotate_left; (intro X hSw; (try dsimp only at hSw); go_simp; (try with_reducible rfl)); (try simp only [Act.put, List.setIfInBounds_toArray, List.set_cons_zero, List.set_cons_succ, List.getElem_toArray, List.getElem_cons_zero, List.getElem_cons_succ])) | fail "take 9"
  refine wpAnyH_ready (rs := [2, 6]) (by kernel_rfl) (by simp) ?_
  refine AllReadyH.cons rfl (fun K hK => ?_) (AllReadyH.cons rfl (fun K hK => ?_) AllReadyH.nil)
  · obtain ⟨q0, q1, q2, q3⟩ := HJ.out.s.cells
    go_simp
    (try dsimp only)
    refine hK.out _ _ (by exact HJ.out.o.cells) (fun hHeld => ?_)
    clear hK K
    (try simp only [Act.put, List.setIfInBounds_toArray, List.set_cons_zero, List.set_cons_succ, List.getElem_toArray, List.getElem_cons_zero, List.getElem_cons_succ])
    clear q0 q1 q2 q3
    refine wpAnyH_ready (rs := [6]) (by kernel_rfl) (by simp) ?_
    refine AllReadyH.cons rfl (fun K hK => ?_) AllReadyH.nil
    go_simp
    refine (HLI.out _).mono ?_
    rintro e w3 ⟨rfl, hb⟩
    have HJ := Lib.hid (HJ.out.drew.call hb)
    clear hb
    (try dsimp only)
    refine hK.out _ _ (by exact HJ.out.o.cells) (fun hHeld => ?_)
    clear hK K
    (try simp only [Act.put, List.setIfInBounds_toArray, List.set_cons_zero, List.set_cons_succ, List.getElem_toArray, List.getElem_cons_zero, List.getElem_cons_succ])
    refine wpAnyH_ready (rs := [10]) (by kernel_rfl) (by simp) ?_
    refine AllReadyH.cons rfl (fun K hK => ?_) AllReadyH.nil
    go_simp
    refine (HCO.out _).mono ?_
    rintro e w4 ⟨rfl, hb⟩
    have HJ := Lib.hid (HJ.out.call hb)
    clear hb
    (try dsimp only)
    refine hK.out _ _ (by exact HJ.out.o.cells) (fun hHeld => ?_)
    clear hK K
    (try simp only [Act.put, List.setIfInBounds_toArray, List.set_cons_zero, List.set_cons_succ, List.getElem_toArray, List.getElem_cons_zero, List.getElem_cons_succ])
    first | (refine wpAnyH_take (i := 11) (v := ?_) rfl (by kernel_rfl) (by kernel_rfl) (by kernel_rfl) (fun _ _ _ h => h) (Or.inl ⟨by rfl, ?_⟩) (by assumption) ?_; rotate_left; (intro X hSw; (try dsimp only at hSw); go_simp; (try with_reducible rfl)); (try simp only [Act.put, List.setIfInBounds_toArray, List.set_cons_zero, List.set_cons_succ, List.getElem_toArray, List.getElem_cons_zero, List.getElem_cons_succ])) | fail "take 11"
    refine wpAnyH_ready (rs := [12]) (by kernel_rfl) (by simp) ?_
    refine AllReadyH.cons rfl (fun K hK => ?_) AllReadyH.nil
    obtain ⟨q0, q1, q2, q3⟩ := HJ.out.s.cells
    have f1 := HJ.out.s.free 1
    have f2 := HJ.out.s.free 2
    have f3 := HJ.out.s.free 3
    have HJ := Lib.hid (HJ.out.setAgg rx ry rz)
    go_simp
    (try dsimp only)
    refine hK.out _ _ (by exact HJ.out.o.cells) (fun hHeld => ?_)
    clear hK K
    (try simp only [Act.put, List.setIfInBounds_toArray, List.set_cons_zero, List.set_cons_succ, List.getElem_toArray, List.getElem_cons_zero, List.getElem_cons_succ])
    refine wpAnyH_done (by kernel_rfl) ?_ _
    clear q0 q1 q2 q3 f1 f2 f3
    obtain ⟨X5, hX5⟩ : ∃ X5, X5 = ((w4.setCell ⟨w.heap.size, 1, none⟩ (.int .i64 rx)).setCell ⟨w.heap.size, 2, none⟩ (.int .i64 ry)).setCell ⟨w.heap.size, 3, none⟩ (.int .i64 rz) := ⟨_, rfl⟩
    rw [← hX5] at HJ ⊢
    clear hX5
    obtain ⟨i0, hi0, hz0, hz1, hz2⟩ := info_parts infoInt
    go_wp2_with fail
    refine wp_region_held_drew (S := fun X => X.cell? ⟨w.heap.size + 1, 0, none⟩ = some (.bool true) ∧ X.cell? ⟨w.heap.size + 1, 1, none⟩ = some (.int .i64 x)) (by kernel_rfl) (by exact HJ.out.o.cells) (fun hHeld => ?_)
    have HJ0 := HJ
    have HJ := Lib.hid HJ.out.drew
    first | (refine wpAnyH_take (i := 0) (v := ?_) rfl (by kernel_rfl) (by kernel_rfl) (by kernel_rfl) (fun _ _ _ h => h) (Or.inl ⟨by rfl, ?_⟩) (by assumption) ?_; rotate_left; (intro X hSw; (try dsimp only at hSw); go_simp; (try with_reducible rfl)); (try simp only [Act.put, List.setIfInBounds_toArray, List.set_cons_zero, List.set_cons_succ, List.getElem_toArray, List.getElem_cons_zero, List.getElem_cons_succ])) | fail "take 0"
    first | (refine wpAnyH_take (i := 3) (v := ?_) rfl (by kernel_rfl) (by kernel_rfl) (by kernel_rfl) (fun _ _ _ h => h) (Or.inl ⟨by rfl, ?_⟩) (by assumption) ?_; rotate_left; (intro X hSw; (try dsimp only at hSw); go_simp; (try with_reducible rfl)); (try simp only [Act.put, List.setIfInBounds_toArray, List.set_cons_zero, List.set_cons_succ, List.getElem_toArray, List.getElem_cons_zero, List.getElem_cons_succ])) | fail "take 3"
    first | (refine wpAnyH_take (i := 4) (v := ?_) rfl (by kernel_rfl) (by kernel_rfl) (by kernel_rfl) (fun _ _ _ h => h) (Or.inl ⟨by rfl, ?_⟩) (by assumption) ?_; rotate_left; (intro X hSw; (try dsimp only at hSw); go_simp; (try with_reducible rfl)); (try simp only [Act.put, List.setIfInBounds_toArray, List.set_cons_zero, List.set_cons_succ, List.getElem_toArray, List.getElem_cons_zero, List.getElem_cons_succ])) | fail "take 4"
    refine wpAnyH_ready (rs := [1, 5]) (by kernel_rfl) (by simp) ?_
    refine AllReadyH.cons rfl (fun K hK => ?_) (AllReadyH.cons rfl (fun K hK => ?_) AllReadyH.nil)
    · obtain ⟨q0, q1, q2, q3⟩ := HJ.out.s.cells
      go_simp
      (try dsimp only)
      refine hK.out _ _ (by exact HJ.out.o.cells) (fun hHeld => ?_)
      clear hK K
      (try simp only [Act.put, List.setIfInBounds_toArray, List.set_cons_zero, List.set_cons_succ, List.getElem_toArray, List.getElem_cons_zero, List.getElem_cons_succ])
      clear q0 q1 q2 q3
      refine wpAnyH_ready (rs := [2, 5]) (by kernel_rfl) (by simp) ?_
      refine AllReadyH.cons rfl (fun K hK => ?_) (AllReadyH.cons rfl (fun K hK => ?_) AllReadyH.nil)
      · go_simp
        refine (clone_any ia m ic I _ (HI0.out.below HJ.out.b) (by omega)).mono ?_
        rintro e w6 ⟨v6, m6, rfl, ho6, hb6⟩
        obtain rfl : m6 = m := by have h := ho6.1; have := HIL.out; simp at h; omega
        obtain ⟨ja, jc, rfl⟩ := p_slice ho6
        have HO := Lib.hid (owns_lower ho6 HJ.out.lt)
        have HJ := Lib.hid (HJ.out.call hb6)
        clear hb6 ho6
        (try dsimp only)
        refine hK.out _ _ (by exact HJ.out.o.cells) (fun hHeld => ?_)
        clear hK K
        (try simp only [Act.put, List.setIfInBounds_toArray, List.set_cons_zero, List.set_cons_succ, List.getElem_toArray, List.getElem_cons_zero, List.getElem_cons_succ])
        refine wpAnyH_ready (rs := [5]) (by kernel_rfl) (by simp) ?_
        refine AllReadyH.cons rfl (fun K hK => ?_) AllReadyH.nil
        go_simp
        have hbl : Below w6.heap.size w6 (w6.alloc (.cells #[.int .i64 x] 3)) := (Below.refl _ _).alloc (Nat.le_refl _) _
        have HLIT := Lib.hid (cell_one_new w6 (.int .i64 x) 3)
        have HO := Lib.hid (HO.out.alloc (.cells #[.int .i64 x] 3))
        have HJ := Lib.hid (HJ.out.call hbl)
        clear hbl
        (try dsimp only)
        refine hK.out _ _ (by exact HJ.out.o.cells) (fun hHeld => ?_)
        clear hK K
        (try simp only [Act.put, List.setIfInBounds_toArray, List.set_cons_zero, List.set_cons_succ, List.getElem_toArray, List.getElem_cons_zero, List.getElem_cons_succ])
        refine wpAnyH_ready (rs := [6]) (by kernel_rfl) (by simp) ?_
        refine AllReadyH.cons rfl (fun K hK => ?_) AllReadyH.nil
        go_must (refine step_append_own (by rfl) (.tmp 48) (.tmp 51) 23 (by rfl) (w.heap.size + 3) 3 i0 (.int .i64 0) 1 8 Tryz.underlying23 hi0 hz0 hz1 hz2 rfl (by decide) (.slice ja m6 jc) m6 (I.map (Value.int .i64)) (by rfl) HO.out ⟨w6.heap.size, 0, none⟩ 1 1 [.int .i64 x] (by rfl) (by rfl) HLIT.out (ints_oneCell .i64 [x]) (by unfold maxLen; omega) (by omega) (by have := HJ.out.lt; omega) ?_)
        intro v7 w7 hown7 hgrow7 hnil7
        obtain ⟨ja7, jc7, rfl⟩ := p_slice hown7
        have HO7 := Lib.hid hown7
        have HJ := Lib.hid (HJ.out.grown hgrow7 (fun g hg => (HO.out.lt g hg).1))
        clear hown7 hgrow7 hnil7
        (try dsimp only)
        refine hK.out _ _ (by exact HJ.out.o.cells) (fun hHeld => ?_)
        clear hK K
        (try simp only [Act.put, List.setIfInBounds_toArray, List.set_cons_zero, List.set_cons_succ, List.getElem_toArray, List.getElem_cons_zero, List.getElem_cons_succ])
        first | (refine wpAnyH_take (i := 7) (v := ?_) rfl (by kernel_rfl) (by kernel_rfl) (by kernel_rfl) (fun _ _ _ h => h) (Or.inl ⟨by rfl, ?_⟩) (by assumption) ?_; rotate_left; (intro X hSw; (try dsimp only at hSw); go_simp; (try with_reducible rfl)); (try simp only [Act.put, List.setIfInBounds_toArray, List.set_cons_zero, List.set_cons_succ, List.getElem_toArray, List.getElem_cons_zero, List.getElem_cons_succ])) | fail "take 7"
        refine wpAnyH_ready (rs := [8]) (by kernel_rfl) (by simp) ?_
        refine AllReadyH.cons rfl (fun K hK => ?_) AllReadyH.nil
        obtain ⟨q0, q1, q2, q3⟩ := HJ.out.s.cells
        have f0 := HJ.out.s.free 0
        have HO8 := Lib.hid (own_setlow (d := w.heap.size) (o := 0) (u := .slice ja7 (m6 + 1) jc7) HO7.out (by omega))
        have HJ := Lib.hid (HJ.out.setItems (.slice ja7 (m6 + 1) jc7))
        go_simp
        (try dsimp only)
        refine hK.out _ _ (by exact HJ.out.o.cells) (fun hHeld => ?_)
        clear hK K
        (try simp only [Act.put, List.setIfInBounds_toArray, List.set_cons_zero, List.set_cons_succ, List.getElem_toArray, List.getElem_cons_zero, List.getElem_cons_succ])
        refine wpAnyH_done (by kernel_rfl) ?_ _
        obtain ⟨X8, hX8⟩ : ∃ X8, X8 = w7.setCell ⟨w.heap.size, 0, none⟩ (.slice ja7 (m6 + 1) jc7) := ⟨_, rfl⟩
        rw [← hX8] at HJ HO8 ⊢
        clear hX8 q0 q1 q2 q3 f0
        obtain ⟨q0, q1, q2, q3⟩ := HJ.out.s.cells
        obtain ⟨s0, s1, s2, s3⟩ := HJ.out.r.cells
        have e0 := HJ.out.r.free
        go_wp2_with fail
        refine bodyPost_ret (by simp [results, Tryz.results14, go_sem, *]; try rfl) rfl ?_
        have hil := HIL.out
        subst hil
        have hs : Agg.ivStep k I (true, x) = ⟨I ++ [x], ⟨rx, ry, rz⟩⟩ := by rw [HRES.out]; simp [Agg.ivStep, Agg.stepW]
        rw [hs]
        exact iv_out (s := ⟨I ++ [x], ⟨rx, ry, rz⟩⟩) HJ.out.b (by have := HO8.out; simpa using this) _ _ _ _
      · go_simp
        have hbl : Below X5.heap.size X5 (X5.alloc (.cells #[.int .i64 x] 3)).drew := ((Below.refl _ _).alloc (Nat.le_refl _) _).drew
        have hcx := cell_one_new X5 (.int .i64 x) 3
        have hbb := hbl.size
        obtain ⟨Y, hY⟩ : ∃ Y, Y = (X5.alloc (.cells #[.int .i64 x] 3)).drew := ⟨_, rfl⟩
        rw [← hY] at hbl hbb
        have hlX : X5.heap.size < Y.heap.size := by rw [hY]; simp [World.drew]
        have HLY := Lib.hid (show ∀ j u, ([Value.int .i64 x])[j]? = some u → Y.cell? ((⟨X5.heap.size, 0, none⟩ : Addr).add j) = some u from by rw [hY]; exact hcx)
        have HJ := Lib.hid (HJ0.out.call hbl)
        rw [← hY]
        clear hY hbl hbb hcx
        (try dsimp only)
        refine hK.out _ _ (by exact HJ.out.o.cells) (fun hHeld => ?_)
        clear hK K
        (try simp only [Act.put, List.setIfInBounds_toArray, List.set_cons_zero, List.set_cons_succ, List.getElem_toArray, List.getElem_cons_zero, List.getElem_cons_succ])
        refine wpAnyH_ready (rs := [2]) (by kernel_rfl) (by simp) ?_
        refine AllReadyH.cons rfl (fun K hK => ?_) AllReadyH.nil
        go_simp
        refine (clone_any ia m ic I _ (HI0.out.below HJ.out.b) (by omega)).mono ?_
        rintro e w6 ⟨v6, m6, rfl, ho6, hb6⟩
        obtain rfl : m6 = m := by have h := ho6.1; have := HIL.out; simp at h; omega
        obtain ⟨ja, jc, rfl⟩ := p_slice ho6
        have HO := Lib.hid (owns_lower ho6 HJ.out.lt)
        have HJ := Lib.hid (HJ.out.call hb6)
        have HLIT := Lib.hid (lit_kept HLY.out hb6 hlX)
        clear hb6 ho6
        (try dsimp only)
        refine hK.out _ _ (by exact HJ.out.o.cells) (fun hHeld => ?_)
        clear hK K
        (try simp only [Act.put, List.setIfInBounds_toArray, List.set_cons_zero, List.set_cons_succ, List.getElem_toArray, List.getElem_cons_zero, List.getElem_cons_succ])
        refine wpAnyH_ready (rs := [6]) (by kernel_rfl) (by simp) ?_
        refine AllReadyH.cons rfl (fun K hK => ?_) AllReadyH.nil
        go_must (refine step_append_own (by rfl) (.tmp 48) (.tmp 51) 23 (by rfl) (w.heap.size + 3) 3 i0 (.int .i64 0) 1 8 Tryz.underlying23 hi0 hz0 hz1 hz2 rfl (by decide) (.slice ja m6 jc) m6 (I.map (Value.int .i64)) (by rfl) HO.out ⟨X5.heap.size, 0, none⟩ 1 1 [.int .i64 x] (by rfl) (by rfl) HLIT.out (ints_oneCell .i64 [x]) (by unfold maxLen; omega) (by omega) (by have := HJ.out.lt; omega) ?_)
        intro v7 w7 hown7 hgrow7 hnil7
        obtain ⟨ja7, jc7, rfl⟩ := p_slice hown7
        have HO7 := Lib.hid hown7
        have HJ := Lib.hid (HJ.out.grown hgrow7 (fun g hg => (HO.out.lt g hg).1))
        clear hown7 hgrow7 hnil7
        (try dsimp only)
        refine hK.out _ _ (by exact HJ.out.o.cells) (fun hHeld => ?_)
        clear hK K
        (try simp only [Act.put, List.setIfInBounds_toArray, List.set_cons_zero, List.set_cons_succ, List.getElem_toArray, List.getElem_cons_zero, List.getElem_cons_succ])
        first | (refine wpAnyH_take (i := 7) (v := ?_) rfl (by kernel_rfl) (by kernel_rfl) (by kernel_rfl) (fun _ _ _ h => h) (Or.inl ⟨by rfl, ?_⟩) (by assumption) ?_; rotate_left; (intro X hSw; (try dsimp only at hSw); go_simp; (try with_reducible rfl)); (try simp only [Act.put, List.setIfInBounds_toArray, List.set_cons_zero, List.set_cons_succ, List.getElem_toArray, List.getElem_cons_zero, List.getElem_cons_succ])) | fail "take 7"
        refine wpAnyH_ready (rs := [8]) (by kernel_rfl) (by simp) ?_
        refine AllReadyH.cons rfl (fun K hK => ?_) AllReadyH.nil
        obtain ⟨q0, q1, q2, q3⟩ := HJ.out.s.cells
        have f0 := HJ.out.s.free 0
        have HO8 := Lib.hid (own_setlow (d := w.heap.size) (o := 0) (u := .slice ja7 (m6 + 1) jc7) HO7.out (by omega))
        have HJ := Lib.hid (HJ.out.setItems (.slice ja7 (m6 + 1) jc7))
        go_simp
        (try dsimp only)
        refine hK.out _ _ (by exact HJ.out.o.cells) (fun hHeld => ?_)
        clear hK K
        (try simp only [Act.put, List.setIfInBounds_toArray, List.set_cons_zero, List.set_cons_succ, List.getElem_toArray, List.getElem_cons_zero, List.getElem_cons_succ])
        refine wpAnyH_done (by kernel_rfl) ?_ _
        obtain ⟨X8, hX8⟩ : ∃ X8, X8 = w7.setCell ⟨w.heap.size, 0, none⟩ (.slice ja7 (m6 + 1) jc7) := ⟨_, rfl⟩
        rw [← hX8] at HJ HO8 ⊢
        clear hX8 q0 q1 q2 q3 f0
        obtain ⟨q0, q1, q2, q3⟩ := HJ.out.s.cells
        obtain ⟨s0, s1, s2, s3⟩ := HJ.out.r.cells
        have e0 := HJ.out.r.free
        go_wp2_with fail
        refine bodyPost_ret (by simp [results, Tryz.results14, go_sem, *]; try rfl) rfl ?_
        have hil := HIL.out
        subst hil
        have hs : Agg.ivStep k I (true, x) = ⟨I ++ [x], ⟨rx, ry, rz⟩⟩ := by rw [HRES.out]; simp [Agg.ivStep, Agg.stepW]
        rw [hs]
        exact iv_out (s := ⟨I ++ [x], ⟨rx, ry, rz⟩⟩) HJ.out.b (by have := HO8.out; simpa using this) _ _ _ _
    · go_simp
      have hbl : Below X5.heap.size X5 (X5.alloc (.cells #[.int .i64 x] 3)).drew := ((Below.refl _ _).alloc (Nat.le_refl _) _).drew
      have hcx := cell_one_new X5 (.int .i64 x) 3
      have hbb := hbl.size
      obtain ⟨Y, hY⟩ : ∃ Y, Y = (X5.alloc (.cells #[.int .i64 x] 3)).drew := ⟨_, rfl⟩
      rw [← hY] at hbl hbb
      have hlX : X5.heap.size < Y.heap.size := by rw [hY]; simp [World.drew]
      have HLY := Lib.hid (show ∀ j u, ([Value.int .i64 x])[j]? = some u → Y.cell? ((⟨X5.heap.size, 0, none⟩ : Addr).add j) = some u from by rw [hY]; exact hcx)
      have HJ := Lib.hid (HJ0.out.call hbl)
      rw [← hY]
      clear hY hbl hbb hcx
      (try dsimp only)
      refine hK.out _ _ (by exact HJ.out.o.cells) (fun hHeld => ?_)
      clear hK K
      (try simp only [Act.put, List.setIfInBounds_toArray, List.set_cons_zero, List.set_cons_succ, List.getElem_toArray, List.getElem_cons_zero, List.getElem_cons_succ])
      refine wpAnyH_ready (rs := [1]) (by kernel_rfl) (by simp) ?_
      refine AllReadyH.cons rfl (fun K hK => ?_) AllReadyH.nil
      obtain ⟨q0, q1, q2, q3⟩ := HJ.out.s.cells
      go_simp
      (try dsimp only)
      refine hK.out _ _ (by exact HJ.out.o.cells) (fun hHeld => ?_)
      clear hK K
      (try simp only [Act.put, List.setIfInBounds_toArray, List.set_cons_zero, List.set_cons_succ, List.getElem_toArray, List.getElem_cons_zero, List.getElem_cons_succ])
      clear q0 q1 q2 q3
      refine wpAnyH_ready (rs := [2]) (by kernel_rfl) (by simp) ?_
      refine AllReadyH.cons rfl (fun K hK => ?_) AllReadyH.nil
      go_simp
      refine (clone_any ia m ic I _ (HI0.out.below HJ.out.b) (by omega)).mono ?_
      rintro e w6 ⟨v6, m6, rfl, ho6, hb6⟩
      obtain rfl : m6 = m := by have h := ho6.1; have := HIL.out; simp at h; omega
      obtain ⟨ja, jc, rfl⟩ := p_slice ho6
      have HO := Lib.hid (owns_lower ho6 HJ.out.lt)
      have HJ := Lib.hid (HJ.out.call hb6)
      have HLIT := Lib.hid (lit_kept HLY.out hb6 hlX)
      clear hb6 ho6
      (try dsimp only)
      refine hK.out _ _ (by exact HJ.out.o.cells) (fun hHeld => ?_)
      clear hK K
      (try simp only [Act.put, List.setIfInBounds_toArray, List.set_cons_zero, List.set_cons_succ, List.getElem_toArray, List.getElem_cons_zero, List.getElem_cons_succ])
      refine wpAnyH_ready (rs := [6]) (by kernel_rfl) (by simp) ?_
      refine AllReadyH.cons rfl (fun K hK => ?_) AllReadyH.nil
      go_must (refine step_append_own (by rfl) (.tmp 48) (.tmp 51) 23 (by rfl) (w.heap.size + 3) 3 i0 (.int .i64 0) 1 8 Tryz.underlying23 hi0 hz0 hz1 hz2 rfl (by decide) (.slice ja m6 jc) m6 (I.map (Value.int .i64)) (by rfl) HO.out ⟨X5.heap.size, 0, none⟩ 1 1 [.int .i64 x] (by rfl) (by rfl) HLIT.out (ints_oneCell .i64 [x]) (by unfold maxLen; omega) (by omega) (by have := HJ.out.lt; omega) ?_)
      intro v7 w7 hown7 hgrow7 hnil7
      obtain ⟨ja7, jc7, rfl⟩ := p_slice hown7
      have HO7 := Lib.hid hown7
      have HJ := Lib.hid (HJ.out.grown hgrow7 (fun g hg => (HO.out.lt g hg).1))
      clear hown7 hgrow7 hnil7
      (try dsimp only)
      refine hK.out _ _ (by exact HJ.out.o.cells) (fun hHeld => ?_)
      clear hK K
      (try simp only [Act.put, List.setIfInBounds_toArray, List.set_cons_zero, List.set_cons_succ, List.getElem_toArray, List.getElem_cons_zero, List.getElem_cons_succ])
      first | (refine wpAnyH_take (i := 7) (v := ?_) rfl (by kernel_rfl) (by kernel_rfl) (by kernel_rfl) (fun _ _ _ h => h) (Or.inl ⟨by rfl, ?_⟩) (by assumption) ?_; rotate_left; (intro X hSw; (try dsimp only at hSw); go_simp; (try with_reducible rfl)); (try simp only [Act.put, List.setIfInBounds_toArray, List.set_cons_zero, List.set_cons_succ, List.getElem_toArray, List.getElem_cons_zero, List.getElem_cons_succ])) | fail "take 7"
      refine wpAnyH_ready (rs := [8]) (by kernel_rfl) (by simp) ?_
      refine AllReadyH.cons rfl (fun K hK => ?_) AllReadyH.nil
      obtain ⟨q0, q1, q2, q3⟩ := HJ.out.s.cells
      have f0 := HJ.out.s.free 0
      have HO8 := Lib.hid (own_setlow (d := w.heap.size) (o := 0) (u := .slice ja7 (m6 + 1) jc7) HO7.out (by omega))
      have HJ := Lib.hid (HJ.out.setItems (.slice ja7 (m6 + 1) jc7))
      go_simp
      (try dsimp only)
      refine hK.out _ _ (by exact HJ.out.o.cells) (fun hHeld => ?_)
      clear hK K
      (try simp only [Act.put, List.setIfInBounds_toArray, List.set_cons_zero, List.set_cons_succ, List.getElem_toArray, List.getElem_cons_zero, List.getElem_cons_succ])
      refine wpAnyH_done (by kernel_rfl) ?_ _
      obtain ⟨X8, hX8⟩ : ∃ X8, X8 = w7.setCell ⟨w.heap.size, 0, none⟩ (.slice ja7 (m6 + 1) jc7) := ⟨_, rfl⟩
      rw [← hX8] at HJ HO8 ⊢
      clear hX8 q0 q1 q2 q3 f0
      obtain ⟨q0, q1, q2, q3⟩ := HJ.out.s.cells
      obtain ⟨s0, s1, s2, s3⟩ := HJ.out.r.cells
      have e0 := HJ.out.r.free
      go_wp2_with fail
      refine bodyPost_ret (by simp [results, Tryz.results14, go_sem, *]; try rfl) rfl ?_
      have hil := HIL.out
      subst hil
      have hs : Agg.ivStep k I (true, x) = ⟨I ++ [x], ⟨rx, ry, rz⟩⟩ := by rw [HRES.out]; simp [Agg.ivStep, Agg.stepW]
      rw [hs]
      exact iv_out (s := ⟨I ++ [x], ⟨rx, ry, rz⟩⟩) HJ.out.b (by have := HO8.out; simpa using this) _ _ _ _
  · go_simp
    refine (HLI.out _).mono ?_
    rintro e w3 ⟨rfl, hb⟩
    have HJ := Lib.hid (HJ.out.drew.call hb)
    clear hb
    (try dsimp only)
    refine hK.out _ _ (by exact HJ.out.o.cells) (fun hHeld => ?_)
    clear hK K
    (try simp only [Act.put, List.setIfInBounds_toArray, List.set_cons_zero, List.set_cons_succ, List.getElem_toArray, List.getElem_cons_zero, List.getElem_cons_succ])
    refine wpAnyH_ready (rs := [2]) (by kernel_rfl) (by simp) ?_
    refine AllReadyH.cons rfl (fun K hK => ?_) AllReadyH.nil
    obtain ⟨q0, q1, q2, q3⟩ := HJ.out.s.cells
    go_simp
    (try dsimp only)
    refine hK.out _ _ (by exact HJ.out.o.cells) (fun hHeld => ?_)
    clear hK K
    (try simp only [Act.put, List.setIfInBounds_toArray, List.set_cons_zero, List.set_cons_succ, List.getElem_toArray, List.getElem_cons_zero, List.getElem_cons_succ])
    clear q0 q1 q2 q3
    refine wpAnyH_ready (rs := [10]) (by kernel_rfl) (by simp) ?_
    refine AllReadyH.cons rfl (fun K hK => ?_) AllReadyH.nil
    go_simp
    refine (HCO.out _).mono ?_
    rintro e w4 ⟨rfl, hb⟩
    have HJ := Lib.hid (HJ.out.call hb)
    clear hb
    (try dsimp only)
    refine hK.out _ _ (by exact HJ.out.o.cells) (fun hHeld => ?_)
    clear hK K
    (try simp only [Act.put, List.setIfInBounds_toArray, List.set_cons_zero, List.set_cons_succ, List.getElem_toArray, List.getElem_cons_zero, List.getElem_cons_succ])
    first | (refine wpAnyH_take (i := 11) (v := ?_) rfl (by kernel_rfl) (by kernel_rfl) (by kernel_rfl) (fun _ _ _ h => h) (Or.inl ⟨by rfl, ?_⟩) (by assumption) ?_; rotate_left; (intro X hSw; (try dsimp only at hSw); go_simp; (try with_reducible rfl)); (try simp only [Act.put, List.setIfInBounds_toArray, List.set_cons_zero, List.set_cons_succ, List.getElem_toArray, List.getElem_cons_zero, List.getElem_cons_succ])) | fail "take 11"
    refine wpAnyH_ready (rs := [12]) (by kernel_rfl) (by simp) ?_
    refine AllReadyH.cons rfl (fun K hK => ?_) AllReadyH.nil
    obtain ⟨q0, q1, q2, q3⟩ := HJ.out.s.cells
    have f1 := HJ.out.s.free 1
    have f2 := HJ.out.s.free 2
    have f3 := HJ.out.s.free 3
    have HJ := Lib.hid (HJ.out.setAgg rx ry rz)
    go_simp
    (try dsimp only)
    refine hK.out _ _ (by exact HJ.out.o.cells) (fun hHeld => ?_)
    clear hK K
    (try simp only [Act.put, List.setIfInBounds_toArray, List.set_cons_zero, List.set_cons_succ, List.getElem_toArray, List.getElem_cons_zero, List.getElem_cons_succ])
    refine wpAnyH_done (by kernel_rfl) ?_ _
    clear q0 q1 q2 q3 f1 f2 f3
    obtain ⟨X5, hX5⟩ : ∃ X5, X5 = ((w4.setCell ⟨w.heap.size, 1, none⟩ (.int .i64 rx)).setCell ⟨w.heap.size, 2, none⟩ (.int .i64 ry)).setCell ⟨w.heap.size, 3, none⟩ (.int .i64 rz) := ⟨_, rfl⟩
    rw [← hX5] at HJ ⊢
    clear hX5
    obtain ⟨i0, hi0, hz0, hz1, hz2⟩ := info_parts infoInt
    go_wp2_with fail
    refine wp_region_held_drew (S := fun X => X.cell? ⟨w.heap.size + 1, 0, none⟩ = some (.bool true) ∧ X.cell? ⟨w.heap.size + 1, 1, none⟩ = some (.int .i64 x)) (by kernel_rfl) (by exact HJ.out.o.cells) (fun hHeld => ?_)
    have HJ0 := HJ
    have HJ := Lib.hid HJ.out.drew
    first | (refine wpAnyH_take (i := 0) (v := ?_) rfl (by kernel_rfl) (by kernel_rfl) (by kernel_rfl) (fun _ _ _ h => h) (Or.inl ⟨by rfl, ?_⟩) (by assumption) ?_; rotate_left; (intro X hSw; (try dsimp only at hSw); go_simp; (try with_reducible rfl)); (try simp only [Act.put, List.setIfInBounds_toArray, List.set_cons_zero, List.set_cons_succ, List.getElem_toArray, List.getElem_cons_zero, List.getElem_cons_succ])) | fail "take 0"
    first | (refine wpAnyH_take (i := 3) (v := ?_) rfl (by kernel_rfl) (by kernel_rfl) (by kernel_rfl) (fun _ _ _ h => h) (Or.inl ⟨by rfl, ?_⟩) (by assumption) ?_; rotate_left; (intro X hSw; (try dsimp only at hSw); go_simp; (try with_reducible rfl)); (try simp only [Act.put, List.setIfInBounds_toArray, List.set_cons_zero, List.set_cons_succ, List.getElem_toArray, List.getElem_cons_zero, List.getElem_cons_succ])) | fail "take 3"
    first | (refine wpAnyH_take (i := 4) (v := ?_) rfl (by kernel_rfl) (by kernel_rfl) (by kernel_rfl) (fun _ _ _ h => h) (Or.inl ⟨by rfl, ?_⟩) (by assumption) ?_; rotate_left; (intro X hSw; (try dsimp only at hSw); go_simp; (try with_reducible rfl)); (try simp only [Act.put, List.setIfInBounds_toArray, List.set_cons_zero, List.set_cons_succ, List.getElem_toArray, List.getElem_cons_zero, List.getElem_cons_succ])) | fail "take 4"
    refine wpAnyH_ready (rs := [1, 5]) (by kernel_rfl) (by simp) ?_
    refine AllReadyH.cons rfl (fun K hK => ?_) (AllReadyH.cons rfl (fun K hK => ?_) AllReadyH.nil)
    · obtain ⟨q0, q1, q2, q3⟩ := HJ.out.s.cells
      go_simp
      (try dsimp only)
      refine hK.out _ _ (by exact HJ.out.o.cells) (fun hHeld => ?_)
      clear hK K
      (try simp only [Act.put, List.setIfInBounds_toArray, List.set_cons_zero, List.set_cons_succ, List.getElem_toArray, List.getElem_cons_zero, List.getElem_cons_succ])
      clear q0 q1 q2 q3
      refine wpAnyH_ready (rs := [2, 5]) (by kernel_rfl) (by simp) ?_
      refine AllReadyH.cons rfl (fun K hK => ?_) (AllReadyH.cons rfl (fun K hK => ?_) AllReadyH.nil)
      · go_simp
        refine (clone_any ia m ic I _ (HI0.out.below HJ.out.b) (by omega)).mono ?_
        rintro e w6 ⟨v6, m6, rfl, ho6, hb6⟩
        obtain rfl : m6 = m := by have h := ho6.1; have := HIL.out; simp at h; omega
        obtain ⟨ja, jc, rfl⟩ := p_slice ho6
        have HO := Lib.hid (owns_lower ho6 HJ.out.lt)
        have HJ := Lib.hid (HJ.out.call hb6)
        clear hb6 ho6
        (try dsimp only)
        refine hK.out _ _ (by exact HJ.out.o.cells) (fun hHeld => ?_)
        clear hK K
        (try simp only [Act.put, List.setIfInBounds_toArray, List.set_cons_zero, List.set_cons_succ, List.getElem_toArray, List.getElem_cons_zero, List.getElem_cons_succ])
        refine wpAnyH_ready (rs := [5]) (by kernel_rfl) (by simp) ?_
        refine AllReadyH.cons rfl (fun K hK => ?_) AllReadyH.nil
        go_simp
        have hbl : Below w6.heap.size w6 (w6.alloc (.cells #[.int .i64 x] 3)) := (Below.refl _ _).alloc (Nat.le_refl _) _
        have HLIT := Lib.hid (cell_one_new w6 (.int .i64 x) 3)
        have HO := Lib.hid (HO.out.alloc (.cells #[.int .i64 x] 3))
        have HJ := Lib.hid (HJ.out.call hbl)
        clear hbl
        (try dsimp only)
        refine hK.out _ _ (by exact HJ.out.o.cells) (fun hHeld => ?_)
        clear hK K
        (try simp only [Act.put, List.setIfInBounds_toArray, List.set_cons_zero, List.set_cons_succ, List.getElem_toArray, List.getElem_cons_zero, List.getElem_cons_succ])
        refine wpAnyH_ready (rs := [6]) (by kernel_rfl) (by simp) ?_
        refine AllReadyH.cons rfl (fun K hK => ?_) AllReadyH.nil
        go_must (refine step_append_own (by rfl) (.tmp 48) (.tmp 51) 23 (by rfl) (w.heap.size + 3) 3 i0 (.int .i64 0) 1 8 Tryz.underlying23 hi0 hz0 hz1 hz2 rfl (by decide) (.slice ja m6 jc) m6 (I.map (Value.int .i64)) (by rfl) HO.out ⟨w6.heap.size, 0, none⟩ 1 1 [.int .i64 x] (by rfl) (by rfl) HLIT.out (ints_oneCell .i64 [x]) (by unfold maxLen; omega) (by omega) (by have := HJ.out.lt; omega) ?_)
        intro v7 w7 hown7 hgrow7 hnil7
        obtain ⟨ja7, jc7, rfl⟩ := p_slice hown7
        have HO7 := Lib.hid hown7
        have HJ := Lib.hid (HJ.out.grown hgrow7 (fun g hg => (HO.out.lt g hg).1))
        clear hown7 hgrow7 hnil7
        (try dsimp only)
        refine hK.out _ _ (by exact HJ.out.o.cells) (fun hHeld => ?_)
        clear hK K
        (try simp only [Act.put, List.setIfInBounds_toArray, List.set_cons_zero, List.set_cons_succ, List.getElem_toArray, List.getElem_cons_zero, List.getElem_cons_succ])
        first | (refine wpAnyH_take (i := 7) (v := ?_) rfl (by kernel_rfl) (by kernel_rfl) (by kernel_rfl) (fun _ _ _ h => h) (Or.inl ⟨by rfl, ?_⟩) (by assumption) ?_; rotate_left; (intro X hSw; (try dsimp only at hSw); go_simp; (try with_reducible rfl)); (try simp only [Act.put, List.setIfInBounds_toArray, List.set_cons_zero, List.set_cons_succ, List.getElem_toArray, List.getElem_cons_zero, List.getElem_cons_succ])) | fail "take 7"
        refine wpAnyH_ready (rs := [8]) (by kernel_rfl) (by simp) ?_
        refine AllReadyH.cons rfl (fun K hK => ?_) AllReadyH.nil
        obtain ⟨q0, q1, q2, q3⟩ := HJ.out.s.cells
        have f0 := HJ.out.s.free 0
        have HO8 := Lib.hid (own_setlow (d := w.heap.size) (o := 0) (u := .slice ja7 (m6 + 1) jc7) HO7.out (by omega))
        have HJ := Lib.hid (HJ.out.setItems (.slice ja7 (m6 + 1) jc7))
        go_simp
        (try dsimp only)
        refine hK.out _ _ (by exact HJ.out.o.cells) (fun hHeld => ?_)
        clear hK K
        (try simp only [Act.put, List.setIfInBounds_toArray, List.set_cons_zero, List.set_cons_succ, List.getElem_toArray, List.getElem_cons_zero, List.getElem_cons_succ])
        refine wpAnyH_done (by kernel_rfl) ?_ _
        obtain ⟨X8, hX8⟩ : ∃ X8, X8 = w7.setCell ⟨w.heap.size, 0, none⟩ (.slice ja7 (m6 + 1) jc7) := ⟨_, rfl⟩
        rw [← hX8] at HJ HO8 ⊢
        clear hX8 q0 q1 q2 q3 f0
        obtain ⟨q0, q1, q2, q3⟩ := HJ.out.s.cells
        obtain ⟨s0, s1, s2, s3⟩ := HJ.out.r.cells
        have e0 := HJ.out.r.free
        go_wp2_with fail
        refine bodyPost_ret (by simp [results, Tryz.results14, go_sem, *]; try rfl) rfl ?_
        have hil := HIL.out
        subst hil
        have hs : Agg.ivStep k I (true, x) = ⟨I ++ [x], ⟨rx, ry, rz⟩⟩ := by rw [HRES.out]; simp [Agg.ivStep, Agg.stepW]
        rw [hs]
        exact iv_out (s := ⟨I ++ [x], ⟨rx, ry, rz⟩⟩) HJ.out.b (by have := HO8.out; simpa using this) _ _ _ _
      · go_simp
        have hbl : Below X5.heap.size X5 (X5.alloc (.cells #[.int .i64 x] 3)).drew := ((Below.refl _ _).alloc (Nat.le_refl _) _).drew
        have hcx := cell_one_new X5 (.int .i64 x) 3
        have hbb := hbl.size
        obtain ⟨Y, hY⟩ : ∃ Y, Y = (X5.alloc (.cells #[.int .i64 x] 3)).drew := ⟨_, rfl⟩
        rw [← hY] at hbl hbb
        have hlX : X5.heap.size < Y.heap.size := by rw [hY]; simp [World.drew]
        have HLY := Lib.hid (show ∀ j u, ([Value.int .i64 x])[j]? = some u → Y.cell? ((⟨X5.heap.size, 0, none⟩ : Addr).add j) = some u from by rw [hY]; exact hcx)
        have HJ := Lib.hid (HJ0.out.call hbl)
        rw [← hY]
        clear hY hbl hbb hcx
        (try dsimp only)
        refine hK.out _ _ (by exact HJ.out.o.cells) (fun hHeld => ?_)
        clear hK K
        (try simp only [Act.put, List.setIfInBounds_toArray, List.set_cons_zero, List.set_cons_succ, List.getElem_toArray, List.getElem_cons_zero, List.getElem_cons_succ])
        refine wpAnyH_ready (rs := [2]) (by kernel_rfl) (by simp) ?_
        refine AllReadyH.cons rfl (fun K hK => ?_) AllReadyH.nil
        go_simp
        refine (clone_any ia m ic I _ (HI0.out.below HJ.out.b) (by omega)).mono ?_
        rintro e w6 ⟨v6, m6, rfl, ho6, hb6⟩
        obtain rfl : m6 = m := by have h := ho6.1; have := HIL.out; simp at h; omega
        obtain ⟨ja, jc, rfl⟩ := p_slice ho6
        have HO := Lib.hid (owns_lower ho6 HJ.out.lt)
        have HJ := Lib.hid (HJ.out.call hb6)
        have HLIT := Lib.hid (lit_kept HLY.out hb6 hlX)
        clear hb6 ho6
        (try dsimp only)
        refine hK.out _ _ (by exact HJ.out.o.cells) (fun hHeld => ?_)
        clear hK K
        (try simp only [Act.put, List.setIfInBounds_toArray, List.set_cons_zero, List.set_cons_succ, List.getElem_toArray, List.getElem_cons_zero, List.getElem_cons_succ])
        refine wpAnyH_ready (rs := [6]) (by kernel_rfl) (by simp) ?_
        refine AllReadyH.cons rfl (fun K hK => ?_) AllReadyH.nil
        go_must (refine step_append_own (by rfl) (.tmp 48) (.tmp 51) 23 (by rfl) (w.heap.size + 3) 3 i0 (.int .i64 0) 1 8 Tryz.underlying23 hi0 hz0 hz1 hz2 rfl (by decide) (.slice ja m6 jc) m6 (I.map (Value.int .i64)) (by rfl) HO.out ⟨X5.heap.size, 0, none⟩ 1 1 [.int .i64 x] (by rfl) (by rfl) HLIT.out (ints_oneCell .i64 [x]) (by unfold maxLen; omega) (by omega) (by have := HJ.out.lt; omega) ?_)
        intro v7 w7 hown7 hgrow7 hnil7
        obtain ⟨ja7, jc7, rfl⟩ := p_slice hown7
        have HO7 := Lib.hid hown7
        have HJ := Lib.hid (HJ.out.grown hgrow7 (fun g hg => (HO.out.lt g hg).1))
        clear hown7 hgrow7 hnil7
        (try dsimp only)
        refine hK.out _ _ (by exact HJ.out.o.cells) (fun hHeld => ?_)
        clear hK K
        (try simp only [Act.put, List.setIfInBounds_toArray, List.set_cons_zero, List.set_cons_succ, List.getElem_toArray, List.getElem_cons_zero, List.getElem_cons_succ])
        first | (refine wpAnyH_take (i := 7) (v := ?_) rfl (by kernel_rfl) (by kernel_rfl) (by kernel_rfl) (fun _ _ _ h => h) (Or.inl ⟨by rfl, ?_⟩) (by assumption) ?_; rotate_left; (intro X hSw; (try dsimp only at hSw); go_simp; (try with_reducible rfl)); (try simp only [Act.put, List.setIfInBounds_toArray, List.set_cons_zero, List.set_cons_succ, List.getElem_toArray, List.getElem_cons_zero, List.getElem_cons_succ])) | fail "take 7"
        refine wpAnyH_ready (rs := [8]) (by kernel_rfl) (by simp) ?_
        refine AllReadyH.cons rfl (fun K hK => ?_) AllReadyH.nil
        obtain ⟨q0, q1, q2, q3⟩ := HJ.out.s.cells
        have f0 := HJ.out.s.free 0
        have HO8 := Lib.hid (own_setlow (d := w.heap.size) (o := 0) (u := .slice ja7 (m6 + 1) jc7) HO7.out (by omega))
        have HJ := Lib.hid (HJ.out.setItems (.slice ja7 (m6 + 1) jc7))
        go_simp
        (try dsimp only)
        refine hK.out _ _ (by exact HJ.out.o.cells) (fun hHeld => ?_)
        clear hK K
        (try simp only [Act.put, List.setIfInBounds_toArray, List.set_cons_zero, List.set_cons_succ, List.getElem_toArray, List.getElem_cons_zero, List.getElem_cons_succ])
        refine wpAnyH_done (by kernel_rfl) ?_ _
        obtain ⟨X8, hX8⟩ : ∃ X8, X8 = w7.setCell ⟨w.heap.size, 0, none⟩ (.slice ja7 (m6 + 1) jc7) := ⟨_, rfl⟩
        rw [← hX8] at HJ HO8 ⊢
        clear hX8 q0 q1 q2 q3 f0
        obtain ⟨q0, q1, q2, q3⟩ := HJ.out.s.cells
        obtain ⟨s0, s1, s2, s3⟩ := HJ.out.r.cells
        have e0 := HJ.out.r.free
        go_wp2_with fail
        refine bodyPost_ret (by simp [results, Tryz.results14, go_sem, *]; try rfl) rfl ?_
        have hil := HIL.out
        subst hil
        have hs : Agg.ivStep k I (true, x) = ⟨I ++ [x], ⟨rx, ry, rz⟩⟩ := by rw [HRES.out]; simp [Agg.ivStep, Agg.stepW]
        rw [hs]
        exact iv_out (s := ⟨I ++ [x], ⟨rx, ry, rz⟩⟩) HJ.out.b (by have := HO8.out; simpa using this) _ _ _ _
    · go_simp
      have hbl : Below X5.heap.size X5 (X5.alloc (.cells #[.int .i64 x] 3)).drew := ((Below.refl _ _).alloc (Nat.le_refl _) _).drew
      have hcx := cell_one_new X5 (.int .i64 x) 3
      have hbb := hbl.size
      obtain ⟨Y, hY⟩ : ∃ Y, Y = (X5.alloc (.cells #[.int .i64 x] 3)).drew := ⟨_, rfl⟩
      rw [← hY] at hbl hbb
      have hlX : X5.heap.size < Y.heap.size := by rw [hY]; simp [World.drew]
      have HLY := Lib.hid (show ∀ j u, ([Value.int .i64 x])[j]? = some u → Y.cell? ((⟨X5.heap.size, 0, none⟩ : Addr).add j) = some u from by rw [hY]; exact hcx)
      have HJ := Lib.hid (HJ0.out.call hbl)
      rw [← hY]
      clear hY hbl hbb hcx
      (try dsimp only)
      refine hK.out _ _ (by exact HJ.out.o.cells) (fun hHeld => ?_)
      clear hK K
      (try simp only [Act.put, List.setIfInBounds_toArray, List.set_cons_zero, List.set_cons_succ, List.getElem_toArray, List.getElem_cons_zero, List.getElem_cons_succ])
      refine wpAnyH_ready (rs := [1]) (by kernel_rfl) (by simp) ?_
      refine AllReadyH.cons rfl (fun K hK => ?_) AllReadyH.nil
      obtain ⟨q0, q1, q2, q3⟩ := HJ.out.s.cells
      go_simp
      (try dsimp only)
      refine hK.out _ _ (by exact HJ.out.o.cells) (fun hHeld => ?_)
      clear hK K
      (try simp only [Act.put, List.setIfInBounds_toArray, List.set_cons_zero, List.set_cons_succ, List.getElem_toArray, List.getElem_cons_zero, List.getElem_cons_succ])
      clear q0 q1 q2 q3
      refine wpAnyH_ready (rs := [2]) (by kernel_rfl) (by simp) ?_
      refine AllReadyH.cons rfl (fun K hK => ?_) AllReadyH.nil
      go_simp
      refine (clone_any ia m ic I _ (HI0.out.below HJ.out.b) (by omega)).mono ?_
      rintro e w6 ⟨v6, m6, rfl, ho6, hb6⟩
      obtain rfl : m6 = m := by have h := ho6.1; have := HIL.out; simp at h; omega
      obtain ⟨ja, jc, rfl⟩ := p_slice ho6
      have HO := Lib.hid (owns_lower ho6 HJ.out.lt)
      have HJ := Lib.hid (HJ.out.call hb6)
      have HLIT := Lib.hid (lit_kept HLY.out hb6 hlX)
      clear hb6 ho6
      (try dsimp only)
      refine hK.out _ _ (by exact HJ.out.o.cells) (fun hHeld => ?_)
      clear hK K
      (try simp only [Act.put, List.setIfInBounds_toArray, List.set_cons_zero, List.set_cons_succ, List.getElem_toArray, List.getElem_cons_zero, List.getElem_cons_succ])
      refine wpAnyH_ready (rs := [6]) (by kernel_rfl) (by simp) ?_
      refine AllReadyH.cons rfl (fun K hK => ?_) AllReadyH.nil
      go_must (refine step_append_own (by rfl) (.tmp 48) (.tmp 51) 23 (by rfl) (w.heap.size + 3) 3 i0 (.int .i64 0) 1 8 Tryz.underlying23 hi0 hz0 hz1 hz2 rfl (by decide) (.slice ja m6 jc) m6 (I.map (Value.int .i64)) (by rfl) HO.out ⟨X5.heap.size, 0, none⟩ 1 1 [.int .i64 x] (by rfl) (by rfl) HLIT.out (ints_oneCell .i64 [x]) (by unfold maxLen; omega) (by omega) (by have := HJ.out.lt; omega) ?_)
      intro v7 w7 hown7 hgrow7 hnil7
      obtain ⟨ja7, jc7, rfl⟩ := p_slice hown7
      have HO7 := Lib.hid hown7
      have HJ := Lib.hid (HJ.out.grown hgrow7 (fun g hg => (HO.out.lt g hg).1))
      clear hown7 hgrow7 hnil7
      (try dsimp only)
      refine hK.out _ _ (by exact HJ.out.o.cells) (fun hHeld => ?_)
      clear hK K
      (try simp only [Act.put, List.setIfInBounds_toArray, List.set_cons_zero, List.set_cons_succ, List.getElem_toArray, List.getElem_cons_zero, List.getElem_cons_succ])
      first | (refine wpAnyH_take (i := 7) (v := ?_) rfl (by kernel_rfl) (by kernel_rfl) (by kernel_rfl) (fun _ _ _ h => h) (Or.inl ⟨by rfl, ?_⟩) (by assumption) ?_; rotate_left; (intro X hSw; (try dsimp only at hSw); go_simp; (try with_reducible rfl)); (try simp only [Act.put, List.setIfInBounds_toArray, List.set_cons_zero, List.set_cons_succ, List.getElem_toArray, List.getElem_cons_zero, List.getElem_cons_succ])) | fail "take 7"
      refine wpAnyH_ready (rs := [8]) (by kernel_rfl) (by simp) ?_
      refine AllReadyH.cons rfl (fun K hK => ?_) AllReadyH.nil
      obtain ⟨q0, q1, q2, q3⟩ := HJ.out.s.cells
      have f0 := HJ.out.s.free 0
      have HO8 := Lib.hid (own_setlow (d := w.heap.size) (o := 0) (u := .slice ja7 (m6 + 1) jc7) HO7.out (by omega))
      have HJ := Lib.hid (HJ.out.setItems (.slice ja7 (m6 + 1) jc7))
      go_simp
      (try dsimp only)
      refine hK.out _ _ (by exact HJ.out.o.cells) (fun hHeld => ?_)
      clear hK K
      (try simp only [Act.put, List.setIfInBounds_toArray, List.set_cons_zero, List.set_cons_succ, List.getElem_toArray, List.getElem_cons_zero, List.getElem_cons_succ])
      refine wpAnyH_done (by kernel_rfl) ?_ _
      obtain ⟨X8, hX8⟩ : ∃ X8, X8 = w7.setCell ⟨w.heap.size, 0, none⟩ (.slice ja7 (m6 + 1) jc7) := ⟨_, rfl⟩
      rw [← hX8] at HJ HO8 ⊢
      clear hX8 q0 q1 q2 q3 f0
      obtain ⟨q0, q1, q2, q3⟩ := HJ.out.s.cells
      obtain ⟨s0, s1, s2, s3⟩ := HJ.out.r.cells
      have e0 := HJ.out.r.free
      go_wp2_with fail
      refine bodyPost_ret (by simp [results, Tryz.results14, go_sem, *]; try rfl) rfl ?_
      have hil := HIL.out
      subst hil
      have hs : Agg.ivStep k I (true, x) = ⟨I ++ [x], ⟨rx, ry, rz⟩⟩ := by rw [HRES.out]; simp [Agg.ivStep, Agg.stepW]
      rw [hs]
      exact iv_out (s := ⟨I ++ [x], ⟨rx, ry, rz⟩⟩) HJ.out.b (by have := HO8.out; simpa using this) _ _ _ _
set_option maxRecDepth 8000 in
set_option maxHeartbeats 8000000 in
theorem inverseStep_pop (k : Int) (ia : Option Addr) (m ic : Nat) (ax ay az : Int) (I : List Int) (x : Int) (w : World) (hI : Nums .i64 w ia m ic I) (hst : Agg.ivCan k ⟨I, ⟨ax, ay, az⟩⟩ (false, x) = true) :
    Calls Tryz.prog 14 #[.int .i64 k, .agg #[.slice ia m ic, .int .i64 ax, .int .i64 ay, .int .i64 az], .agg #[.bool false, .int .i64 x]] w (IvOut true (Agg.ivStep k I (false, x)) w) := by
  obtain ⟨W, hW⟩ : ∃ W, W = ((w.alloc (.cells #[.slice ia m ic, .int .i64 ax, .int .i64 ay, .int .i64 az] 27)).alloc (.cells #[.bool false, .int .i64 x] 29)).alloc (.cells #[.slice none 0 0, .int .i64 0, .int .i64 0, .int .i64 0] 27) := ⟨_, rfl⟩
  have HJ := Lib.hid (show IvJ w (.slice ia m ic) ax ay az false x W from by
    rw [hW]
    exact ⟨((Box4.new w _ _ _ _ _).alloc _).alloc _, (Below.heap_alloc _ _ (w.heap.size + 1) (by simp)).trans (by have := heap_alloc_new (w.alloc (.cells #[.slice ia m ic, .int .i64 ax, .int .i64 ay, .int .i64 az] 27)) (.cells #[.bool false, .int .i64 x] 29); simpa using this), Box4.new1 _ _ _ _ _ (by simp), (((Below.refl _ _).alloc (Nat.le_refl _) _).alloc (by simp) _).alloc (by simp; omega) _⟩)
  have HIL := Lib.hid (show I.length = m from hI.1)
  have hV := fun w hI => inverseValid_any k ia m ic ax ay az I w hI
  have HI0 := Lib.hid hI
  clear hI
  obtain ⟨q0, q1, q2, q3⟩ := HJ.out.s.cells
  obtain ⟨p0, p1⟩ := HJ.out.o.cells
  have hv : Agg.ivOk k ⟨I, ⟨ax, ay, az⟩⟩ = true := by simp only [Agg.ivCan, Bool.and_eq_true] at hst; exact hst.1
  have hcan : Agg.can (false, x) (m : Int) = true := by simp only [Agg.ivCan, Bool.and_eq_true, HIL.out] at hst; exact hst.2
  obtain ⟨hr, hk, hit, hag, hok⟩ := Agg.ivOk_parts hv
  simp only at hit hag hok
  obtain ⟨T, fu, fl, fc, fr, R⟩ := rem_at hr
  have HRO := Lib.hid R.of
  have hC := fun w => canChange_any false x (m : Int) w
  rw [hcan] at hC
  rw [hv] at hV
  have HV := Lib.hid hV
  have HC := Lib.hid hC
  have hml := R.K.ml
  have hmc := R.K.mc
  have hal := R.K.al
  have hac := R.K.ac
  have hcl := R.K.cl
  have hcc := R.K.cc
  have hmr := R.mr
  have har := R.ar
  have hcr := R.cr
  obtain ⟨hx, hm0⟩ := Agg.can_pop hcan
  obtain ⟨y, J, rfl⟩ : ∃ y J, I = y :: J := by
    cases I with
    | nil => have := HIL.out; simp at this; omega
    | cons y J => exact ⟨y, J, rfl⟩
  have hy : Agg.isItem y = true := Agg.items_mem hit y (by simp)
  have hyb : 0 ≤ y ∧ y ≤ 96 := by simpa [Agg.isItem] using hy
  have hlk := Agg.ok_lift hk hy
  have hLI := fun w => R.K.lift y w hyb.1 hyb.2
  obtain ⟨-, hrest⟩ := Agg.iv_pop hr hit
  rw [← hag] at hrest
  obtain ⟨⟨lx, ly, lz⟩, hL⟩ : ∃ V, V = Agg.lift k y := ⟨_, rfl⟩
  rw [← hL] at hLI hlk hrest
  have hCO := fun w => R.rest lx ly lz ax ay az w hlk hok
  rw [hrest] at hCO
  obtain ⟨⟨rx, ry, rz⟩, hR⟩ : ∃ V, V = Agg.fold k J := ⟨_, rfl⟩
  rw [← hR] at hCO
  have HRES := Lib.hid (show (⟨rx, ry, rz⟩ : Agg.V) = Agg.fold k J from hR)
  have HLI := Lib.hid hLI
  have HCO := Lib.hid hCO
  obtain ⟨b0, boff, rfl, hb0, hbc⟩ : ∃ b off, ia = some ⟨b, off, none⟩ ∧ b < w.heap.size ∧ ∀ i, i < m → w.cell? ⟨b, off + i, none⟩ = some (.int .i64 ((y :: J)[i]?.getD 0)) := by
    rcases HI0.out.2.2.2 with h | h
    · omega
    · exact h
  have hmN : 0 < m := by omega
  have hm60 : m ≤ 60 := by have := Agg.items_len hit; have := HIL.out; omega
  have hcy : w.cell? ⟨b0, boff, none⟩ = some (.int .i64 y) := by have := hbc 0 hmN; simpa using this
  have HCY := Lib.hid (show ∀ X, Below w.heap.size w X → X.cell? ⟨b0, boff, none⟩ = some (.int .i64 y) from fun X h => (h.cell (p := ⟨b0, boff, none⟩) hb0).trans hcy)
  have hmI : (0 : Int) < (m : Int) := by omega
  have hmI1 : (1 : Int) ≤ (m : Int) := by omega
  have hmi := HI0.out.2.1
  have hmm : ic ≤ 9223372036854775807 := by have := HI0.out.2.2.1; unfold maxLen at this; omega
  have hmI2 : (m : Int) ≤ (ic : Int) := by omega
  clear hV hst hr hv hC hcan hk hit hag hok R hx hy hyb hlk hLI hCO hL hR hm0 hrest hbc hcy
  go_enter Tryz.func14, Tryz.ntmps14
  go_upto_region 1 with (fail)
  rw [← hW]
  clear hW
  go_wp2_with fail
  refine (HRO.out _).mono ?_
  rintro e w1 ⟨rfl, rfl⟩
  go_wp2_with fail
  refine (HV.out _ (HI0.out.below HJ.out.b)).mono ?_
  rintro e w1 ⟨rfl, hb1⟩
  have HJ := Lib.hid (HJ.out.call hb1)
  clear hb1 q0 q1 q2 q3 p0 p1
  obtain ⟨q0, q1, q2, q3⟩ := HJ.out.s.cells
  obtain ⟨p0, p1⟩ := HJ.out.o.cells
  go_wp2_with fail
  refine (HC.out _).mono ?_
  rintro e w2 ⟨rfl, hb2⟩
  have HJ := Lib.hid (HJ.out.call hb2)
  clear hb2 q0 q1 q2 q3 p0 p1
  obtain ⟨q0, q1, q2, q3⟩ := HJ.out.s.cells
  obtain ⟨p0, p1⟩ := HJ.out.o.cells
  go_wp2_with fail
  clear q0 q1 q2 q3 p0 p1
  refine wp_region_held_drew (S := (fun X => X.cell? ⟨w.heap.size, 0, none⟩ = some (.slice (some ⟨b0, boff, none⟩) m ic) ∧ X.cell? ⟨b0, boff, none⟩ = some (.int .i64 y))) (by kernel_rfl) (by exact ⟨HJ.out.s.cells.1, HCY.out _ HJ.out.b.drew⟩) (fun hHeld => ?_)
  first | (refine wpAnyH_take (i := 0) (v := ?_) rfl (by kernel_rfl) (by kernel_rfl) (by kernel_rfl) (fun _ _ _ h => h) (Or.inl ⟨by rfl, ?_⟩) (by assumption) ?_; rotate_left; (intro X hSw; (try dsimp only at hSw); go_simp; (try with_reducible rfl)); (try simp only [Act.put, List.setIfInBounds_toArray, List.set_cons_zero, List.set_cons_succ, List.getElem_toArray, List.getElem_cons_zero, List.getElem_cons_succ])) | fail "take 0"
  first | (refine wpAnyH_take (i := 1) (v := ?_) rfl (by kernel_rfl) (by kernel_rfl) (by kernel_rfl) (fun _ _ _ h => h) (Or.inl ⟨by rfl, ?_⟩) (by assumption) ?_; rotate_left; (intro X hSw; (try dsimp only at hSw); go_simp; (try with_reducible rfl)); (try simp only [Act.put, List.setIfInBounds_toArray, List.set_cons_zero, List.set_cons_succ, List.getElem_toArray, List.getElem_cons_zero, List.getElem_cons_succ])) | fail "take 1"
  first | (refine wpAnyH_take (i := 2) (v := ?_) rfl (by kernel_rfl) (by kernel_rfl) (by kernel_rfl) (fun _ _ _ h => h) (Or.inl ⟨by rfl, ?_⟩) (by assumption) ?_; rotate_left; (intro X hSw; (try dsimp only at hSw); go_simp; (try with_reducible rfl)); (try simp only [Act.put, List.setIfInBounds_toArray, List.set_cons_zero, List.set_cons_succ, List.getElem_toArray, List.getElem_cons_zero, List.getElem_cons_succ])) | fail "take 2"
  first | (refine wpAnyH_take (i := 3) (v := ?_) rfl (by kernel_rfl) (by kernel_rfl) (by kernel_rfl) (fun _ _ _ h => h) (Or.inl ⟨by rfl, ?_⟩) (by assumption) ?_; rotate_left; (intro X hSw; (try dsimp only at hSw); go_simp; (try with_reducible rfl)); (try simp only [Act.put, List.setIfInBounds_toArray, List.set_cons_zero, List.set_cons_succ, List.getElem_toArray, List.getElem_cons_zero, List.getElem_cons_succ])) | fail "take 3"
  first | (refine wpAnyH_take (i := 4) (v := ?_) rfl (by kernel_rfl) (by kernel_rfl) (by kernel_rfl) (fun _ _ _ h => h) (Or.inl ⟨by rfl, ?_⟩) (by assumption) ?_; rotate_left; (intro X hSw; (try dsimp only at hSw); go_simp; (try with_reducible rfl)); (try simp only [Act.put, List.setIfInBounds_toArray, List.set_cons_zero, List.set_cons_succ, List.getElem_toArray, List.getElem_cons_zero, List.getElem_cons_succ])) | fail "take 4"
  first | (refine wpAnyH_take (i := 5) (v := ?_) rfl (by kernel_rfl) (by kernel_rfl) (by kernel_rfl) (fun _ _ _ h => h) (Or.inl ⟨by rfl, ?_⟩) (by assumption) ?_; rotate_left; (intro X hSw; (try dsimp only at hSw); go_simp; (try with_reducible rfl)); (try simp only [Act.put, List.setIfInBounds_toArray, List.set_cons_zero, List.set_cons_succ, List.getElem_toArray, List.getElem_cons_zero, List.getElem_cons_succ])) | fail "take 5"
  first | (refine wpAnyH_take (i := 6) (v := ?_) rfl (by kernel_rfl) (by kernel_rfl) (by kernel_rfl) (fun _ _ _ h => h) (Or.inl ⟨by rfl, ?_⟩) (by assumption) ?_; rotate_left; (intro X hSw; (try dsimp only at hSw); go_simp; (try with_reducible rfl)); (try simp only [Act.put, List.setIfInBounds_toArray, List.set_cons_zero, List.set_cons_succ, List.getElem_toArray, List.getElem_cons_zero, List.getElem_cons_succ])) | fail "take 6"
  first | (refine wpAnyH_take (i := 7) (v := ?_) rfl (by kernel_rfl) (by kernel_rfl) (by kernel_rfl) (fun _ _ _ h => h) (Or.inl ⟨by rfl, ?_⟩) (by assumption) ?_; rotate_left; (intro X hSw; (try dsimp only at hSw); go_simp; (try with_reducible rfl)); (try simp only [Act.put, List.setIfInBounds_toArray, List.set_cons_zero, List.set_cons_succ, List.getElem_toArray, List.getElem_cons_zero, List.getElem_cons_succ])) | fail "take 7"
  first | (refine wpAnyH_take (i := 8) (v := ?_) rfl (by kernel_rfl) (by kernel_rfl) (by kernel_rfl) (fun _ _ _ h => h) (Or.inl ⟨by rfl, ?_⟩) (by assumption) ?_; rotate_left; (intro X hSw; (try dsimp only at hSw); go_simp; (try with_reducible rfl)); (try simp only [Act.put, List.setIfInBounds_toArray, List.set_cons_zero, List.set_cons_succ, List.getElem_toArray, List.getElem_cons_zero, List.getElem_cons_succ])) | fail "take 8"
  first | (refine wpAnyH_take (i := 10) (v := ?_) rfl (by kernel_rfl) (by kernel_rfl) (by kernel_rfl) (fun _ _ _ h => h) (Or.inl ⟨by rfl, ?_⟩) (by assumption) ?_; rotate_left; (intro X hSw; (try dsimp only at hSw); go_simp; (try with_reducible rfl)); (try simp only [Act.put, List.setIfInBounds_toArray, List.set_cons_zero, List.set_cons_succ, List.getElem_toArray, List.getElem_cons_zero, List.getElem_cons_succ])) | fail "take 10"
  first | (refine wpAnyH_take (i := 12) (v := ?_) rfl (by kernel_rfl) (by kernel_rfl) (by kernel_rfl) (fun _ _ _ h => h) (Or.inl ⟨by rfl, ?_⟩) (by assumption) ?_; rotate_left; (intro X hSw; (try dsimp only at hSw); go_simp; (try with_reducible rfl)); (try simp only [Act.put, List.setIfInBounds_toArray, List.set_cons_zero, List.set_cons_succ, List.getElem_toArray, List.getElem_cons_zero, List.getElem_cons_succ])) | fail "take 12"
  first | (refine wpAnyH_take (i := 13) (v := ?_) rfl (by kernel_rfl) (by kernel_rfl) (by kernel_rfl) (fun _ _ _ h => h) (Or.inl ⟨by rfl, ?_⟩) (by assumption) ?_; rotate_left; (intro X hSw; (try dsimp only at hSw); go_simp; (try with_reducible rfl)); (try simp only [Act.put, List.setIfInBounds_toArray, List.set_cons_zero, List.set_cons_succ, List.getElem_toArray, List.getElem_cons_zero, List.getElem_cons_succ])) | fail "take 13"
  first | (refine wpAnyH_take (i := 14) (v := ?_) rfl (by kernel_rfl) (by kernel_rfl) (by kernel_rfl) (fun _ _ _ h => h) (Or.inl ⟨by rfl, ?_⟩) (by assumption) ?_; rotate_left; (intro X hSw; (try dsimp only at hSw); go_simp; (try with_reducible rfl)); (try simp only [Act.put, List.setIfInBounds_toArray, List.set_cons_zero, List.set_cons_succ, List.getElem_toArray, List.getElem_cons_zero, List.getElem_cons_succ])) | fail "take 14"
  refine wpAnyH_ready (rs := [9, 11]) (by kernel_rfl) (by simp) ?_
  refine AllReadyH.cons rfl (fun K hK => ?_) (AllReadyH.cons rfl (fun K hK => ?_) AllReadyH.nil)
  · go_simp
    refine (HLI.out _).mono ?_
    rintro e w3 ⟨rfl, hb⟩
    have HJ := Lib.hid (HJ.out.drew.call hb)
    clear hb
    (try dsimp only)
    refine hK.out _ _ (by exact ⟨HJ.out.s.cells.1, HCY.out _ HJ.out.b⟩) (fun hHeld => ?_)
    clear hK K
    (try simp only [Act.put, List.setIfInBounds_toArray, List.set_cons_zero, List.set_cons_succ, List.getElem_toArray, List.getElem_cons_zero, List.getElem_cons_succ])
    refine wpAnyH_ready (rs := [11]) (by kernel_rfl) (by simp) ?_
    refine AllReadyH.cons rfl (fun K hK => ?_) AllReadyH.nil
    obtain ⟨q0, q1, q2, q3⟩ := HJ.out.s.cells
    go_simp
    (try dsimp only)
    refine hK.out _ _ (by exact ⟨HJ.out.s.cells.1, HCY.out _ HJ.out.b⟩) (fun hHeld => ?_)
    clear hK K
    (try simp only [Act.put, List.setIfInBounds_toArray, List.set_cons_zero, List.set_cons_succ, List.getElem_toArray, List.getElem_cons_zero, List.getElem_cons_succ])
    clear q0 q1 q2 q3
    refine wpAnyH_ready (rs := [15]) (by kernel_rfl) (by simp) ?_
    refine AllReadyH.cons rfl (fun K hK => ?_) AllReadyH.nil
    go_simp
    refine (HCO.out _).mono ?_
    rintro e w4 ⟨rfl, hb⟩
    have HJ := Lib.hid (HJ.out.call hb)
    clear hb
    (try dsimp only)
    refine hK.out _ _ (by exact ⟨HJ.out.s.cells.1, HCY.out _ HJ.out.b⟩) (fun hHeld => ?_)
    clear hK K
    (try simp only [Act.put, List.setIfInBounds_toArray, List.set_cons_zero, List.set_cons_succ, List.getElem_toArray, List.getElem_cons_zero, List.getElem_cons_succ])
    first | (refine wpAnyH_take (i := 16) (v := ?_) rfl (by kernel_rfl) (by kernel_rfl) (by kernel_rfl) (fun _ _ _ h => h) (Or.inl ⟨by rfl, ?_⟩) (by assumption) ?_; rotate_left; (intro X hSw; (try dsimp only at hSw); go_simp; (try with_reducible rfl)); (try simp only [Act.put, List.setIfInBounds_toArray, List.set_cons_zero, List.set_cons_succ, List.getElem_toArray, List.getElem_cons_zero, List.getElem_cons_succ])) | fail "take 16"
    refine wpAnyH_ready (rs := [17]) (by kernel_rfl) (by simp) ?_
    refine AllReadyH.cons rfl (fun K hK => ?_) AllReadyH.nil
    obtain ⟨q0, q1, q2, q3⟩ := HJ.out.s.cells
    have f1 := HJ.out.s.free 1
    have f2 := HJ.out.s.free 2
    have f3 := HJ.out.s.free 3
    have HJ := Lib.hid (HJ.out.setAgg rx ry rz)
    go_simp
    (try dsimp only)
    refine hK.out _ _ (by exact ⟨HJ.out.s.cells.1, HCY.out _ HJ.out.b⟩) (fun hHeld => ?_)
    clear hK K
    (try simp only [Act.put, List.setIfInBounds_toArray, List.set_cons_zero, List.set_cons_succ, List.getElem_toArray, List.getElem_cons_zero, List.getElem_cons_succ])
    refine wpAnyH_done (by kernel_rfl) ?_ _
    clear q0 q1 q2 q3 f1 f2 f3
    obtain ⟨X5, hX5⟩ : ∃ X5, X5 = ((w4.setCell ⟨w.heap.size, 1, none⟩ (.int .i64 rx)).setCell ⟨w.heap.size, 2, none⟩ (.int .i64 ry)).setCell ⟨w.heap.size, 3, none⟩ (.int .i64 rz) := ⟨_, rfl⟩
    rw [← hX5] at HJ ⊢
    clear hX5
    obtain ⟨q0, q1, q2, q3⟩ := HJ.out.s.cells
    have f0 := HJ.out.s.free 0
    have hNT : Nums .i64 X5 (some ⟨b0, boff + 1, none⟩) (m - 1) (ic - 1) J := by
      obtain ⟨h1, h2, h3, h4⟩ := HI0.out.below HJ.out.b
      refine ⟨by have := HIL.out; simp at this; omega, by omega, by omega, ?_⟩
      rcases h4 with h4 | ⟨b', off', e, hlt, hc⟩
      · omega
      · simp only [Option.some.injEq, Addr.mk.injEq, and_true] at e
        obtain ⟨rfl, rfl⟩ := e
        refine .inr ⟨b0, boff + 1, rfl, hlt, fun i hi => ?_⟩
        have := hc (i + 1) (by omega)
        rw [show boff + 1 + i = boff + (i + 1) by omega, this]
        simp
    have HNT := Lib.hid hNT
    have HNT0 := Lib.hid (show ic = 1 → Nums .i64 X5 (some ⟨b0, boff, none⟩) (m - 1) 0 J from fun h1 => ⟨hNT.1, by omega, by simp [maxLen], .inl (by omega)⟩)
    have hsl1 : ((m : Int) - 1).toNat = m - 1 := by omega
    have hsl2 : ((ic : Int) - 1).toNat = ic - 1 := by omega
    clear hNT
    go_wp2_with fail
    all_goals first
      | refine (clone_any (some ⟨b0, boff + 1, none⟩) (m - 1) (ic - 1) J _ HNT.out (by omega)).mono ?_
      | refine (clone_any (some ⟨b0, boff, none⟩) (m - 1) 0 J _ (HNT0.out (by omega)) (by omega)).mono ?_
    all_goals
      rintro e w6 ⟨v6, m6, rfl, ho6, hb6⟩
      obtain rfl : m6 = J.length := by have h := ho6.1; simp at h; omega
      obtain ⟨ja, jc, rfl⟩ := p_slice ho6
      have HO := Lib.hid (owns_lower ho6 HJ.out.lt)
      have HJ := Lib.hid (HJ.out.call hb6)
      clear hb6 ho6 q0 q1 q2 q3 f0
      obtain ⟨q0, q1, q2, q3⟩ := HJ.out.s.cells
      have f0 := HJ.out.s.free 0
      have HO8 := Lib.hid (own_setlow (d := w.heap.size) (o := 0) (u := .slice ja J.length jc) HO.out (by omega))
      have HJ := Lib.hid (HJ.out.setItems (.slice ja J.length jc))
      go_upto_region 10 with (fail)
      obtain ⟨X8, hX8⟩ : ∃ X8, X8 = w6.setCell ⟨w.heap.size, 0, none⟩ (.slice ja J.length jc) := ⟨_, rfl⟩
      rw [← hX8] at HJ HO8 ⊢
      clear hX8 q0 q1 q2 q3 f0
      obtain ⟨q0, q1, q2, q3⟩ := HJ.out.s.cells
      obtain ⟨s0, s1, s2, s3⟩ := HJ.out.r.cells
      have e0 := HJ.out.r.free
      go_wp2_with fail
      refine bodyPost_ret (by simp [results, Tryz.results14, go_sem, *]; try rfl) rfl ?_
      have hs : Agg.ivStep k (y :: J) (false, x) = ⟨J, ⟨rx, ry, rz⟩⟩ := by rw [HRES.out]; simp [Agg.ivStep, Agg.stepW]
      rw [hs]
      exact iv_out (s := ⟨J, ⟨rx, ry, rz⟩⟩) HJ.out.b HO8.out _ _ _ _
  · obtain ⟨q0, q1, q2, q3⟩ := HJ.out.s.cells
    go_simp
    (try dsimp only)
    refine hK.out _ _ (by exact ⟨HJ.out.s.cells.1, HCY.out _ HJ.out.b.drew⟩) (fun hHeld => ?_)
    clear hK K
    (try simp only [Act.put, List.setIfInBounds_toArray, List.set_cons_zero, List.set_cons_succ, List.getElem_toArray, List.getElem_cons_zero, List.getElem_cons_succ])
    clear q0 q1 q2 q3
    refine wpAnyH_ready (rs := [9]) (by kernel_rfl) (by simp) ?_
    refine AllReadyH.cons rfl (fun K hK => ?_) AllReadyH.nil
    go_simp
    refine (HLI.out _).mono ?_
    rintro e w3 ⟨rfl, hb⟩
    have HJ := Lib.hid (HJ.out.drew.call hb)
    clear hb
    (try dsimp only)
    refine hK.out _ _ (by exact ⟨HJ.out.s.cells.1, HCY.out _ HJ.out.b⟩) (fun hHeld => ?_)
    clear hK K
    (try simp only [Act.put, List.setIfInBounds_toArray, List.set_cons_zero, List.set_cons_succ, List.getElem_toArray, List.getElem_cons_zero, List.getElem_cons_succ])
    refine wpAnyH_ready (rs := [15]) (by kernel_rfl) (by simp) ?_
    refine AllReadyH.cons rfl (fun K hK => ?_) AllReadyH.nil
    go_simp
    refine (HCO.out _).mono ?_
    rintro e w4 ⟨rfl, hb⟩
    have HJ := Lib.hid (HJ.out.call hb)
    clear hb
    (try dsimp only)
    refine hK.out _ _ (by exact ⟨HJ.out.s.cells.1, HCY.out _ HJ.out.b⟩) (fun hHeld => ?_)
    clear hK K
    (try simp only [Act.put, List.setIfInBounds_toArray, List.set_cons_zero, List.set_cons_succ, List.getElem_toArray, List.getElem_cons_zero, List.getElem_cons_succ])
    first | (refine wpAnyH_take (i := 16) (v := ?_) rfl (by kernel_rfl) (by kernel_rfl) (by kernel_rfl) (fun _ _ _ h => h) (Or.inl ⟨by rfl, ?_⟩) (by assumption) ?_; rotate_left; (intro X hSw; (try dsimp only at hSw); go_simp; (try with_reducible rfl)); (try simp only [Act.put, List.setIfInBounds_toArray, List.set_cons_zero, List.set_cons_succ, List.getElem_toArray, List.getElem_cons_zero, List.getElem_cons_succ])) | fail "take 16"
    refine wpAnyH_ready (rs := [17]) (by kernel_rfl) (by simp) ?_
    refine AllReadyH.cons rfl (fun K hK => ?_) AllReadyH.nil
    obtain ⟨q0, q1, q2, q3⟩ := HJ.out.s.cells
    have f1 := HJ.out.s.free 1
    have f2 := HJ.out.s.free 2
    have f3 := HJ.out.s.free 3
    have HJ := Lib.hid (HJ.out.setAgg rx ry rz)
    go_simp
    (try dsimp only)
    refine hK.out _ _ (by exact ⟨HJ.out.s.cells.1, HCY.out _ HJ.out.b⟩) (fun hHeld => ?_)
    clear hK K
    (try simp only [Act.put, List.setIfInBounds_toArray, List.set_cons_zero, List.set_cons_succ, List.getElem_toArray, List.getElem_cons_zero, List.getElem_cons_succ])
    refine wpAnyH_done (by kernel_rfl) ?_ _
    clear q0 q1 q2 q3 f1 f2 f3
    obtain ⟨X5, hX5⟩ : ∃ X5, X5 = ((w4.setCell ⟨w.heap.size, 1, none⟩ (.int .i64 rx)).setCell ⟨w.heap.size, 2, none⟩ (.int .i64 ry)).setCell ⟨w.heap.size, 3, none⟩ (.int .i64 rz) := ⟨_, rfl⟩
    rw [← hX5] at HJ ⊢
    clear hX5
    obtain ⟨q0, q1, q2, q3⟩ := HJ.out.s.cells
    have f0 := HJ.out.s.free 0
    have hNT : Nums .i64 X5 (some ⟨b0, boff + 1, none⟩) (m - 1) (ic - 1) J := by
      obtain ⟨h1, h2, h3, h4⟩ := HI0.out.below HJ.out.b
      refine ⟨by have := HIL.out; simp at this; omega, by omega, by omega, ?_⟩
      rcases h4 with h4 | ⟨b', off', e, hlt, hc⟩
      · omega
      · simp only [Option.some.injEq, Addr.mk.injEq, and_true] at e
        obtain ⟨rfl, rfl⟩ := e
        refine .inr ⟨b0, boff + 1, rfl, hlt, fun i hi => ?_⟩
        have := hc (i + 1) (by omega)
        rw [show boff + 1 + i = boff + (i + 1) by omega, this]
        simp
    have HNT := Lib.hid hNT
    have HNT0 := Lib.hid (show ic = 1 → Nums .i64 X5 (some ⟨b0, boff, none⟩) (m - 1) 0 J from fun h1 => ⟨hNT.1, by omega, by simp [maxLen], .inl (by omega)⟩)
    have hsl1 : ((m : Int) - 1).toNat = m - 1 := by omega
    have hsl2 : ((ic : Int) - 1).toNat = ic - 1 := by omega
    clear hNT
    go_wp2_with fail
    all_goals first
      | refine (clone_any (some ⟨b0, boff + 1, none⟩) (m - 1) (ic - 1) J _ HNT.out (by omega)).mono ?_
      | refine (clone_any (some ⟨b0, boff, none⟩) (m - 1) 0 J _ (HNT0.out (by omega)) (by omega)).mono ?_
    all_goals
      rintro e w6 ⟨v6, m6, rfl, ho6, hb6⟩
      obtain rfl : m6 = J.length := by have h := ho6.1; simp at h; omega
      obtain ⟨ja, jc, rfl⟩ := p_slice ho6
      have HO := Lib.hid (owns_lower ho6 HJ.out.lt)
      have HJ := Lib.hid (HJ.out.call hb6)
      clear hb6 ho6 q0 q1 q2 q3 f0
      obtain ⟨q0, q1, q2, q3⟩ := HJ.out.s.cells
      have f0 := HJ.out.s.free 0
      have HO8 := Lib.hid (own_setlow (d := w.heap.size) (o := 0) (u := .slice ja J.length jc) HO.out (by omega))
      have HJ := Lib.hid (HJ.out.setItems (.slice ja J.length jc))
      go_upto_region 10 with (fail)
      obtain ⟨X8, hX8⟩ : ∃ X8, X8 = w6.setCell ⟨w.heap.size, 0, none⟩ (.slice ja J.length jc) := ⟨_, rfl⟩
      rw [← hX8] at HJ HO8 ⊢
      clear hX8 q0 q1 q2 q3 f0
      obtain ⟨q0, q1, q2, q3⟩ := HJ.out.s.cells
      obtain ⟨s0, s1, s2, s3⟩ := HJ.out.r.cells
      have e0 := HJ.out.r.free
      go_wp2_with fail
      refine bodyPost_ret (by simp [results, Tryz.results14, go_sem, *]; try rfl) rfl ?_
      have hs : Agg.ivStep k (y :: J) (false, x) = ⟨J, ⟨rx, ry, rz⟩⟩ := by rw [HRES.out]; simp [Agg.ivStep, Agg.stepW]
      rw [hs]
      exact iv_out (s := ⟨J, ⟨rx, ry, rz⟩⟩) HJ.out.b HO8.out _ _ _ _
theorem inverseStep_any (k : Int) (ia : Option Addr) (m ic : Nat) (ax ay az : Int) (I : List Int) (p : Bool) (x : Int) (w : World) (hI : Nums .i64 w ia m ic I) :
    Calls Tryz.prog 14 #[.int .i64 k, .agg #[.slice ia m ic, .int .i64 ax, .int .i64 ay, .int .i64 az], .agg #[.bool p, .int .i64 x]] w (IvOut (Agg.ivCan k ⟨I, ⟨ax, ay, az⟩⟩ (p, x)) (Agg.aIv k ⟨I, ⟨ax, ay, az⟩⟩ (p, x)) w) := by
  cases hst : Agg.ivCan k ⟨I, ⟨ax, ay, az⟩⟩ (p, x)
  · rw [show Agg.aIv k ⟨I, ⟨ax, ay, az⟩⟩ (p, x) = Agg.zeroIv by simp [Agg.aIv, hst]]
    exact inverseStep_not k ia m ic ax ay az I p x w hI hst
  · rw [show Agg.aIv k ⟨I, ⟨ax, ay, az⟩⟩ (p, x) = Agg.ivStep k I (p, x) by simp [Agg.aIv, hst]]
    cases p
    · exact inverseStep_pop k ia m ic ax ay az I x w hI hst
    · exact inverseStep_push k ia m ic ax ay az I x w hI hst
end Go.Proofs.YtmlkdbmhekiniaaGreat

/-
  A run of a window with an inverse in the program.
-/
namespace Go.Proofs.YtmlkdbmhekiniaaGreat
set_option linter.unusedSimpArgs false
set_option linter.unusedVariables false
open Go.RowKit
/-- The window with its aggregate after j changes. -/
def Agg.ivAt (k : Int) (l : List (Bool × Int)) (j : Nat) : Agg.Iv := ⟨Agg.winAt l j, Agg.fold k (Agg.winAt l j)⟩
def Agg.ivRun (k : Int) (l : List (Bool × Int)) (j : Nat) : Agg.Iv := if Agg.removes k then Agg.ivAt k l j else Agg.zeroIv
def Agg.ivRunOk (k : Int) (l : List (Bool × Int)) : Bool := Agg.removes k && Agg.opsOk l
def Agg.ivRunS (k : Int) (l : List (Bool × Int)) : Agg.Iv := if Agg.ivRunOk k l then Agg.ivAt k l l.length else Agg.zeroIv
def Agg.ivRunN (k : Int) (l : List (Bool × Int)) : List Int := if Agg.ivRunOk k l then Agg.qs k l else []
theorem Agg.iv_step {k : Int} {l : List (Bool × Int)} (hr : Agg.removes k = true) (h : Agg.opsOk l = true) {j : Nat} (hj : j < l.length) :
    Agg.ivCan k (Agg.ivAt k l j) (Agg.opAt l j) = true ∧ Agg.aIv k (Agg.ivAt k l j) (Agg.opAt l j) = Agg.ivAt k l (j + 1) := by
  obtain ⟨hn200, hall, hfit⟩ := Agg.opsOk_parts h
  have hw := Agg.win_ok h j (by omega)
  have h1 : Agg.ivCan k (Agg.ivAt k l j) (Agg.opAt l j) = true := by
    simp only [Agg.ivCan, Agg.ivOk, Agg.ivAt, Bool.and_eq_true, decide_eq_true_eq]
    exact ⟨⟨⟨hr, hw⟩, trivial⟩, Agg.can_of (Agg.opOk_at hj hall) (Agg.fits_at hj hfit) rfl⟩
  refine ⟨h1, ?_⟩
  simp only [Agg.aIv, h1, if_true]
  rfl
theorem Agg.iv_len {k : Int} {l : List (Bool × Int)} (h : Agg.opsOk l = true) {j : Nat} (hj : j ≤ l.length) : (Agg.ivAt k l j).items.length ≤ 60 := Agg.items_len (Agg.win_ok h j hj)
/-- What InverseRun answers, in memory of its own. -/
def IvRunOut (b : Bool) (s : Agg.Iv) (q : List Int) (w : World) (e : Ending) (w' : World) : Prop :=
  ∃ v u n, e = .returned (.tuple #[v, u, .bool b]) ∧ IvOwn w' w.heap.size w'.heap.size v s ∧ OwnR w' w.heap.size w'.heap.size u n q ∧ Below w.heap.size w w'
/-- The same, where the numbers lie behind the window's own rows. -/
def IvRunApart (b : Bool) (s : Agg.Iv) (q : List Int) (w : World) (e : Ending) (w' : World) : Prop :=
  ∃ v u n mid, e = .returned (.tuple #[v, u, .bool b]) ∧ IvOwn w' w.heap.size mid v s ∧ OwnR w' mid w'.heap.size u n q ∧ w.heap.size ≤ mid ∧ mid ≤ w'.heap.size ∧ Below w.heap.size w w'
theorem IvRunApart.out {b : Bool} {s : Agg.Iv} {q : List Int} {w : World} {e : Ending} {w' : World} (h : IvRunApart b s q w e w') : IvRunOut b s q w e w' := by
  obtain ⟨v, u, n, mid, he, ⟨iv, hv, h1⟩, h2, h3, h4, h5⟩ := h
  exact ⟨v, u, n, he, ⟨iv, hv, h1.wide (Nat.le_refl _) h4 (Nat.le_refl _)⟩, h2.wide h3 (Nat.le_refl _) (Nat.le_refl _), h5⟩
theorem Agg.ivRun_bound (k : Int) (l : List (Bool × Int)) : (Agg.ivRunS k l).items.length ≤ 60 ∧ (Agg.ivRunN k l).length ≤ 200 := by
  cases h : Agg.ivRunOk k l
  · simp [Agg.ivRunS, Agg.ivRunN, h, Agg.zeroIv]
  · have h2 := h
    simp only [Agg.ivRunOk, Bool.and_eq_true] at h2
    have h60 := Agg.iv_len (k := k) h2.2 (Nat.le_refl _)
    have h3 := (Agg.opsOk_parts h2.2).1
    have e1 : Agg.ivRunS k l = Agg.ivAt k l l.length := by simp [Agg.ivRunS, h]
    have e2 : Agg.ivRunN k l = Agg.qs k l := by simp [Agg.ivRunN, h]
    rw [e1, e2, Agg.qs_len]
    omega
theorem set4_far {W : World} {c d o : Nat} {u0 u1 u2 u3 : Value} (h : c ≠ d) : ((((W.setCell ⟨d, 0, none⟩ u0).setCell ⟨d, 1, none⟩ u1).setCell ⟨d, 2, none⟩ u2).setCell ⟨d, 3, none⟩ u3).cell? ⟨c, o, none⟩ = W.cell? ⟨c, o, none⟩ :=
  World.cell?_of_block (by rw [Below.heap_setCell _ _ _ _ (by simpa using h), Below.heap_setCell _ _ _ _ (by simpa using h), Below.heap_setCell _ _ _ _ (by simpa using h), Below.heap_setCell _ _ _ _ (by simpa using h)])
set_option maxRecDepth 8000 in
set_option maxHeartbeats 2000000 in
theorem inverseStart_any (k : Int) (w : World) : Calls Tryz.prog 95 #[.int .i64 k] w (IvMade (Agg.removes k) (if Agg.removes k then ⟨[], Agg.unit k⟩ else Agg.zeroIv) w) := by
  obtain ⟨W, hW⟩ : ∃ W, W = w.alloc (.cells #[.slice none 0 0, .int .i64 0, .int .i64 0, .int .i64 0] 27) := ⟨_, rfl⟩
  have HZ := Lib.hid (show Box4 W w.heap.size 27 (.slice none 0 0) (.int .i64 0) (.int .i64 0) (.int .i64 0) from by rw [hW]; exact Box4.new w _ _ _ _ _)
  have HB := Lib.hid (show Below w.heap.size w W from by rw [hW]; exact (Below.refl _ _).alloc (Nat.le_refl _) _)
  obtain ⟨s0, s1, s2, s3⟩ := HZ.out.cells
  have e0 := HZ.out.free
  cases hr : Agg.removes k
  · have HR := Lib.hid hr
    clear hr
    go_enter Tryz.func95, Tryz.ntmps95
    go_upto_region 1 with (fail)
    rw [← hW]
    clear hW
    go_wp2_with fail
    refine (removerOf_not k _ HR.out).mono ?_
    rintro e w1 ⟨rfl, rfl⟩
    go_wp2_with fail
    refine bodyPost_ret (by simp [results, Tryz.results95, go_sem, *]; try rfl) rfl ?_
    have hbb := sets4 HB.out (Nat.le_refl _) (.slice none 0 0) (.int .i64 0) (.int .i64 0) (.int .i64 0)
    exact ⟨_, rfl, ⟨World.ownsRow_nil _ _ _ _, hbb.size, Nat.le_refl _, fun g hg => by simp [Value.ownBlock] at hg⟩, hbb⟩
  · obtain ⟨T, fu, fl, fc, fr, R⟩ := rem_at hr
    have HRO := Lib.hid R.of
    have hmu := R.K.mu
    have hcu := R.K.cu
    have hau := R.K.au
    have HUN := Lib.hid R.K.unit
    obtain ⟨⟨ux, uy, uz⟩, hu⟩ : ∃ u, u = Agg.unit k := ⟨_, rfl⟩
    rw [← hu] at HUN ⊢
    simp only at HUN
    clear R hu hr s0 s1 s2 s3 e0
    go_enter Tryz.func95, Tryz.ntmps95
    go_upto_region 1 with (fail)
    rw [← hW]
    clear hW
    go_wp2_with fail
    refine (HRO.out _).mono ?_
    rintro e w1 ⟨rfl, rfl⟩
    go_wp2_with fail
    refine (HUN.out _).mono ?_
    rintro e w2 ⟨rfl, hb2⟩
    have HZ2 := Lib.hid (HZ.out.call hb2)
    have HB2 := Lib.hid (HB.out.trans (hb2.mono HB.out.size))
    clear hb2
    obtain ⟨s0, s1, s2, s3⟩ := HZ2.out.cells
    have e0 := HZ2.out.free
    go_wp2_with fail
    refine bodyPost_ret (by simp [results, Tryz.results95, go_sem, *]; try rfl) rfl ?_
    have hbb := sets4 HB2.out (Nat.le_refl _) (.slice none 0 0) (.int .i64 ux) (.int .i64 uy) (.int .i64 uz)
    exact ⟨_, rfl, ⟨World.ownsRow_nil _ _ _ _, hbb.size, Nat.le_refl _, fun g hg => by simp [Value.ownBlock] at hg⟩, hbb⟩
set_option maxRecDepth 8000 in
set_option maxHeartbeats 2000000 in
theorem inverseValue_any (k : Int) (ia : Option Addr) (m ic : Nat) (ax ay az : Int) (w : World) :
    Calls Tryz.prog 97 #[.int .i64 k, .agg #[.slice ia m ic, .int .i64 ax, .int .i64 ay, .int .i64 az]] w fun e w' => e = .returned (.tuple #[.agg #[.int .i64 ax, .int .i64 ay, .int .i64 az], .bool (Agg.valid k ⟨ax, ay, az⟩)]) ∧ Below w.heap.size w w' := by
  obtain ⟨W, hW⟩ : ∃ W, W = (w.alloc (.cells #[.slice ia m ic, .int .i64 ax, .int .i64 ay, .int .i64 az] 27)).alloc (.cells #[.int .i64 0, .int .i64 0, .int .i64 0] 25) := ⟨_, rfl⟩
  have HX := Lib.hid (show Box4 W w.heap.size 27 (.slice ia m ic) (.int .i64 ax) (.int .i64 ay) (.int .i64 az) from by rw [hW]; exact (Box4.new w _ _ _ _ _).alloc _)
  have HV := Lib.hid (show Box W (w.heap.size + 1) 25 0 0 0 from by rw [hW]; exact Box.new1 _ _ _ _ (by simp))
  have HB := Lib.hid (show Below w.heap.size w W from by rw [hW]; exact ((Below.refl _ _).alloc (Nat.le_refl _) _).alloc (by simp) _)
  obtain ⟨vb, hvb⟩ : ∃ b, b = Agg.valid k ⟨ax, ay, az⟩ := ⟨_, rfl⟩
  have HVV := Lib.hid (fun w => valueValid_any k ax ay az w)
  rw [← hvb] at HVV ⊢
  clear hvb
  obtain ⟨q0, q1, q2, q3⟩ := HX.out.cells
  go_enter Tryz.func97, Tryz.ntmps97
  go_upto_region 1 with (fail)
  rw [← hW]
  clear hW
  refine wp_region_held_drew (S := (fun X => X.cell? ⟨w.heap.size, 1, none⟩ = some (.int .i64 ax) ∧ X.cell? ⟨w.heap.size, 2, none⟩ = some (.int .i64 ay) ∧ X.cell? ⟨w.heap.size, 3, none⟩ = some (.int .i64 az))) (by kernel_rfl) (by first | (refine ⟨?_, ?_, ?_⟩ <;> assumption)) (fun hHeld => ?_)
  first | (refine wpAnyH_take (i := 0) (v := ?_) rfl (by kernel_rfl) (by kernel_rfl) (by kernel_rfl) (fun _ _ _ h => h) (Or.inl ⟨by rfl, ?_⟩) (by assumption) ?_; rotate_left; (intro X hSw; (try dsimp only at hSw); go_simp; (try with_reducible rfl)); (try simp only [Act.put, List.setIfInBounds_toArray, List.set_cons_zero, List.set_cons_succ, List.getElem_toArray, List.getElem_cons_zero, List.getElem_cons_succ])) | fail "take 0"
  first | (refine wpAnyH_take (i := 1) (v := ?_) rfl (by kernel_rfl) (by kernel_rfl) (by kernel_rfl) (fun _ _ _ h => h) (Or.inl ⟨by rfl, ?_⟩) (by assumption) ?_; rotate_left; (intro X hSw; (try dsimp only at hSw); go_simp; (try with_reducible rfl)); (try simp only [Act.put, List.setIfInBounds_toArray, List.set_cons_zero, List.set_cons_succ, List.getElem_toArray, List.getElem_cons_zero, List.getElem_cons_succ])) | fail "take 1"
  first | (refine wpAnyH_take (i := 2) (v := ?_) rfl (by kernel_rfl) (by kernel_rfl) (by kernel_rfl) (fun _ _ _ h => h) (Or.inl ⟨by rfl, ?_⟩) (by assumption) ?_; rotate_left; (intro X hSw; (try dsimp only at hSw); go_simp; (try with_reducible rfl)); (try simp only [Act.put, List.setIfInBounds_toArray, List.set_cons_zero, List.set_cons_succ, List.getElem_toArray, List.getElem_cons_zero, List.getElem_cons_succ])) | fail "take 2"
  first | (refine wpAnyH_take (i := 3) (v := ?_) rfl (by kernel_rfl) (by kernel_rfl) (by kernel_rfl) (fun _ _ _ h => h) (Or.inl ⟨by rfl, ?_⟩) (by assumption) ?_; rotate_left; (intro X hSw; (try dsimp only at hSw); go_simp; (try with_reducible rfl)); (try simp only [Act.put, List.setIfInBounds_toArray, List.set_cons_zero, List.set_cons_succ, List.getElem_toArray, List.getElem_cons_zero, List.getElem_cons_succ])) | fail "take 3"
  first | (refine wpAnyH_take (i := 4) (v := ?_) rfl (by kernel_rfl) (by kernel_rfl) (by kernel_rfl) (fun _ _ _ h => h) (Or.inl ⟨by rfl, ?_⟩) (by assumption) ?_; rotate_left; (intro X hSw; (try dsimp only at hSw); go_simp; (try with_reducible rfl)); (try simp only [Act.put, List.setIfInBounds_toArray, List.set_cons_zero, List.set_cons_succ, List.getElem_toArray, List.getElem_cons_zero, List.getElem_cons_succ])) | fail "take 4"
  refine wpAnyH_ready (rs := [5]) (by kernel_rfl) (by simp) ?_
  refine AllReadyH.cons rfl (fun K hK => ?_) AllReadyH.nil
  go_simp
  refine (HVV.out _).mono ?_
  rintro e w2 ⟨rfl, hb2⟩
  have HX2 := Lib.hid (HX.out.callD hb2)
  have HV2 := Lib.hid (Box.callD HV.out hb2)
  have HB2 := Lib.hid (v_below_callD HB.out hb2)
  obtain ⟨q0, q1, q2, q3⟩ := HX2.out.cells
  clear hb2
  (try dsimp only)
  refine hK.out _ _ (by first | (refine ⟨?_, ?_, ?_⟩ <;> assumption)) (fun hHeld => ?_)
  clear hK K
  (try simp only [Act.put, List.setIfInBounds_toArray, List.set_cons_zero, List.set_cons_succ, List.getElem_toArray, List.getElem_cons_zero, List.getElem_cons_succ])
  obtain ⟨X3, hX3⟩ : ∃ X3, X3 = ((w2.setCell ⟨w.heap.size + 1, 0, none⟩ (.int .i64 ax)).setCell ⟨w.heap.size + 1, 1, none⟩ (.int .i64 ay)).setCell ⟨w.heap.size + 1, 2, none⟩ (.int .i64 az) := ⟨_, rfl⟩
  have HX3 := Lib.hid (show Box4 X3 w.heap.size 27 (.slice ia m ic) (.int .i64 ax) (.int .i64 ay) (.int .i64 az) from by rw [hX3]; exact ((HX2.out.other (by omega) _ _).other (by omega) _ _).other (by omega) _ _)
  have HB3 := Lib.hid (show Below w.heap.size w X3 from by rw [hX3]; exact ((HB2.out.setCell (Nat.le_succ _) _).setCell (Nat.le_succ _) _).setCell (Nat.le_succ _) _)
  have hv3 : X3.cell? ⟨w.heap.size + 1, 0, none⟩ = some (.int .i64 ax) ∧ X3.cell? ⟨w.heap.size + 1, 1, none⟩ = some (.int .i64 ay) ∧ X3.cell? ⟨w.heap.size + 1, 2, none⟩ = some (.int .i64 az) := by
    have hh := HV2.out
    unfold Box at hh
    rw [hX3]
    refine ⟨?_, ?_, ?_⟩ <;> simp [World.cell?, World.setCell, Array.getElem?_modify, hh]
  have HV3 := Lib.hid hv3
  clear hv3
  obtain ⟨z0, z1, z2⟩ := HV2.out.cells
  have zf : ∀ o, w2.frozen? ⟨w.heap.size + 1, o, none⟩ = false := fun o => by
    have hh := HV2.out
    unfold Box at hh
    simp [World.frozen?, hh]
  refine wpAnyH_ready (rs := [6]) (by kernel_rfl) (by simp) ?_
  refine AllReadyH.cons rfl (fun K hK => ?_) AllReadyH.nil
  go_simp
  rw [← hX3]
  (try dsimp only)
  refine hK.out _ _ (by exact ⟨HX3.out.cells.2.1, HX3.out.cells.2.2.1, HX3.out.cells.2.2.2⟩) (fun hHeld => ?_)
  clear hK K z0 z1 z2 zf hX3
  (try simp only [Act.put, List.setIfInBounds_toArray, List.set_cons_zero, List.set_cons_succ, List.getElem_toArray, List.getElem_cons_zero, List.getElem_cons_succ])
  first | (refine wpAnyH_take (i := 7) (v := ?_) rfl (by kernel_rfl) (by kernel_rfl) (by kernel_rfl) (fun _ _ _ h => h) (Or.inl ⟨by rfl, ?_⟩) (by assumption) ?_; rotate_left; (intro X hSw; (try dsimp only at hSw); go_simp; (try with_reducible rfl)); (try simp only [Act.put, List.setIfInBounds_toArray, List.set_cons_zero, List.set_cons_succ, List.getElem_toArray, List.getElem_cons_zero, List.getElem_cons_succ])) | fail "take 7"
  refine wpAnyH_done (by kernel_rfl) ?_ _
  obtain ⟨z0, z1, z2⟩ := HV3.out
  go_wp2_with fail
  refine bodyPost_ret (by simp [results, Tryz.results97, go_sem, *]; try rfl) rfl ?_
  exact ⟨rfl, HB3.out⟩
theorem inverseStart_run (k : Int) (l : List (Bool × Int)) (w : World) : Calls Tryz.prog 95 #[.int .i64 k] w (IvMade (Agg.removes k) (Agg.ivRun k l 0) w) := by
  have e : Agg.ivRun k l 0 = if Agg.removes k then ⟨[], Agg.unit k⟩ else Agg.zeroIv := by
    unfold Agg.ivRun
    cases Agg.removes k
    · rfl
    · simp only [if_true, Agg.ivAt, Agg.winAt, Agg.fold_nil]
  rw [e]
  exact inverseStart_any k w
theorem inverseStep_run {k : Int} {l : List (Bool × Int)} (hr : Agg.removes k = true) (h : Agg.opsOk l = true) {j : Nat} (hj : j < l.length) (w : World) (ia : Option Addr) (ic : Nat) (hI : Nums .i64 w ia (Agg.ivRun k l j).items.length ic (Agg.ivRun k l j).items) :
    Calls Tryz.prog 14 #[.int .i64 k, .agg #[.slice ia (Agg.ivRun k l j).items.length ic, .int .i64 (Agg.ivRun k l j).agg.x, .int .i64 (Agg.ivRun k l j).agg.y, .int .i64 (Agg.ivRun k l j).agg.z], .agg #[.bool (Agg.opAt l j).1, .int .i64 (Agg.opAt l j).2]] w (IvMade true (Agg.ivRun k l (j + 1)) w) := by
  have e : ∀ i, Agg.ivRun k l i = Agg.ivAt k l i := fun i => by simp [Agg.ivRun, hr]
  rw [e] at hI ⊢
  rw [e]
  obtain ⟨h1, h2⟩ := Agg.iv_step hr h hj
  have := inverseStep_any k ia (Agg.ivAt k l j).items.length ic (Agg.ivAt k l j).agg.x (Agg.ivAt k l j).agg.y (Agg.ivAt k l j).agg.z (Agg.ivAt k l j).items (Agg.opAt l j).1 (Agg.opAt l j).2 w hI
  rw [show Agg.ivCan k ⟨(Agg.ivAt k l j).items, ⟨(Agg.ivAt k l j).agg.x, (Agg.ivAt k l j).agg.y, (Agg.ivAt k l j).agg.z⟩⟩ ((Agg.opAt l j).1, (Agg.opAt l j).2) = true from h1,
    show Agg.aIv k ⟨(Agg.ivAt k l j).items, ⟨(Agg.ivAt k l j).agg.x, (Agg.ivAt k l j).agg.y, (Agg.ivAt k l j).agg.z⟩⟩ ((Agg.opAt l j).1, (Agg.opAt l j).2) = Agg.ivAt k l (j + 1) from h2] at this
  refine this.mono ?_
  rintro e w1 ⟨v, rfl, ⟨iv, rfl, ho⟩, hb⟩
  exact ⟨iv, rfl, ho, hb⟩
theorem statesOf_ivRun (k : Int) (a : Option Addr) (n cap : Nat) (l : List (Bool × Int)) (w : World) (h : Ops w a n cap l) :
    Calls Tryz.prog 94 #[.int .i64 k, .slice a n cap, .func (.func 95) #[] #[], .func (.func 14) #[] #[]] w (IvStates (Agg.ivRunOk k l) (n + 1) (Agg.ivRun k l) w) :=
  statesOf_iv k 95 14 (fun args w => by kernel_rfl) (fun args w => by kernel_rfl) (Agg.removes k) (Agg.ivRun k l) a n cap l w h (fun w' => inverseStart_run k l w')
    (fun hk ho j hj w' ia ic hI => inverseStep_run hk ho (by rw [h.1]; exact hj) w' ia ic hI)
theorem Agg.numsV_iv (k : Int) (l : List (Bool × Int)) : Agg.numsV k (fun j => (Agg.ivAt k l (1 + j)).agg) l.length = Agg.qs k l := by
  unfold Agg.numsV Agg.qs
  apply List.map_congr_left
  intro i _
  rw [Nat.add_comm]
  rfl
set_option maxRecDepth 8000 in
set_option maxHeartbeats 4000000 in
theorem inverseRun_apart (k : Int) (a : Option Addr) (n cap : Nat) (l : List (Bool × Int)) (w : World) (h : Ops w a n cap l) :
    Calls Tryz.prog 42 #[.int .i64 k, .slice a n cap] w (IvRunApart (Agg.ivRunOk k l) (Agg.ivRunS k l) (Agg.ivRunN k l) w) := by
  obtain ⟨W, hW⟩ : ∃ W, W = w.alloc (.cells #[.slice none 0 0, .int .i64 0, .int .i64 0, .int .i64 0] 27) := ⟨_, rfl⟩
  have HZ := Lib.hid (show Box4 W w.heap.size 27 (.slice none 0 0) (.int .i64 0) (.int .i64 0) (.int .i64 0) from by rw [hW]; exact Box4.new w _ _ _ _ _)
  have HB := Lib.hid (show Below w.heap.size w W from by rw [hW]; exact (Below.refl _ _).alloc (Nat.le_refl _) _)
  have hll : l.length = n := h.1
  have HLL := Lib.hid hll
  have HST := Lib.hid (statesOf_ivRun k a n cap l W (h.below HB.out))
  obtain ⟨RB, hRB⟩ : ∃ RB, RB = Agg.ivRunOk k l := ⟨_, rfl⟩
  rw [← hRB] at HST ⊢
  have HRB := Lib.hid hRB
  obtain ⟨RS, hRS⟩ : ∃ RS, RS = Agg.ivRunS k l := ⟨_, rfl⟩
  obtain ⟨RN, hRN⟩ : ∃ RN, RN = Agg.ivRunN k l := ⟨_, rfl⟩
  rw [← hRS, ← hRN]
  have HRS := Lib.hid hRS
  have HRN := Lib.hid hRN
  clear hRS hRN
  have hWs : w.heap.size < W.heap.size := HZ.out.lt
  have hnm : n ≤ 9223372036854775807 := by have := h.2.1; have := h.2.2.1; unfold maxLen at this; omega
  clear hRB hll h
  go_enter Tryz.func42, Tryz.ntmps42
  go_upto_region 1 with (fail)
  rw [← hW]
  clear hW
  go_wp2_with fail
  refine HST.out.mono ?_
  rintro e w1 ⟨v1, rfl, hr1, hb1⟩
  have HZ1 := Lib.hid (HZ.out.call hb1)
  have HB1 := Lib.hid (HB.out.trans (hb1.mono HB.out.size))
  have hw1 : W.heap.size ≤ w1.heap.size := hb1.size
  clear hb1 HST HZ HB
  cases RB
  · obtain rfl : RS = Agg.zeroIv := by rw [HRS.out]; unfold Agg.ivRunS; rw [← HRB.out]; rfl
    obtain rfl : RN = [] := by rw [HRN.out]; unfold Agg.ivRunN; rw [← HRB.out]; rfl
    clear hr1
    obtain ⟨s0, s1, s2, s3⟩ := HZ1.out.cells
    have e0 := HZ1.out.free
    go_wp2_with fail
    refine bodyPost_ret (by simp [results, Tryz.results42, go_sem, *]; try rfl) rfl ?_
    have hbb := sets4 HB1.out (Nat.le_refl _) (.slice none 0 0) (.int .i64 0) (.int .i64 0) (.int .i64 0)
    exact ⟨_, _, 0, _, rfl, ⟨_, rfl, ⟨World.ownsRow_nil _ _ _ _, hbb.size, Nat.le_refl _, fun g hg => by simp [Value.ownBlock] at hg⟩⟩, ⟨World.ownsRow_nil _ _ _ _, Nat.le_refl _, Nat.le_refl _, fun g hg => by simp [Value.ownBlock] at hg⟩, hbb.size, Nat.le_refl _, hbb⟩
  · have hro := HRB.out.symm
    simp only [Agg.ivRunOk, Bool.and_eq_true] at hro
    obtain ⟨hk, hops⟩ := hro
    have hn2 : n ≤ 200 := by
      have := (Agg.opsOk_parts hops).1
      have := HLL.out
      omega
    have e1 : RS = Agg.ivAt k l n := by rw [HRS.out]; unfold Agg.ivRunS; rw [← HRB.out, HLL.out]; rfl
    have e2 : RN = Agg.numsV k (fun j => (Agg.ivAt k l (1 + j)).agg) n := by rw [HRN.out]; unfold Agg.ivRunN; rw [← HRB.out, ← HLL.out, Agg.numsV_iv]; rfl
    have e3 : Agg.ivRun k l = Agg.ivAt k l := by funext j; simp [Agg.ivRun, hk]
    rw [e3] at hr1
    obtain ⟨c, hrow⟩ := hr1 (by first | rfl | trivial)
    obtain ⟨g, cap1, fv, lo1, rfl, ⟨q0, q1, q2, q3⟩, hlo1, hown⟩ := hrow.own (i := n) (by omega)
    obtain ⟨g', cap', e4, hgb, hg, hcap1, hcm1, hread⟩ := hrow.read (by omega)
    simp only [Value.slice.injEq, Option.some.injEq, Addr.mk.injEq, and_true, true_and] at e4
    obtain ⟨rfl, rfl⟩ := e4
    have hat := hread 1 (by omega)
    rw [Nat.one_mul, Nat.add_sub_cancel] at hat
    have HAT := Lib.hid hat
    have HN := Lib.hid (fun (a' : Option Addr) (n' c' : Nat) (W' : World) (hn' : n' = n) (H : IvsAt W' a' n' c' (fun j => Agg.ivAt k l (1 + j))) => show Calls Tryz.prog 96 #[.int .i64 k, .slice a' n' c', .func (.func 97) #[] #[]] W' (MadeRow (Agg.numsV k (fun j => (Agg.ivAt k l (1 + j)).agg) n) n W') from by
      subst hn'
      exact numbersOf_iv k 97 (fun args w => by kernel_rfl) (fun j => Agg.ivAt k l (1 + j)) (fun j => (Agg.ivAt k l (1 + j)).agg) a' n' c' (by omega) W' H
        (fun j hj w' ia ic hI => by
          have hv : Agg.valid k (Agg.ivAt k l (1 + j)).agg = true := by
            have hkk := Agg.removes_kind hk
            have ho := Agg.ok_fold_all hkk (Agg.win_ok hops (1 + j) (by have := HLL.out; omega))
            simp only [Agg.valid, hkk, Bool.true_and]
            exact ho
          have := inverseValue_any k ia (Agg.ivAt k l (1 + j)).items.length ic (Agg.ivAt k l (1 + j)).agg.x (Agg.ivAt k l (1 + j)).agg.y (Agg.ivAt k l (1 + j)).agg.z w'
          rw [show Agg.valid k ⟨(Agg.ivAt k l (1 + j)).agg.x, (Agg.ivAt k l (1 + j)).agg.y, (Agg.ivAt k l (1 + j)).agg.z⟩ = true from hv] at this
          exact this))
    rw [← e2] at HN
    rw [← e1] at hown q1 q2 q3
    clear e1 e2 HRS HRN
    obtain ⟨I, ⟨bx, by', bz⟩⟩ := RS
    simp only at hown q1 q2 q3
    obtain ⟨ia, ic, rfl, -, -⟩ := id hown.nums
    (try simp only at hown q0)
    have HOWN := Lib.hid hown
    have hlow : w.heap.size < lo1 := by omega
    have hk0 : (0 : Int) ≤ (n : Int) := Int.natCast_nonneg _
    obtain ⟨N1, hN1⟩ : ∃ N1, N1 = n + 1 := ⟨_, rfl⟩
    rw [← hN1] at hcap1 ⊢
    have hkn : (n : Int) < (N1 : Int) := by omega
    have h1n : (1 : Int) ≤ (N1 : Int) := by omega
    have hnc1 : (N1 : Int) ≤ (cap1 : Int) := by omega
    have HN1 := Lib.hid hN1
    clear hr1 hread hrow e3 hk hops hat hown hN1
    go_wp2_with fail
    have HG := Lib.hid (show g ≠ w.heap.size from by omega)
    have HGL := Lib.hid hg
    have HN2 := Lib.hid (show N1 - 1 = n from by have := HN1.out; omega)
    clear hgb hg
    by_cases hc1 : cap1 = 1
    · subst hc1
      have HAT2 := Lib.hid (fun (X : World) (h : Below w1.heap.size w1 X) => show IvsAt X (some ⟨g, 0, none⟩) 0 0 (fun j => Agg.ivAt k l (1 + j)) from ⟨by omega, by omega, .inl rfl⟩)
      have HNN := Lib.hid (show 0 = n from by have := HN1.out; omega)
      refine wp_region_held_drew (S := (fun X => X.cell? ⟨g, n * 4, none⟩ = some (.slice ia I.length ic) ∧ X.cell? ⟨g, n * 4 + 1, none⟩ = some (.int .i64 bx) ∧ X.cell? ⟨g, n * 4 + 2, none⟩ = some (.int .i64 by') ∧ X.cell? ⟨g, n * 4 + 3, none⟩ = some (.int .i64 bz))) (by kernel_rfl) (by first | (refine ⟨?_, ?_, ?_, ?_⟩ <;> assumption)) (fun hHeld => ?_)
      first | (refine wpAnyH_take (i := 0) (v := ?_) rfl (by kernel_rfl) (by kernel_rfl) (by kernel_rfl) (fun _ _ _ h => h) (Or.inl ⟨by rfl, ?_⟩) (by assumption) ?_; rotate_left; (intro X hSw; (try dsimp only at hSw); go_simp; (try with_reducible rfl)); (try simp only [Act.put, List.setIfInBounds_toArray, List.set_cons_zero, List.set_cons_succ, List.getElem_toArray, List.getElem_cons_zero, List.getElem_cons_succ])) | fail "take 0"
      first | (refine wpAnyH_take (i := 1) (v := ?_) rfl (by kernel_rfl) (by kernel_rfl) (by kernel_rfl) (fun _ _ _ h => h) (Or.inl ⟨by rfl, ?_⟩) (by assumption) ?_; rotate_left; (intro X hSw; (try dsimp only at hSw); go_simp; (try with_reducible rfl)); (try simp only [Act.put, List.setIfInBounds_toArray, List.set_cons_zero, List.set_cons_succ, List.getElem_toArray, List.getElem_cons_zero, List.getElem_cons_succ])) | fail "take 1"
      first | (refine wpAnyH_take (i := 2) (v := ?_) rfl (by kernel_rfl) (by kernel_rfl) (by kernel_rfl) (fun _ _ _ h => h) (Or.inl ⟨by rfl, ?_⟩) (by assumption) ?_; rotate_left; (intro X hSw; (try dsimp only at hSw); go_simp; (try with_reducible rfl)); (try simp only [Act.put, List.setIfInBounds_toArray, List.set_cons_zero, List.set_cons_succ, List.getElem_toArray, List.getElem_cons_zero, List.getElem_cons_succ])) | fail "take 2"
      first | (refine wpAnyH_take (i := 3) (v := ?_) rfl (by kernel_rfl) (by kernel_rfl) (by kernel_rfl) (fun _ _ _ h => h) (Or.inl ⟨by rfl, ?_⟩) (by assumption) ?_; rotate_left; (intro X hSw; (try dsimp only at hSw); go_simp; (try with_reducible rfl)); (try simp only [Act.put, List.setIfInBounds_toArray, List.set_cons_zero, List.set_cons_succ, List.getElem_toArray, List.getElem_cons_zero, List.getElem_cons_succ])) | fail "take 3"
      first | (refine wpAnyH_take (i := 4) (v := ?_) rfl (by kernel_rfl) (by kernel_rfl) (by kernel_rfl) (fun _ _ _ h => h) (Or.inl ⟨by rfl, ?_⟩) (by assumption) ?_; rotate_left; (intro X hSw; (try dsimp only at hSw); go_simp; (try with_reducible rfl)); (try simp only [Act.put, List.setIfInBounds_toArray, List.set_cons_zero, List.set_cons_succ, List.getElem_toArray, List.getElem_cons_zero, List.getElem_cons_succ])) | fail "take 4"
      first | (refine wpAnyH_take (i := 5) (v := ?_) rfl (by kernel_rfl) (by kernel_rfl) (by kernel_rfl) (fun _ _ _ h => h) (Or.inl ⟨by rfl, ?_⟩) (by assumption) ?_; rotate_left; (intro X hSw; (try dsimp only at hSw); go_simp; (try with_reducible rfl)); (try simp only [Act.put, List.setIfInBounds_toArray, List.set_cons_zero, List.set_cons_succ, List.getElem_toArray, List.getElem_cons_zero, List.getElem_cons_succ])) | fail "take 5"
      first | (refine wpAnyH_take (i := 6) (v := ?_) rfl (by kernel_rfl) (by kernel_rfl) (by kernel_rfl) (fun _ _ _ h => h) (Or.inl ⟨by rfl, ?_⟩) (by assumption) ?_; rotate_left; (intro X hSw; (try dsimp only at hSw); go_simp; (try with_reducible rfl)); (try simp only [Act.put, List.setIfInBounds_toArray, List.set_cons_zero, List.set_cons_succ, List.getElem_toArray, List.getElem_cons_zero, List.getElem_cons_succ])) | fail "take 6"
      first | (refine wpAnyH_take (i := 7) (v := ?_) rfl (by kernel_rfl) (by kernel_rfl) (by kernel_rfl) (fun _ _ _ h => h) (Or.inl ⟨by rfl, ?_⟩) (by assumption) ?_; rotate_left; (intro X hSw; (try dsimp only at hSw); go_simp; (try with_reducible rfl)); (try simp only [Act.put, List.setIfInBounds_toArray, List.set_cons_zero, List.set_cons_succ, List.getElem_toArray, List.getElem_cons_zero, List.getElem_cons_succ])) | fail "take 7"
      refine wpAnyH_ready (rs := [8]) (by kernel_rfl) (by simp) ?_
      refine AllReadyH.cons rfl (fun K hK => ?_) AllReadyH.nil
      go_simp
      refine (HN.out _ _ _ _ HNN.out (HAT2.out w1.drew (Below.refl _ _).drew)).mono ?_
      rintro e w2 ⟨u2, rfl, hu2, hb2⟩
      have HZ2 := Lib.hid (HZ1.out.callD hb2)
      have HB2 := Lib.hid (v_below_callD HB1.out hb2)
      have HOWN2 := Lib.hid (OwnR.below (w := w1.drew) HOWN.out hb2)
      have HU2 := Lib.hid hu2
      have k2 := fun o => Below.cell (w := w1.drew) (p := ⟨g, o, none⟩) hb2 HGL.out
      have q0 := (k2 _).trans q0
      have q1 := (k2 _).trans q1
      have q2 := (k2 _).trans q2
      have q3 := (k2 _).trans q3
      have hw2 : w1.heap.size ≤ w2.heap.size := hb2.size
      clear k2 hb2 hu2
      (try dsimp only)
      refine hK.out _ _ (by first | (refine ⟨?_, ?_, ?_, ?_⟩ <;> assumption)) (fun hHeld => ?_)
      clear hK K
      (try simp only [Act.put, List.setIfInBounds_toArray, List.set_cons_zero, List.set_cons_succ, List.getElem_toArray, List.getElem_cons_zero, List.getElem_cons_succ])
      obtain ⟨X3, hX3⟩ : ∃ X3, X3 = ((((w2.setCell ⟨w.heap.size, 0, none⟩ (.slice ia I.length ic)).setCell ⟨w.heap.size, 1, none⟩ (.int .i64 bx)).setCell ⟨w.heap.size, 2, none⟩ (.int .i64 by')).setCell ⟨w.heap.size, 3, none⟩ (.int .i64 bz)) := ⟨_, rfl⟩
      have HZ3 := Lib.hid (show Box4 X3 w.heap.size 27 (.slice ia I.length ic) (.int .i64 bx) (.int .i64 by') (.int .i64 bz) from by rw [hX3]; exact (((HZ2.out.set0 _).set1 _).set2 _).set3 _)
      have HB3 := Lib.hid (show Below w.heap.size w X3 from by rw [hX3]; exact sets4 HB2.out (Nat.le_refl _) _ _ _ _)
      have HOWN3 := Lib.hid (show OwnR X3 w.heap.size w1.heap.size (.slice ia I.length ic) I.length I from by
        rw [hX3]
        exact ((((HOWN2.out.put hlow).put hlow).put hlow).put hlow).wide (Nat.le_of_lt hlow) (Nat.le_refl _) (by rw [size_sets4]; exact hw2))
      have HU3 := Lib.hid (show OwnR X3 w1.heap.size X3.heap.size u2 n RN from by
        rw [hX3]
        have hww : w.heap.size < w1.drew.heap.size := by show w.heap.size < w1.heap.size; omega
        exact ((((HU2.out.put hww).put hww).put hww).put hww).wide (Nat.le_refl _) (by rw [size_sets4]; exact Nat.le_refl _) (Nat.le_refl _))
      have HX1 := Lib.hid (show w1.heap.size ≤ X3.heap.size from by rw [hX3, size_sets4]; exact hw2)
      have kk : X3.cell? ⟨g, n * 4, none⟩ = some (.slice ia I.length ic) ∧ X3.cell? ⟨g, n * 4 + 1, none⟩ = some (.int .i64 bx) ∧ X3.cell? ⟨g, n * 4 + 2, none⟩ = some (.int .i64 by') ∧ X3.cell? ⟨g, n * 4 + 3, none⟩ = some (.int .i64 bz) := by
        rw [hX3]
        exact ⟨(set4_far HG.out).trans q0, (set4_far HG.out).trans q1, (set4_far HG.out).trans q2, (set4_far HG.out).trans q3⟩
      have KK := Lib.hid kk
      clear kk
      refine wpAnyH_ready (rs := [9]) (by kernel_rfl) (by simp) ?_
      refine AllReadyH.cons rfl (fun K hK => ?_) AllReadyH.nil
      obtain ⟨z0, z1, z2, z3⟩ := HZ2.out.cells
      have zf := HZ2.out.free
      go_simp
      rw [← hX3]
      (try dsimp only)
      refine hK.out _ _ (by exact KK.out) (fun hHeld => ?_)
      clear hK K z0 z1 z2 z3 zf
      (try simp only [Act.put, List.setIfInBounds_toArray, List.set_cons_zero, List.set_cons_succ, List.getElem_toArray, List.getElem_cons_zero, List.getElem_cons_succ])
      first | (refine wpAnyH_take (i := 10) (v := ?_) rfl (by kernel_rfl) (by kernel_rfl) (by kernel_rfl) (fun _ _ _ h => h) (Or.inl ⟨by rfl, ?_⟩) (by assumption) ?_; rotate_left; (intro X hSw; (try dsimp only at hSw); go_simp; (try with_reducible rfl)); (try simp only [Act.put, List.setIfInBounds_toArray, List.set_cons_zero, List.set_cons_succ, List.getElem_toArray, List.getElem_cons_zero, List.getElem_cons_succ])) | fail "take 10"
      first | (refine wpAnyH_take (i := 11) (v := ?_) rfl (by kernel_rfl) (by kernel_rfl) (by kernel_rfl) (fun _ _ _ h => h) (Or.inl ⟨by rfl, ?_⟩) (by assumption) ?_; rotate_left; (intro X hSw; (try dsimp only at hSw); go_simp; (try with_reducible rfl)); (try simp only [Act.put, List.setIfInBounds_toArray, List.set_cons_zero, List.set_cons_succ, List.getElem_toArray, List.getElem_cons_zero, List.getElem_cons_succ])) | fail "take 11"
      refine wpAnyH_done (by kernel_rfl) ?_ _
      clear hX3 q0 q1 q2 q3 HZ2 HB2 HOWN2 HU2 HZ1 HOWN hHeld
      obtain ⟨q0, q1, q2, q3⟩ := HZ3.out.cells
      go_wp2_with fail
      refine bodyPost_ret (by simp [results, Tryz.results42, go_sem, *]; try rfl) rfl ?_
      exact ⟨_, _, n, w1.heap.size, rfl, ⟨_, rfl, HOWN3.out⟩, HU3.out, by omega, HX1.out, HB3.out⟩
    · have hcc : (1 : Int) < (cap1 : Int) := by omega
      have hcn : ¬ (1 : Int) = (cap1 : Int) := by omega
      have HAT2 := Lib.hid (fun (X : World) (h : Below w1.heap.size w1 X) => show IvsAt X (some ⟨g, 4, none⟩) (N1 - 1) (cap1 - 1) (fun j => Agg.ivAt k l (1 + j)) from by rw [HN2.out]; exact HAT.out.below h)
      have HNN := HN2
      refine wp_region_held_drew (S := (fun X => X.cell? ⟨g, n * 4, none⟩ = some (.slice ia I.length ic) ∧ X.cell? ⟨g, n * 4 + 1, none⟩ = some (.int .i64 bx) ∧ X.cell? ⟨g, n * 4 + 2, none⟩ = some (.int .i64 by') ∧ X.cell? ⟨g, n * 4 + 3, none⟩ = some (.int .i64 bz))) (by kernel_rfl) (by first | (refine ⟨?_, ?_, ?_, ?_⟩ <;> assumption)) (fun hHeld => ?_)
      first | (refine wpAnyH_take (i := 0) (v := ?_) rfl (by kernel_rfl) (by kernel_rfl) (by kernel_rfl) (fun _ _ _ h => h) (Or.inl ⟨by rfl, ?_⟩) (by assumption) ?_; rotate_left; (intro X hSw; (try dsimp only at hSw); go_simp; (try with_reducible rfl)); (try simp only [Act.put, List.setIfInBounds_toArray, List.set_cons_zero, List.set_cons_succ, List.getElem_toArray, List.getElem_cons_zero, List.getElem_cons_succ])) | fail "take 0"
      first | (refine wpAnyH_take (i := 1) (v := ?_) rfl (by kernel_rfl) (by kernel_rfl) (by kernel_rfl) (fun _ _ _ h => h) (Or.inl ⟨by rfl, ?_⟩) (by assumption) ?_; rotate_left; (intro X hSw; (try dsimp only at hSw); go_simp; (try with_reducible rfl)); (try simp only [Act.put, List.setIfInBounds_toArray, List.set_cons_zero, List.set_cons_succ, List.getElem_toArray, List.getElem_cons_zero, List.getElem_cons_succ])) | fail "take 1"
      first | (refine wpAnyH_take (i := 2) (v := ?_) rfl (by kernel_rfl) (by kernel_rfl) (by kernel_rfl) (fun _ _ _ h => h) (Or.inl ⟨by rfl, ?_⟩) (by assumption) ?_; rotate_left; (intro X hSw; (try dsimp only at hSw); go_simp; (try with_reducible rfl)); (try simp only [Act.put, List.setIfInBounds_toArray, List.set_cons_zero, List.set_cons_succ, List.getElem_toArray, List.getElem_cons_zero, List.getElem_cons_succ])) | fail "take 2"
      first | (refine wpAnyH_take (i := 3) (v := ?_) rfl (by kernel_rfl) (by kernel_rfl) (by kernel_rfl) (fun _ _ _ h => h) (Or.inl ⟨by rfl, ?_⟩) (by assumption) ?_; rotate_left; (intro X hSw; (try dsimp only at hSw); go_simp; (try with_reducible rfl)); (try simp only [Act.put, List.setIfInBounds_toArray, List.set_cons_zero, List.set_cons_succ, List.getElem_toArray, List.getElem_cons_zero, List.getElem_cons_succ])) | fail "take 3"
      first | (refine wpAnyH_take (i := 4) (v := ?_) rfl (by kernel_rfl) (by kernel_rfl) (by kernel_rfl) (fun _ _ _ h => h) (Or.inl ⟨by rfl, ?_⟩) (by assumption) ?_; rotate_left; (intro X hSw; (try dsimp only at hSw); go_simp; (try with_reducible rfl)); (try simp only [Act.put, List.setIfInBounds_toArray, List.set_cons_zero, List.set_cons_succ, List.getElem_toArray, List.getElem_cons_zero, List.getElem_cons_succ])) | fail "take 4"
      first | (refine wpAnyH_take (i := 5) (v := ?_) rfl (by kernel_rfl) (by kernel_rfl) (by kernel_rfl) (fun _ _ _ h => h) (Or.inl ⟨by rfl, ?_⟩) (by assumption) ?_; rotate_left; (intro X hSw; (try dsimp only at hSw); go_simp; (try with_reducible rfl)); (try simp only [Act.put, List.setIfInBounds_toArray, List.set_cons_zero, List.set_cons_succ, List.getElem_toArray, List.getElem_cons_zero, List.getElem_cons_succ])) | fail "take 5"
      first | (refine wpAnyH_take (i := 6) (v := ?_) rfl (by kernel_rfl) (by kernel_rfl) (by kernel_rfl) (fun _ _ _ h => h) (Or.inl ⟨by rfl, ?_⟩) (by assumption) ?_; rotate_left; (intro X hSw; (try dsimp only at hSw); go_simp; (try with_reducible rfl)); (try simp only [Act.put, List.setIfInBounds_toArray, List.set_cons_zero, List.set_cons_succ, List.getElem_toArray, List.getElem_cons_zero, List.getElem_cons_succ])) | fail "take 6"
      first | (refine wpAnyH_take (i := 7) (v := ?_) rfl (by kernel_rfl) (by kernel_rfl) (by kernel_rfl) (fun _ _ _ h => h) (Or.inl ⟨by rfl, ?_⟩) (by assumption) ?_; rotate_left; (intro X hSw; (try dsimp only at hSw); go_simp; (try with_reducible rfl)); (try simp only [Act.put, List.setIfInBounds_toArray, List.set_cons_zero, List.set_cons_succ, List.getElem_toArray, List.getElem_cons_zero, List.getElem_cons_succ])) | fail "take 7"
      refine wpAnyH_ready (rs := [8]) (by kernel_rfl) (by simp) ?_
      refine AllReadyH.cons rfl (fun K hK => ?_) AllReadyH.nil
      go_simp
      refine (HN.out _ _ _ _ HNN.out (HAT2.out w1.drew (Below.refl _ _).drew)).mono ?_
      rintro e w2 ⟨u2, rfl, hu2, hb2⟩
      have HZ2 := Lib.hid (HZ1.out.callD hb2)
      have HB2 := Lib.hid (v_below_callD HB1.out hb2)
      have HOWN2 := Lib.hid (OwnR.below (w := w1.drew) HOWN.out hb2)
      have HU2 := Lib.hid hu2
      have k2 := fun o => Below.cell (w := w1.drew) (p := ⟨g, o, none⟩) hb2 HGL.out
      have q0 := (k2 _).trans q0
      have q1 := (k2 _).trans q1
      have q2 := (k2 _).trans q2
      have q3 := (k2 _).trans q3
      have hw2 : w1.heap.size ≤ w2.heap.size := hb2.size
      clear k2 hb2 hu2
      (try dsimp only)
      refine hK.out _ _ (by first | (refine ⟨?_, ?_, ?_, ?_⟩ <;> assumption)) (fun hHeld => ?_)
      clear hK K
      (try simp only [Act.put, List.setIfInBounds_toArray, List.set_cons_zero, List.set_cons_succ, List.getElem_toArray, List.getElem_cons_zero, List.getElem_cons_succ])
      obtain ⟨X3, hX3⟩ : ∃ X3, X3 = ((((w2.setCell ⟨w.heap.size, 0, none⟩ (.slice ia I.length ic)).setCell ⟨w.heap.size, 1, none⟩ (.int .i64 bx)).setCell ⟨w.heap.size, 2, none⟩ (.int .i64 by')).setCell ⟨w.heap.size, 3, none⟩ (.int .i64 bz)) := ⟨_, rfl⟩
      have HZ3 := Lib.hid (show Box4 X3 w.heap.size 27 (.slice ia I.length ic) (.int .i64 bx) (.int .i64 by') (.int .i64 bz) from by rw [hX3]; exact (((HZ2.out.set0 _).set1 _).set2 _).set3 _)
      have HB3 := Lib.hid (show Below w.heap.size w X3 from by rw [hX3]; exact sets4 HB2.out (Nat.le_refl _) _ _ _ _)
      have HOWN3 := Lib.hid (show OwnR X3 w.heap.size w1.heap.size (.slice ia I.length ic) I.length I from by
        rw [hX3]
        exact ((((HOWN2.out.put hlow).put hlow).put hlow).put hlow).wide (Nat.le_of_lt hlow) (Nat.le_refl _) (by rw [size_sets4]; exact hw2))
      have HU3 := Lib.hid (show OwnR X3 w1.heap.size X3.heap.size u2 n RN from by
        rw [hX3]
        have hww : w.heap.size < w1.drew.heap.size := by show w.heap.size < w1.heap.size; omega
        exact ((((HU2.out.put hww).put hww).put hww).put hww).wide (Nat.le_refl _) (by rw [size_sets4]; exact Nat.le_refl _) (Nat.le_refl _))
      have HX1 := Lib.hid (show w1.heap.size ≤ X3.heap.size from by rw [hX3, size_sets4]; exact hw2)
      have kk : X3.cell? ⟨g, n * 4, none⟩ = some (.slice ia I.length ic) ∧ X3.cell? ⟨g, n * 4 + 1, none⟩ = some (.int .i64 bx) ∧ X3.cell? ⟨g, n * 4 + 2, none⟩ = some (.int .i64 by') ∧ X3.cell? ⟨g, n * 4 + 3, none⟩ = some (.int .i64 bz) := by
        rw [hX3]
        exact ⟨(set4_far HG.out).trans q0, (set4_far HG.out).trans q1, (set4_far HG.out).trans q2, (set4_far HG.out).trans q3⟩
      have KK := Lib.hid kk
      clear kk
      refine wpAnyH_ready (rs := [9]) (by kernel_rfl) (by simp) ?_
      refine AllReadyH.cons rfl (fun K hK => ?_) AllReadyH.nil
      obtain ⟨z0, z1, z2, z3⟩ := HZ2.out.cells
      have zf := HZ2.out.free
      go_simp
      rw [← hX3]
      (try dsimp only)
      refine hK.out _ _ (by exact KK.out) (fun hHeld => ?_)
      clear hK K z0 z1 z2 z3 zf
      (try simp only [Act.put, List.setIfInBounds_toArray, List.set_cons_zero, List.set_cons_succ, List.getElem_toArray, List.getElem_cons_zero, List.getElem_cons_succ])
      first | (refine wpAnyH_take (i := 10) (v := ?_) rfl (by kernel_rfl) (by kernel_rfl) (by kernel_rfl) (fun _ _ _ h => h) (Or.inl ⟨by rfl, ?_⟩) (by assumption) ?_; rotate_left; (intro X hSw; (try dsimp only at hSw); go_simp; (try with_reducible rfl)); (try simp only [Act.put, List.setIfInBounds_toArray, List.set_cons_zero, List.set_cons_succ, List.getElem_toArray, List.getElem_cons_zero, List.getElem_cons_succ])) | fail "take 10"
      first | (refine wpAnyH_take (i := 11) (v := ?_) rfl (by kernel_rfl) (by kernel_rfl) (by kernel_rfl) (fun _ _ _ h => h) (Or.inl ⟨by rfl, ?_⟩) (by assumption) ?_; rotate_left; (intro X hSw; (try dsimp only at hSw); go_simp; (try with_reducible rfl)); (try simp only [Act.put, List.setIfInBounds_toArray, List.set_cons_zero, List.set_cons_succ, List.getElem_toArray, List.getElem_cons_zero, List.getElem_cons_succ])) | fail "take 11"
      refine wpAnyH_done (by kernel_rfl) ?_ _
      clear hX3 q0 q1 q2 q3 HZ2 HB2 HOWN2 HU2 HZ1 HOWN hHeld
      obtain ⟨q0, q1, q2, q3⟩ := HZ3.out.cells
      go_wp2_with fail
      refine bodyPost_ret (by simp [results, Tryz.results42, go_sem, *]; try rfl) rfl ?_
      exact ⟨_, _, n, w1.heap.size, rfl, ⟨_, rfl, HOWN3.out⟩, HU3.out, by omega, HX1.out, HB3.out⟩
theorem inverseRun_any (k : Int) (a : Option Addr) (n cap : Nat) (l : List (Bool × Int)) (w : World) (h : Ops w a n cap l) :
    Calls Tryz.prog 42 #[.int .i64 k, .slice a n cap] w (IvRunOut (Agg.ivRunOk k l) (Agg.ivRunS k l) (Agg.ivRunN k l) w) :=
  (inverseRun_apart k a n cap l w h).mono fun _ _ hh => hh.out
end Go.Proofs.YtmlkdbmhekiniaaGreat
