/-
  InverseStep in the program.
-/
import Derived.Test.YtehfijijapfomaaGreat6v
import Derived.Test.YtehfijijapfomaaGreat6s
import Derived.Test.YtehfijijapfomaaGreat2b
import Derived.Deep.Cut
import Derived.Deep.DeepMust
namespace Go.Proofs.YtehfijijapfomaaGreat
set_option linter.unusedSimpArgs false
set_option linter.unusedVariables false
open Go.RowKit
theorem p_slice {w : World} {base e size n : Nat} {v : Value} {xs : List Value} (h : w.ownsRow base e size v n xs) : ∃ a c, v = .slice a n c := by
  rcases h.2 with ⟨rfl, rfl⟩ | ⟨g, cap, cur, rfl, -⟩
  · exact ⟨none, 0, rfl⟩
  · exact ⟨_, cap, rfl⟩
/-- What InverseStep answers, in memory of its own. -/
def IvOut (b : Bool) (s : Agg.Iv) (w : World) (e : Ending) (w' : World) : Prop :=
  ∃ v, e = .returned (.tuple #[v, .bool b]) ∧ IvOwn w' w.heap.size w'.heap.size v s ∧ Below w.heap.size w w'
theorem IvOut.zero {w w' : World} (hb : Below w.heap.size w w') : IvOut false Agg.zeroIv w (.returned (.tuple #[.agg #[.slice none 0 0, .int .i64 0, .int .i64 0, .int .i64 0], .bool false])) w' :=
  ⟨_, rfl, ⟨_, rfl, ⟨World.ownsRow_nil _ _ _ _, hb.size, Nat.le_refl _, fun g hg => by simp [Value.ownBlock] at hg⟩⟩, hb⟩
theorem sets4 {w wr : World} {c d : Nat} (h : Below d w wr) (hd : d ≤ c) (u0 u1 u2 u3 : Value) :
    Below d w ((((wr.setCell ⟨c, 0, none⟩ u0).setCell ⟨c, 1, none⟩ u1).setCell ⟨c, 2, none⟩ u2).setCell ⟨c, 3, none⟩ u3) := (((h.setCell hd u0).setCell hd u1).setCell hd u2).setCell hd u3
theorem size_sets4 {wr : World} {c : Nat} (u0 u1 u2 u3 : Value) : ((((wr.setCell ⟨c, 0, none⟩ u0).setCell ⟨c, 1, none⟩ u1).setCell ⟨c, 2, none⟩ u2).setCell ⟨c, 3, none⟩ u3).heap.size = wr.heap.size := by simp [World.setCell]
theorem own_setlow {w : World} {base e size n d o : Nat} {v u : Value} {xs : List Value} (h : w.ownsRow base e size v n xs) (hd : d < base) : (w.setCell ⟨d, o, none⟩ u).ownsRow base e size v n xs := ownsRow_setCell_below h hd u
theorem lit_kept {Y Z : World} {c : Nat} {u : Value} (h : ∀ j v, ([u])[j]? = some v → Y.cell? ((⟨c, 0, none⟩ : Addr).add j) = some v) (hb : Below Y.heap.size Y Z) (hc : c < Y.heap.size) : ∀ j v, ([u])[j]? = some v → Z.cell? ((⟨c, 0, none⟩ : Addr).add j) = some v := by
  intro j v hj
  rw [Addr.add_lit]
  have h1 := h j v hj
  rw [Addr.add_lit] at h1
  exact (hb.cell (p := ⟨c, 0 + j, none⟩) hc).trans h1
def Box2p (w : World) (c : Nat) (T : TypeId) (u v : Value) : Prop := w.heap[c]? = some (.cells #[u, v] T (0, 0))
theorem Box2p.cells {w : World} {c : Nat} {T : TypeId} {u v : Value} (h : Box2p w c T u v) : w.cell? ⟨c, 0, none⟩ = some u ∧ w.cell? ⟨c, 1, none⟩ = some v := by
  unfold Box2p at h
  constructor <;> simp [World.cell?, h]
/-- The variables of a change under way. -/
structure IvJ (w : World) (iv : Value) (ax ay az : Int) (p : Bool) (x : Int) (W : World) : Prop where
  s : Box4 W w.heap.size 32 iv (.int .i64 ax) (.int .i64 ay) (.int .i64 az)
  o : Box2p W (w.heap.size + 1) 36 (.bool p) (.int .i64 x)
  r : Box4 W (w.heap.size + 1 + 1) 32 (.slice none 0 0) (.int .i64 0) (.int .i64 0) (.int .i64 0)
  b : Below w.heap.size w W
theorem IvJ.lt {w W : World} {iv : Value} {ax ay az : Int} {p : Bool} {x : Int} (h : IvJ w iv ax ay az p x W) : w.heap.size + 3 ≤ W.heap.size := by have := h.r.lt; omega
theorem IvJ.call {w X Y : World} {iv : Value} {ax ay az : Int} {p : Bool} {x : Int} (h : IvJ w iv ax ay az p x X) (hb : Below X.heap.size X Y) : IvJ w iv ax ay az p x Y :=
  ⟨h.s.call hb, (hb.block _ (Array.getElem?_eq_some_iff.1 h.o).1).trans h.o, h.r.call hb, h.b.trans (hb.mono h.b.size)⟩
theorem IvJ.drew {w X : World} {iv : Value} {ax ay az : Int} {p : Bool} {x : Int} (h : IvJ w iv ax ay az p x X) : IvJ w iv ax ay az p x X.drew := ⟨h.s, h.o, h.r, h.b.drew⟩
theorem IvJ.grown {w X Y : World} {iv : Value} {ax ay az : Int} {p : Bool} {x : Int} {row : Option Nat} (h : IvJ w iv ax ay az p x X) (hg : X.grownBy Y row) (hr : ∀ g, row = some g → w.heap.size + 3 ≤ g) : IvJ w iv ax ay az p x Y :=
  ⟨h.s.grown hg (fun e => by have := hr _ e; omega), (hg.block _ (Array.getElem?_eq_some_iff.1 h.o).1 (fun e => by have := hr _ e.symm; omega)).trans h.o, h.r.grown hg (fun e => by have := hr _ e; omega), h.b.grown hg h.b.size (fun g e => by have := hr g e; omega)⟩
theorem IvJ.setAgg {w X : World} {iv : Value} {ax ay az : Int} {p : Bool} {x : Int} (h : IvJ w iv ax ay az p x X) (x' y' z' : Int) :
    IvJ w iv x' y' z' p x (((X.setCell ⟨w.heap.size, 1, none⟩ (.int .i64 x')).setCell ⟨w.heap.size, 2, none⟩ (.int .i64 y')).setCell ⟨w.heap.size, 3, none⟩ (.int .i64 z')) := by
  refine ⟨((h.s.set1 _).set2 _).set3 _, ?_, ((h.r.other (by omega) _ _).other (by omega) _ _).other (by omega) _ _, ((h.b.setCell (Nat.le_refl _) _).setCell (Nat.le_refl _) _).setCell (Nat.le_refl _) _⟩
  have := h.o
  unfold Box2p at *
  rw [Below.heap_setCell _ _ _ _ (by simp), Below.heap_setCell _ _ _ _ (by simp), Below.heap_setCell _ _ _ _ (by simp)]
  exact this
theorem IvJ.setItems {w X : World} {iv : Value} {ax ay az : Int} {p : Bool} {x : Int} (h : IvJ w iv ax ay az p x X) (v : Value) : IvJ w v ax ay az p x (X.setCell ⟨w.heap.size, 0, none⟩ v) := by
  refine ⟨h.s.set0 _, ?_, h.r.other (by omega) _ _, h.b.setCell (Nat.le_refl _) _⟩
  have := h.o
  unfold Box2p at *
  rw [Below.heap_setCell _ _ _ _ (by simp)]
  exact this
/-- The result is written. -/
theorem iv_out {w Y : World} {iv : Value} {s : Agg.Iv} (hB : Below w.heap.size w Y) (hi : Y.ownsRow (w.heap.size + 3) 3 1 iv s.items.length (s.items.map (Value.int .i64))) (u0 u1 u2 u3 : Value) :
    IvOut true s w (.returned (.tuple #[.agg #[iv, .int .i64 s.agg.x, .int .i64 s.agg.y, .int .i64 s.agg.z], .bool true])) ((((Y.setCell ⟨w.heap.size + 1 + 1, 0, none⟩ u0).setCell ⟨w.heap.size + 1 + 1, 1, none⟩ u1).setCell ⟨w.heap.size + 1 + 1, 2, none⟩ u2).setCell ⟨w.heap.size + 1 + 1, 3, none⟩ u3) := by
  have hB' := sets4 hB (c := w.heap.size + 1 + 1) (by omega) u0 u1 u2 u3
  have h2 : ((((Y.setCell ⟨w.heap.size + 1 + 1, 0, none⟩ u0).setCell ⟨w.heap.size + 1 + 1, 1, none⟩ u1).setCell ⟨w.heap.size + 1 + 1, 2, none⟩ u2).setCell ⟨w.heap.size + 1 + 1, 3, none⟩ u3).ownsRow (w.heap.size + 3) 3 1 iv s.items.length (s.items.map (Value.int .i64)) :=
    own_setlow (own_setlow (own_setlow (own_setlow hi (by omega)) (by omega)) (by omega)) (by omega)
  exact ⟨_, rfl, ⟨iv, rfl, ⟨owns_lower h2 (by omega), hB'.size, Nat.le_refl _, fun g hg => (h2.lt g hg).2⟩⟩, hB'⟩
set_option maxRecDepth 8000 in
set_option maxHeartbeats 8000000 in
theorem inverseStep_not (k : Int) (ia : Option Addr) (m ic : Nat) (ax ay az : Int) (I : List Int) (p : Bool) (x : Int) (w : World) (hI : Nums .i64 w ia m ic I) (hst : Agg.ivCan k ⟨I, ⟨ax, ay, az⟩⟩ (p, x) = false) :
    Calls Tryz.prog 11 #[.int .i64 k, .agg #[.slice ia m ic, .int .i64 ax, .int .i64 ay, .int .i64 az], .agg #[.bool p, .int .i64 x]] w (IvOut false Agg.zeroIv w) := by
  obtain ⟨W, hW⟩ : ∃ W, W = ((w.alloc (.cells #[.slice ia m ic, .int .i64 ax, .int .i64 ay, .int .i64 az] 32)).alloc (.cells #[.bool p, .int .i64 x] 36)).alloc (.cells #[.slice none 0 0, .int .i64 0, .int .i64 0, .int .i64 0] 32) := ⟨_, rfl⟩
  have HJ := Lib.hid (show IvJ w (.slice ia m ic) ax ay az p x W from by
    rw [hW]
    exact ⟨((Box4.new w _ _ _ _ _).alloc _).alloc _, (Below.heap_alloc _ _ (w.heap.size + 1) (by simp)).trans (by have := heap_alloc_new (w.alloc (.cells #[.slice ia m ic, .int .i64 ax, .int .i64 ay, .int .i64 az] 32)) (.cells #[.bool p, .int .i64 x] 36); simpa using this), Box4.new1 _ _ _ _ _ (by simp), (((Below.refl _ _).alloc (Nat.le_refl _) _).alloc (by simp) _).alloc (by simp; omega) _⟩)
  have HIL := Lib.hid (show I.length = m from hI.1)
  have hV := fun w hI => inverseValid_any k ia m ic ax ay az I w hI
  have HI0 := Lib.hid hI
  clear hI
  obtain ⟨q0, q1, q2, q3⟩ := HJ.out.s.cells
  obtain ⟨p0, p1⟩ := HJ.out.o.cells
  cases hr : Agg.removes k
  · have HR := Lib.hid hr
    clear hV hst hr
    go_enter Tryz.func11, Tryz.ntmps11
    go_upto_region 1 with (fail)
    rw [← hW]
    clear hW
    go_wp2_with fail
    refine (removerOf_not k _ HR.out).mono ?_
    rintro e w1 ⟨rfl, rfl⟩
    obtain ⟨s0, s1, s2, s3⟩ := HJ.out.r.cells
    have e0 := HJ.out.r.free
    go_wp2_with fail
    refine bodyPost_ret (by simp [results, Tryz.results11, go_sem, *]; try rfl) rfl ?_
    exact IvOut.zero (sets4 HJ.out.b (by omega) _ _ _ _)
  · obtain ⟨T, fu, fl, fc, fr, R⟩ := rem_at hr
    have HRO := Lib.hid R.of
    cases hv : Agg.ivOk k ⟨I, ⟨ax, ay, az⟩⟩
    · rw [hv] at hV
      have HV := Lib.hid hV
      clear hV hst hr hv R
      go_enter Tryz.func11, Tryz.ntmps11
      go_upto_region 1 with (fail)
      rw [← hW]
      clear hW
      go_wp2_with fail
      refine (HRO.out _).mono ?_
      rintro e w1 ⟨rfl, rfl⟩
      go_wp2_with fail
      refine (HV.out _ (HI0.out.below HJ.out.b)).mono ?_
      rintro e w1 ⟨rfl, hb1⟩
      have HJ := Lib.hid (HJ.out.call hb1)
      clear hb1 q0 q1 q2 q3 p0 p1
      obtain ⟨q0, q1, q2, q3⟩ := HJ.out.s.cells
      obtain ⟨p0, p1⟩ := HJ.out.o.cells
      obtain ⟨s0, s1, s2, s3⟩ := HJ.out.r.cells
      have e0 := HJ.out.r.free
      go_wp2_with fail
      refine bodyPost_ret (by simp [results, Tryz.results11, go_sem, *]; try rfl) rfl ?_
      exact IvOut.zero (sets4 HJ.out.b (by omega) _ _ _ _)
    · have hcan : Agg.can (p, x) (m : Int) = false := by
        simp only [Agg.ivCan, hv, Bool.true_and, HIL.out] at hst
        exact hst
      have hC := fun w => canChange_any p x (m : Int) w
      rw [hcan] at hC
      rw [hv] at hV
      have HV := Lib.hid hV
      have HC := Lib.hid hC
      clear hV hst hr hv R hC hcan
      go_enter Tryz.func11, Tryz.ntmps11
      go_upto_region 1 with (fail)
      rw [← hW]
      clear hW
      go_wp2_with fail
      refine (HRO.out _).mono ?_
      rintro e w1 ⟨rfl, rfl⟩
      go_wp2_with fail
      refine (HV.out _ (HI0.out.below HJ.out.b)).mono ?_
      rintro e w1 ⟨rfl, hb1⟩
      have HJ := Lib.hid (HJ.out.call hb1)
      clear hb1 q0 q1 q2 q3 p0 p1
      obtain ⟨q0, q1, q2, q3⟩ := HJ.out.s.cells
      obtain ⟨p0, p1⟩ := HJ.out.o.cells
      go_wp2_with fail
      refine (HC.out _).mono ?_
      rintro e w2 ⟨rfl, hb2⟩
      have HJ := Lib.hid (HJ.out.call hb2)
      clear hb2 q0 q1 q2 q3 p0 p1
      obtain ⟨s0, s1, s2, s3⟩ := HJ.out.r.cells
      have e0 := HJ.out.r.free
      go_wp2_with fail
      refine bodyPost_ret (by simp [results, Tryz.results11, go_sem, *]; try rfl) rfl ?_
      exact IvOut.zero (sets4 HJ.out.b (by omega) _ _ _ _)
set_option maxRecDepth 8000 in
set_option maxHeartbeats 8000000 in
theorem inverseStep_push (k : Int) (ia : Option Addr) (m ic : Nat) (ax ay az : Int) (I : List Int) (x : Int) (w : World) (hI : Nums .i64 w ia m ic I) (hst : Agg.ivCan k ⟨I, ⟨ax, ay, az⟩⟩ (true, x) = true) :
    Calls Tryz.prog 11 #[.int .i64 k, .agg #[.slice ia m ic, .int .i64 ax, .int .i64 ay, .int .i64 az], .agg #[.bool true, .int .i64 x]] w (IvOut true (Agg.ivStep k I (true, x)) w) := by
  obtain ⟨W, hW⟩ : ∃ W, W = ((w.alloc (.cells #[.slice ia m ic, .int .i64 ax, .int .i64 ay, .int .i64 az] 32)).alloc (.cells #[.bool true, .int .i64 x] 36)).alloc (.cells #[.slice none 0 0, .int .i64 0, .int .i64 0, .int .i64 0] 32) := ⟨_, rfl⟩
  have HJ := Lib.hid (show IvJ w (.slice ia m ic) ax ay az true x W from by
    rw [hW]
    exact ⟨((Box4.new w _ _ _ _ _).alloc _).alloc _, (Below.heap_alloc _ _ (w.heap.size + 1) (by simp)).trans (by have := heap_alloc_new (w.alloc (.cells #[.slice ia m ic, .int .i64 ax, .int .i64 ay, .int .i64 az] 32)) (.cells #[.bool true, .int .i64 x] 36); simpa using this), Box4.new1 _ _ _ _ _ (by simp), (((Below.refl _ _).alloc (Nat.le_refl _) _).alloc (by simp) _).alloc (by simp; omega) _⟩)
  have HIL := Lib.hid (show I.length = m from hI.1)
  have hV := fun w hI => inverseValid_any k ia m ic ax ay az I w hI
  have HI0 := Lib.hid hI
  clear hI
  obtain ⟨q0, q1, q2, q3⟩ := HJ.out.s.cells
  obtain ⟨p0, p1⟩ := HJ.out.o.cells
  have hv : Agg.ivOk k ⟨I, ⟨ax, ay, az⟩⟩ = true := by simp only [Agg.ivCan, Bool.and_eq_true] at hst; exact hst.1
  have hcan : Agg.can (true, x) (m : Int) = true := by simp only [Agg.ivCan, Bool.and_eq_true, HIL.out] at hst; exact hst.2
  obtain ⟨hr, hk, hit, hag, hok⟩ := Agg.ivOk_parts hv
  simp only at hit hag hok
  obtain ⟨T, fu, fl, fc, fr, R⟩ := rem_at hr
  have HRO := Lib.hid R.of
  have hC := fun w => canChange_any true x (m : Int) w
  rw [hcan] at hC
  rw [hv] at hV
  have HV := Lib.hid hV
  have HC := Lib.hid hC
  have hml := R.K.ml
  have hmc := R.K.mc
  have hal := R.K.al
  have hac := R.K.ac
  have hcl := R.K.cl
  have hcc := R.K.cc
  have hmr := R.mr
  have har := R.ar
  have hcr := R.cr
  obtain ⟨hx, hm60⟩ := Agg.can_push hcan
  have hxb : 0 ≤ x ∧ x ≤ 96 := by simpa [Agg.isItem] using hx
  have hlk := Agg.ok_lift hk hx
  have hLI := fun w => R.K.lift x w hxb.1 hxb.2
  obtain ⟨⟨lx, ly, lz⟩, hL⟩ : ∃ V, V = Agg.lift k x := ⟨_, rfl⟩
  rw [← hL] at hLI hlk
  have hCO := fun w => R.K.comb ax ay az lx ly lz w hok hlk
  obtain ⟨⟨rx, ry, rz⟩, hR⟩ : ∃ V, V = Agg.comb k ⟨ax, ay, az⟩ ⟨lx, ly, lz⟩ := ⟨_, rfl⟩
  rw [← hR] at hCO
  have HRES := Lib.hid (show (⟨rx, ry, rz⟩ : Agg.V) = Agg.fold k (I ++ [x]) from by rw [hR, hL, hag]; exact Agg.iv_push k I x)
  have HLI := Lib.hid hLI
  have HCO := Lib.hid hCO
  have hm60' : m < 60 := by omega
  clear hV hst hr hv hC hcan hk hit hag hok R hx hxb hlk hLI hCO hL hR hm60
  go_enter Tryz.func11, Tryz.ntmps11
  go_upto_region 1 with (fail)
  rw [← hW]
  clear hW
  go_wp2_with fail
  refine (HRO.out _).mono ?_
  rintro e w1 ⟨rfl, rfl⟩
  go_wp2_with fail
  refine (HV.out _ (HI0.out.below HJ.out.b)).mono ?_
  rintro e w1 ⟨rfl, hb1⟩
  have HJ := Lib.hid (HJ.out.call hb1)
  clear hb1 q0 q1 q2 q3 p0 p1
  obtain ⟨q0, q1, q2, q3⟩ := HJ.out.s.cells
  obtain ⟨p0, p1⟩ := HJ.out.o.cells
  go_wp2_with fail
  refine (HC.out _).mono ?_
  rintro e w2 ⟨rfl, hb2⟩
  have HJ := Lib.hid (HJ.out.call hb2)
  clear hb2 q0 q1 q2 q3 p0 p1
  obtain ⟨q0, q1, q2, q3⟩ := HJ.out.s.cells
  obtain ⟨p0, p1⟩ := HJ.out.o.cells
  go_wp2_with fail
  clear q0 q1 q2 q3 p0 p1
  refine wp_region_held_drew (S := (fun X => X.cell? ⟨w.heap.size + 1, 0, none⟩ = some (.bool true) ∧ X.cell? ⟨w.heap.size + 1, 1, none⟩ = some (.int .i64 x))) (by kernel_rfl) (by exact HJ.out.o.cells) (fun hHeld => ?_)
  first | (refine wpAnyH_take (i := 0) (v := ?_) rfl (by kernel_rfl) (by kernel_rfl) (by kernel_rfl) (fun _ _ _ h => h) (Or.inl ⟨by rfl, ?_⟩) (by assumption) ?_; rotate_left; (intro X hSw; (try dsimp only at hSw); go_simp; (try with_reducible rfl)); (try simp only [Act.put, List.setIfInBounds_toArray, List.set_cons_zero, List.set_cons_succ, List.getElem_toArray, List.getElem_cons_zero, List.getElem_cons_succ])) | fail "take 0"
  first | (refine wpAnyH_take (i := 1) (v := ?_) rfl (by kernel_rfl) (by kernel_rfl) (by kernel_rfl) (fun _ _ _ h => h) (Or.inl ⟨by rfl, ?_⟩) (by assumption) ?_; rotate_left; (intro X hSw; (try dsimp only at hSw); go_simp; (try with_reducible rfl)); (try simp only [Act.put, List.setIfInBounds_toArray, List.set_cons_zero, List.set_cons_succ, List.getElem_toArray, List.getElem_cons_zero, List.getElem_cons_succ])) | fail "take 1"
  first | (refine wpAnyH_take (i := 3) (v := ?_) rfl (by kernel_rfl) (by kernel_rfl) (by kernel_rfl) (fun _ _ _ h => h) (Or.inl ⟨by rfl, ?_⟩) (by assumption) ?_; rotate_left; (intro X hSw; (try dsimp only at hSw); go_simp; (try with_reducible rfl)); (try simp only [Act.put, List.setIfInBounds_toArray, List.set_cons_zero, List.set_cons_succ, List.getElem_toArray, List.getElem_cons_zero, List.getElem_cons_succ])) | fail "take 3"
  first | (refine wpAnyH_take (i := 4) (v := ?_) rfl (by kernel_rfl) (by kernel_rfl) (by kernel_rfl) (fun _ _ _ h => h) (Or.inl ⟨by rfl, ?_⟩) (by assumption) ?_; rotate_left; (intro X hSw; (try dsimp only at hSw); go_simp; (try with_reducible rfl)); (try simp only [Act.put, List.setIfInBounds_toArray, List.set_cons_zero, List.set_cons_succ, List.getElem_toArray, List.getElem_cons_zero, List.getElem_cons_succ])) | fail "take 4"
  first | (refine wpAnyH_take (i := 5) (v := ?_) rfl (by kernel_rfl) (by kernel_rfl) (by kernel_rfl) (fun _ _ _ h => h) (Or.inl ⟨by rfl, ?_⟩) (by assumption) ?_; rotate_left; (intro X hSw; (try dsimp only at hSw); go_simp; (try with_reducible rfl)); (try simp only [Act.put, List.setIfInBounds_toArray, List.set_cons_zero, List.set_cons_succ, List.getElem_toArray, List.getElem_cons_zero, List.getElem_cons_succ])) | fail "take 5"
  first | (refine wpAnyH_take (i := 7) (v := ?_) rfl (by kernel_rfl) (by kernel_rfl) (by kernel_rfl) (fun _ _ _ h => h) (Or.inl ⟨by rfl, ?_⟩) (by assumption) ?_; rotate_left; (intro X hSw; (try dsimp only at hSw); go_simp; (try with_reducible rfl)); (try simp only [Act.put, List.setIfInBounds_toArray, List.set_cons_zero, List.set_cons_succ, List.getElem_toArray, List.getElem_cons_zero, List.getElem_cons_succ])) | fail "take 7"
  first | (refine wpAnyH_take (i := 8) (v := ?_) rfl (by kernel_rfl) (by kernel_rfl) (by kernel_rfl) (fun _ _ _ h => h) (Or.inl ⟨by rfl, ?_⟩) (by assumption) ?_; rotate_left; (intro X hSw; (try dsimp only at hSw); go_simp; (try with_reducible rfl)); (try simp only [Act.put, List.setIfInBounds_toArray, List.set_cons_zero, List.set_cons_succ, List.getElem_toArray, List.getElem_cons_zero, List.getElem_cons_succ])) | fail "take 8"
  first | (refine wpAnyH_take (i := 9) (v := ?_) rfl (by kernel_rfl) (by kernel_rfl) (by kernel_rfl) (fun _ _ _ h => h) (Or.inl ⟨by rfl, ?_⟩) (by assumption) ?_; rotate_left; (intro X hSw; (try dsimp only at hSw); go_simp; (try with_reducible rfl)); (try simp only [Act.put, List.setIfInBounds_toArray, List.set_cons_zero, List.set_cons_succ, List.getElem_toArray, List.getElem_cons_zero, List.getElem_cons_succ])) | fail "take 9"
  refine wpAnyH_ready (rs := [2, 6]) (by kernel_rfl) (by simp) ?_
  refine AllReadyH.cons rfl (fun K hK => ?_) (AllReadyH.cons rfl (fun K hK => ?_) AllReadyH.nil)
  · obtain ⟨q0, q1, q2, q3⟩ := HJ.out.s.cells
    go_simp
    (try dsimp only)
    refine hK.out _ _ (by exact HJ.out.o.cells) (fun hHeld => ?_)
    clear hK K
    (try simp only [Act.put, List.setIfInBounds_toArray, List.set_cons_zero, List.set_cons_succ, List.getElem_toArray, List.getElem_cons_zero, List.getElem_cons_succ])
    clear q0 q1 q2 q3
    refine wpAnyH_ready (rs := [6]) (by kernel_rfl) (by simp) ?_
    refine AllReadyH.cons rfl (fun K hK => ?_) AllReadyH.nil
    go_simp
    refine (HLI.out _).mono ?_
    rintro e w3 ⟨rfl, hb⟩
    have HJ := Lib.hid (HJ.out.drew.call hb)
    clear hb
    (try dsimp only)
    refine hK.out _ _ (by exact HJ.out.o.cells) (fun hHeld => ?_)
    clear hK K
    (try simp only [Act.put, List.setIfInBounds_toArray, List.set_cons_zero, List.set_cons_succ, List.getElem_toArray, List.getElem_cons_zero, List.getElem_cons_succ])
    refine wpAnyH_ready (rs := [10]) (by kernel_rfl) (by simp) ?_
    refine AllReadyH.cons rfl (fun K hK => ?_) AllReadyH.nil
    go_simp
    refine (HCO.out _).mono ?_
    rintro e w4 ⟨rfl, hb⟩
    have HJ := Lib.hid (HJ.out.call hb)
    clear hb
    (try dsimp only)
    refine hK.out _ _ (by exact HJ.out.o.cells) (fun hHeld => ?_)
    clear hK K
    (try simp only [Act.put, List.setIfInBounds_toArray, List.set_cons_zero, List.set_cons_succ, List.getElem_toArray, List.getElem_cons_zero, List.getElem_cons_succ])
    first | (refine wpAnyH_take (i := 11) (v := ?_) rfl (by kernel_rfl) (by kernel_rfl) (by kernel_rfl) (fun _ _ _ h => h) (Or.inl ⟨by rfl, ?_⟩) (by assumption) ?_; rotate_left; (intro X hSw; (try dsimp only at hSw); go_simp; (try with_reducible rfl)); (try simp only [Act.put, List.setIfInBounds_toArray, List.set_cons_zero, List.set_cons_succ, List.getElem_toArray, List.getElem_cons_zero, List.getElem_cons_succ])) | fail "take 11"
    refine wpAnyH_ready (rs := [12]) (by kernel_rfl) (by simp) ?_
    refine AllReadyH.cons rfl (fun K hK => ?_) AllReadyH.nil
    obtain ⟨q0, q1, q2, q3⟩ := HJ.out.s.cells
    have f1 := HJ.out.s.free 1
    have f2 := HJ.out.s.free 2
    have f3 := HJ.out.s.free 3
    have HJ := Lib.hid (HJ.out.setAgg rx ry rz)
    go_simp
    (try dsimp only)
    refine hK.out _ _ (by exact HJ.out.o.cells) (fun hHeld => ?_)
    clear hK K
    (try simp only [Act.put, List.setIfInBounds_toArray, List.set_cons_zero, List.set_cons_succ, List.getElem_toArray, List.getElem_cons_zero, List.getElem_cons_succ])
    refine wpAnyH_done (by kernel_rfl) ?_ _
    clear q0 q1 q2 q3 f1 f2 f3
    obtain ⟨X5, hX5⟩ : ∃ X5, X5 = ((w4.setCell ⟨w.heap.size, 1, none⟩ (.int .i64 rx)).setCell ⟨w.heap.size, 2, none⟩ (.int .i64 ry)).setCell ⟨w.heap.size, 3, none⟩ (.int .i64 rz) := ⟨_, rfl⟩
    rw [← hX5] at HJ ⊢
    clear hX5
    obtain ⟨i0, hi0, hz0, hz1, hz2⟩ := info_parts infoInt
    go_wp2_with fail
    refine wp_region_held_drew (S := fun X => X.cell? ⟨w.heap.size + 1, 0, none⟩ = some (.bool true) ∧ X.cell? ⟨w.heap.size + 1, 1, none⟩ = some (.int .i64 x)) (by kernel_rfl) (by exact HJ.out.o.cells) (fun hHeld => ?_)
    have HJ0 := HJ
    have HJ := Lib.hid HJ.out.drew
    first | (refine wpAnyH_take (i := 0) (v := ?_) rfl (by kernel_rfl) (by kernel_rfl) (by kernel_rfl) (fun _ _ _ h => h) (Or.inl ⟨by rfl, ?_⟩) (by assumption) ?_; rotate_left; (intro X hSw; (try dsimp only at hSw); go_simp; (try with_reducible rfl)); (try simp only [Act.put, List.setIfInBounds_toArray, List.set_cons_zero, List.set_cons_succ, List.getElem_toArray, List.getElem_cons_zero, List.getElem_cons_succ])) | fail "take 0"
    first | (refine wpAnyH_take (i := 3) (v := ?_) rfl (by kernel_rfl) (by kernel_rfl) (by kernel_rfl) (fun _ _ _ h => h) (Or.inl ⟨by rfl, ?_⟩) (by assumption) ?_; rotate_left; (intro X hSw; (try dsimp only at hSw); go_simp; (try with_reducible rfl)); (try simp only [Act.put, List.setIfInBounds_toArray, List.set_cons_zero, List.set_cons_succ, List.getElem_toArray, List.getElem_cons_zero, List.getElem_cons_succ])) | fail "take 3"
    first | (refine wpAnyH_take (i := 4) (v := ?_) rfl (by kernel_rfl) (by kernel_rfl) (by kernel_rfl) (fun _ _ _ h => h) (Or.inl ⟨by rfl, ?_⟩) (by assumption) ?_; rotate_left; (intro X hSw; (try dsimp only at hSw); go_simp; (try with_reducible rfl)); (try simp only [Act.put, List.setIfInBounds_toArray, List.set_cons_zero, List.set_cons_succ, List.getElem_toArray, List.getElem_cons_zero, List.getElem_cons_succ])) | fail "take 4"
    refine wpAnyH_ready (rs := [1, 5]) (by kernel_rfl) (by simp) ?_
    refine AllReadyH.cons rfl (fun K hK => ?_) (AllReadyH.cons rfl (fun K hK => ?_) AllReadyH.nil)
    · obtain ⟨q0, q1, q2, q3⟩ := HJ.out.s.cells
      go_simp
      (try dsimp only)
      refine hK.out _ _ (by exact HJ.out.o.cells) (fun hHeld => ?_)
      clear hK K
      (try simp only [Act.put, List.setIfInBounds_toArray, List.set_cons_zero, List.set_cons_succ, List.getElem_toArray, List.getElem_cons_zero, List.getElem_cons_succ])
      clear q0 q1 q2 q3
      refine wpAnyH_ready (rs := [2, 5]) (by kernel_rfl) (by simp) ?_
      refine AllReadyH.cons rfl (fun K hK => ?_) (AllReadyH.cons rfl (fun K hK => ?_) AllReadyH.nil)
      · go_simp
        refine (clone_any ia m ic I _ (HI0.out.below HJ.out.b) (by omega)).mono ?_
        rintro e w6 ⟨v6, m6, rfl, ho6, hb6⟩
        obtain rfl : m6 = m := by have h := ho6.1; have := HIL.out; simp at h; omega
        obtain ⟨ja, jc, rfl⟩ := p_slice ho6
        have HO := Lib.hid (owns_lower ho6 HJ.out.lt)
        have HJ := Lib.hid (HJ.out.call hb6)
        clear hb6 ho6
        (try dsimp only)
        refine hK.out _ _ (by exact HJ.out.o.cells) (fun hHeld => ?_)
        clear hK K
        (try simp only [Act.put, List.setIfInBounds_toArray, List.set_cons_zero, List.set_cons_succ, List.getElem_toArray, List.getElem_cons_zero, List.getElem_cons_succ])
        refine wpAnyH_ready (rs := [5]) (by kernel_rfl) (by simp) ?_
        refine AllReadyH.cons rfl (fun K hK => ?_) AllReadyH.nil
        go_simp
        have hbl : Below w6.heap.size w6 (w6.alloc (.cells #[.int .i64 x] 3)) := (Below.refl _ _).alloc (Nat.le_refl _) _
        have HLIT := Lib.hid (cell_one_new w6 (.int .i64 x) 3)
        have HO := Lib.hid (HO.out.alloc (.cells #[.int .i64 x] 3))
        have HJ := Lib.hid (HJ.out.call hbl)
        clear hbl
        (try dsimp only)
        refine hK.out _ _ (by exact HJ.out.o.cells) (fun hHeld => ?_)
        clear hK K
        (try simp only [Act.put, List.setIfInBounds_toArray, List.set_cons_zero, List.set_cons_succ, List.getElem_toArray, List.getElem_cons_zero, List.getElem_cons_succ])
        refine wpAnyH_ready (rs := [6]) (by kernel_rfl) (by simp) ?_
        refine AllReadyH.cons rfl (fun K hK => ?_) AllReadyH.nil
        go_must (refine step_append_own (by rfl) (.tmp 48) (.tmp 51) 22 (by rfl) (w.heap.size + 3) 3 i0 (.int .i64 0) 1 8 Tryz.underlying22 hi0 hz0 hz1 hz2 rfl (by decide) (.slice ja m6 jc) m6 (I.map (Value.int .i64)) (by rfl) HO.out ⟨w6.heap.size, 0, none⟩ 1 1 [.int .i64 x] (by rfl) (by rfl) HLIT.out (ints_oneCell .i64 [x]) (by unfold maxLen; omega) (by omega) (by have := HJ.out.lt; omega) ?_)
        intro v7 w7 hown7 hgrow7 hnil7
        obtain ⟨ja7, jc7, rfl⟩ := p_slice hown7
        have HO7 := Lib.hid hown7
        have HJ := Lib.hid (HJ.out.grown hgrow7 (fun g hg => (HO.out.lt g hg).1))
        clear hown7 hgrow7 hnil7
        (try dsimp only)
        refine hK.out _ _ (by exact HJ.out.o.cells) (fun hHeld => ?_)
        clear hK K
        (try simp only [Act.put, List.setIfInBounds_toArray, List.set_cons_zero, List.set_cons_succ, List.getElem_toArray, List.getElem_cons_zero, List.getElem_cons_succ])
        first | (refine wpAnyH_take (i := 7) (v := ?_) rfl (by kernel_rfl) (by kernel_rfl) (by kernel_rfl) (fun _ _ _ h => h) (Or.inl ⟨by rfl, ?_⟩) (by assumption) ?_; rotate_left; (intro X hSw; (try dsimp only at hSw); go_simp; (try with_reducible rfl)); (try simp only [Act.put, List.setIfInBounds_toArray, List.set_cons_zero, List.set_cons_succ, List.getElem_toArray, List.getElem_cons_zero, List.getElem_cons_succ])) | fail "take 7"
        refine wpAnyH_ready (rs := [8]) (by kernel_rfl) (by simp) ?_
        refine AllReadyH.cons rfl (fun K hK => ?_) AllReadyH.nil
        obtain ⟨q0, q1, q2, q3⟩ := HJ.out.s.cells
        have f0 := HJ.out.s.free 0
        have HO8 := Lib.hid (own_setlow (d := w.heap.size) (o := 0) (u := .slice ja7 (m6 + 1) jc7) HO7.out (by omega))
        have HJ := Lib.hid (HJ.out.setItems (.slice ja7 (m6 + 1) jc7))
        go_simp
        (try dsimp only)
        refine hK.out _ _ (by exact HJ.out.o.cells) (fun hHeld => ?_)
        clear hK K
        (try simp only [Act.put, List.setIfInBounds_toArray, List.set_cons_zero, List.set_cons_succ, List.getElem_toArray, List.getElem_cons_zero, List.getElem_cons_succ])
        refine wpAnyH_done (by kernel_rfl) ?_ _
        obtain ⟨X8, hX8⟩ : ∃ X8, X8 = w7.setCell ⟨w.heap.size, 0, none⟩ (.slice ja7 (m6 + 1) jc7) := ⟨_, rfl⟩
        rw [← hX8] at HJ HO8 ⊢
        clear hX8 q0 q1 q2 q3 f0
        obtain ⟨q0, q1, q2, q3⟩ := HJ.out.s.cells
        obtain ⟨s0, s1, s2, s3⟩ := HJ.out.r.cells
        have e0 := HJ.out.r.free
        go_wp2_with fail
        refine bodyPost_ret (by simp [results, Tryz.results11, go_sem, *]; try rfl) rfl ?_
        have hil := HIL.out
        subst hil
        have hs : Agg.ivStep k I (true, x) = ⟨I ++ [x], ⟨rx, ry, rz⟩⟩ := by rw [HRES.out]; simp [Agg.ivStep, Agg.stepW]
        rw [hs]
        exact iv_out (s := ⟨I ++ [x], ⟨rx, ry, rz⟩⟩) HJ.out.b (by have := HO8.out; simpa using this) _ _ _ _
      · go_simp
        have hbl : Below X5.heap.size X5 (X5.alloc (.cells #[.int .i64 x] 3)).drew := ((Below.refl _ _).alloc (Nat.le_refl _) _).drew
        have hcx := cell_one_new X5 (.int .i64 x) 3
        have hbb := hbl.size
        obtain ⟨Y, hY⟩ : ∃ Y, Y = (X5.alloc (.cells #[.int .i64 x] 3)).drew := ⟨_, rfl⟩
        rw [← hY] at hbl hbb
        have hlX : X5.heap.size < Y.heap.size := by rw [hY]; simp [World.drew]
        have HLY := Lib.hid (show ∀ j u, ([Value.int .i64 x])[j]? = some u → Y.cell? ((⟨X5.heap.size, 0, none⟩ : Addr).add j) = some u from by rw [hY]; exact hcx)
        have HJ := Lib.hid (HJ0.out.call hbl)
        rw [← hY]
        clear hY hbl hbb hcx
        (try dsimp only)
        refine hK.out _ _ (by exact HJ.out.o.cells) (fun hHeld => ?_)
        clear hK K
        (try simp only [Act.put, List.setIfInBounds_toArray, List.set_cons_zero, List.set_cons_succ, List.getElem_toArray, List.getElem_cons_zero, List.getElem_cons_succ])
        refine wpAnyH_ready (rs := [2]) (by kernel_rfl) (by simp) ?_
        refine AllReadyH.cons rfl (fun K hK => ?_) AllReadyH.nil
        go_simp
        refine (clone_any ia m ic I _ (HI0.out.below HJ.out.b) (by omega)).mono ?_
        rintro e w6 ⟨v6, m6, rfl, ho6, hb6⟩
        obtain rfl : m6 = m := by have h := ho6.1; have := HIL.out; simp at h; omega
        obtain ⟨ja, jc, rfl⟩ := p_slice ho6
        have HO := Lib.hid (owns_lower ho6 HJ.out.lt)
        have HJ := Lib.hid (HJ.out.call hb6)
        have HLIT := Lib.hid (lit_kept HLY.out hb6 hlX)
        clear hb6 ho6
        (try dsimp only)
        refine hK.out _ _ (by exact HJ.out.o.cells) (fun hHeld => ?_)
        clear hK K
        (try simp only [Act.put, List.setIfInBounds_toArray, List.set_cons_zero, List.set_cons_succ, List.getElem_toArray, List.getElem_cons_zero, List.getElem_cons_succ])
        refine wpAnyH_ready (rs := [6]) (by kernel_rfl) (by simp) ?_
        refine AllReadyH.cons rfl (fun K hK => ?_) AllReadyH.nil
        go_must (refine step_append_own (by rfl) (.tmp 48) (.tmp 51) 22 (by rfl) (w.heap.size + 3) 3 i0 (.int .i64 0) 1 8 Tryz.underlying22 hi0 hz0 hz1 hz2 rfl (by decide) (.slice ja m6 jc) m6 (I.map (Value.int .i64)) (by rfl) HO.out ⟨X5.heap.size, 0, none⟩ 1 1 [.int .i64 x] (by rfl) (by rfl) HLIT.out (ints_oneCell .i64 [x]) (by unfold maxLen; omega) (by omega) (by have := HJ.out.lt; omega) ?_)
        intro v7 w7 hown7 hgrow7 hnil7
        obtain ⟨ja7, jc7, rfl⟩ := p_slice hown7
        have HO7 := Lib.hid hown7
        have HJ := Lib.hid (HJ.out.grown hgrow7 (fun g hg => (HO.out.lt g hg).1))
        clear hown7 hgrow7 hnil7
        (try dsimp only)
        refine hK.out _ _ (by exact HJ.out.o.cells) (fun hHeld => ?_)
        clear hK K
        (try simp only [Act.put, List.setIfInBounds_toArray, List.set_cons_zero, List.set_cons_succ, List.getElem_toArray, List.getElem_cons_zero, List.getElem_cons_succ])
        first | (refine wpAnyH_take (i := 7) (v := ?_) rfl (by kernel_rfl) (by kernel_rfl) (by kernel_rfl) (fun _ _ _ h => h) (Or.inl ⟨by rfl, ?_⟩) (by assumption) ?_; rotate_left; (intro X hSw; (try dsimp only at hSw); go_simp; (try with_reducible rfl)); (try simp only [Act.put, List.setIfInBounds_toArray, List.set_cons_zero, List.set_cons_succ, List.getElem_toArray, List.getElem_cons_zero, List.getElem_cons_succ])) | fail "take 7"
        refine wpAnyH_ready (rs := [8]) (by kernel_rfl) (by simp) ?_
        refine AllReadyH.cons rfl (fun K hK => ?_) AllReadyH.nil
        obtain ⟨q0, q1, q2, q3⟩ := HJ.out.s.cells
        have f0 := HJ.out.s.free 0
        have HO8 := Lib.hid (own_setlow (d := w.heap.size) (o := 0) (u := .slice ja7 (m6 + 1) jc7) HO7.out (by omega))
        have HJ := Lib.hid (HJ.out.setItems (.slice ja7 (m6 + 1) jc7))
        go_simp
        (try dsimp only)
        refine hK.out _ _ (by exact HJ.out.o.cells) (fun hHeld => ?_)
        clear hK K
        (try simp only [Act.put, List.setIfInBounds_toArray, List.set_cons_zero, List.set_cons_succ, List.getElem_toArray, List.getElem_cons_zero, List.getElem_cons_succ])
        refine wpAnyH_done (by kernel_rfl) ?_ _
        obtain ⟨X8, hX8⟩ : ∃ X8, X8 = w7.setCell ⟨w.heap.size, 0, none⟩ (.slice ja7 (m6 + 1) jc7) := ⟨_, rfl⟩
        rw [← hX8] at HJ HO8 ⊢
        clear hX8 q0 q1 q2 q3 f0
        obtain ⟨q0, q1, q2, q3⟩ := HJ.out.s.cells
        obtain ⟨s0, s1, s2, s3⟩ := HJ.out.r.cells
        have e0 := HJ.out.r.free
        go_wp2_with fail
        refine bodyPost_ret (by simp [results, Tryz.results11, go_sem, *]; try rfl) rfl ?_
        have hil := HIL.out
        subst hil
        have hs : Agg.ivStep k I (true, x) = ⟨I ++ [x], ⟨rx, ry, rz⟩⟩ := by rw [HRES.out]; simp [Agg.ivStep, Agg.stepW]
        rw [hs]
        exact iv_out (s := ⟨I ++ [x], ⟨rx, ry, rz⟩⟩) HJ.out.b (by have := HO8.out; simpa using this) _ _ _ _
    · go_simp
      have hbl : Below X5.heap.size X5 (X5.alloc (.cells #[.int .i64 x] 3)).drew := ((Below.refl _ _).alloc (Nat.le_refl _) _).drew
      have hcx := cell_one_new X5 (.int .i64 x) 3
      have hbb := hbl.size
      obtain ⟨Y, hY⟩ : ∃ Y, Y = (X5.alloc (.cells #[.int .i64 x] 3)).drew := ⟨_, rfl⟩
      rw [← hY] at hbl hbb
      have hlX : X5.heap.size < Y.heap.size := by rw [hY]; simp [World.drew]
      have HLY := Lib.hid (show ∀ j u, ([Value.int .i64 x])[j]? = some u → Y.cell? ((⟨X5.heap.size, 0, none⟩ : Addr).add j) = some u from by rw [hY]; exact hcx)
      have HJ := Lib.hid (HJ0.out.call hbl)
      rw [← hY]
      clear hY hbl hbb hcx
      (try dsimp only)
      refine hK.out _ _ (by exact HJ.out.o.cells) (fun hHeld => ?_)
      clear hK K
      (try simp only [Act.put, List.setIfInBounds_toArray, List.set_cons_zero, List.set_cons_succ, List.getElem_toArray, List.getElem_cons_zero, List.getElem_cons_succ])
      refine wpAnyH_ready (rs := [1]) (by kernel_rfl) (by simp) ?_
      refine AllReadyH.cons rfl (fun K hK => ?_) AllReadyH.nil
      obtain ⟨q0, q1, q2, q3⟩ := HJ.out.s.cells
      go_simp
      (try dsimp only)
      refine hK.out _ _ (by exact HJ.out.o.cells) (fun hHeld => ?_)
      clear hK K
      (try simp only [Act.put, List.setIfInBounds_toArray, List.set_cons_zero, List.set_cons_succ, List.getElem_toArray, List.getElem_cons_zero, List.getElem_cons_succ])
      clear q0 q1 q2 q3
      refine wpAnyH_ready (rs := [2]) (by kernel_rfl) (by simp) ?_
      refine AllReadyH.cons rfl (fun K hK => ?_) AllReadyH.nil
      go_simp
      refine (clone_any ia m ic I _ (HI0.out.below HJ.out.b) (by omega)).mono ?_
      rintro e w6 ⟨v6, m6, rfl, ho6, hb6⟩
      obtain rfl : m6 = m := by have h := ho6.1; have := HIL.out; simp at h; omega
      obtain ⟨ja, jc, rfl⟩ := p_slice ho6
      have HO := Lib.hid (owns_lower ho6 HJ.out.lt)
      have HJ := Lib.hid (HJ.out.call hb6)
      have HLIT := Lib.hid (lit_kept HLY.out hb6 hlX)
      clear hb6 ho6
      (try dsimp only)
      refine hK.out _ _ (by exact HJ.out.o.cells) (fun hHeld => ?_)
      clear hK K
      (try simp only [Act.put, List.setIfInBounds_toArray, List.set_cons_zero, List.set_cons_succ, List.getElem_toArray, List.getElem_cons_zero, List.getElem_cons_succ])
      refine wpAnyH_ready (rs := [6]) (by kernel_rfl) (by simp) ?_
      refine AllReadyH.cons rfl (fun K hK => ?_) AllReadyH.nil
      go_must (refine step_append_own (by rfl) (.tmp 48) (.tmp 51) 22 (by rfl) (w.heap.size + 3) 3 i0 (.int .i64 0) 1 8 Tryz.underlying22 hi0 hz0 hz1 hz2 rfl (by decide) (.slice ja m6 jc) m6 (I.map (Value.int .i64)) (by rfl) HO.out ⟨X5.heap.size, 0, none⟩ 1 1 [.int .i64 x] (by rfl) (by rfl) HLIT.out (ints_oneCell .i64 [x]) (by unfold maxLen; omega) (by omega) (by have := HJ.out.lt; omega) ?_)
      intro v7 w7 hown7 hgrow7 hnil7
      obtain ⟨ja7, jc7, rfl⟩ := p_slice hown7
      have HO7 := Lib.hid hown7
      have HJ := Lib.hid (HJ.out.grown hgrow7 (fun g hg => (HO.out.lt g hg).1))
      clear hown7 hgrow7 hnil7
      (try dsimp only)
      refine hK.out _ _ (by exact HJ.out.o.cells) (fun hHeld => ?_)
      clear hK K
      (try simp only [Act.put, List.setIfInBounds_toArray, List.set_cons_zero, List.set_cons_succ, List.getElem_toArray, List.getElem_cons_zero, List.getElem_cons_succ])
      first | (refine wpAnyH_take (i := 7) (v := ?_) rfl (by kernel_rfl) (by kernel_rfl) (by kernel_rfl) (fun _ _ _ h => h) (Or.inl ⟨by rfl, ?_⟩) (by assumption) ?_; rotate_left; (intro X hSw; (try dsimp only at hSw); go_simp; (try with_reducible rfl)); (try simp only [Act.put, List.setIfInBounds_toArray, List.set_cons_zero, List.set_cons_succ, List.getElem_toArray, List.getElem_cons_zero, List.getElem_cons_succ])) | fail "take 7"
      refine wpAnyH_ready (rs := [8]) (by kernel_rfl) (by simp) ?_
      refine AllReadyH.cons rfl (fun K hK => ?_) AllReadyH.nil
      obtain ⟨q0, q1, q2, q3⟩ := HJ.out.s.cells
      have f0 := HJ.out.s.free 0
      have HO8 := Lib.hid (own_setlow (d := w.heap.size) (o := 0) (u := .slice ja7 (m6 + 1) jc7) HO7.out (by omega))
      have HJ := Lib.hid (HJ.out.setItems (.slice ja7 (m6 + 1) jc7))
      go_simp
      (try dsimp only)
      refine hK.out _ _ (by exact HJ.out.o.cells) (fun hHeld => ?_)
      clear hK K
      (try simp only [Act.put, List.setIfInBounds_toArray, List.set_cons_zero, List.set_cons_succ, List.getElem_toArray, List.getElem_cons_zero, List.getElem_cons_succ])
      refine wpAnyH_done (by kernel_rfl) ?_ _
      obtain ⟨X8, hX8⟩ : ∃ X8, X8 = w7.setCell ⟨w.heap.size, 0, none⟩ (.slice ja7 (m6 + 1) jc7) := ⟨_, rfl⟩
      rw [← hX8] at HJ HO8 ⊢
      clear hX8 q0 q1 q2 q3 f0
      obtain ⟨q0, q1, q2, q3⟩ := HJ.out.s.cells
      obtain ⟨s0, s1, s2, s3⟩ := HJ.out.r.cells
      have e0 := HJ.out.r.free
      go_wp2_with fail
      refine bodyPost_ret (by simp [results, Tryz.results11, go_sem, *]; try rfl) rfl ?_
      have hil := HIL.out
      subst hil
      have hs : Agg.ivStep k I (true, x) = ⟨I ++ [x], ⟨rx, ry, rz⟩⟩ := by rw [HRES.out]; simp [Agg.ivStep, Agg.stepW]
      rw [hs]
      exact iv_out (s := ⟨I ++ [x], ⟨rx, ry, rz⟩⟩) HJ.out.b (by have := HO8.out; simpa using this) _ _ _ _
  · go_simp
    refine (HLI.out _).mono ?_
    rintro e w3 ⟨rfl, hb⟩
    have HJ := Lib.hid (HJ.out.drew.call hb)
    clear hb
    (try dsimp only)
    refine hK.out _ _ (by exact HJ.out.o.cells) (fun hHeld => ?_)
    clear hK K
    (try simp only [Act.put, List.setIfInBounds_toArray, List.set_cons_zero, List.set_cons_succ, List.getElem_toArray, List.getElem_cons_zero, List.getElem_cons_succ])
    refine wpAnyH_ready (rs := [2]) (by kernel_rfl) (by simp) ?_
    refine AllReadyH.cons rfl (fun K hK => ?_) AllReadyH.nil
    obtain ⟨q0, q1, q2, q3⟩ := HJ.out.s.cells
    go_simp
    (try dsimp only)
    refine hK.out _ _ (by exact HJ.out.o.cells) (fun hHeld => ?_)
    clear hK K
    (try simp only [Act.put, List.setIfInBounds_toArray, List.set_cons_zero, List.set_cons_succ, List.getElem_toArray, List.getElem_cons_zero, List.getElem_cons_succ])
    clear q0 q1 q2 q3
    refine wpAnyH_ready (rs := [10]) (by kernel_rfl) (by simp) ?_
    refine AllReadyH.cons rfl (fun K hK => ?_) AllReadyH.nil
    go_simp
    refine (HCO.out _).mono ?_
    rintro e w4 ⟨rfl, hb⟩
    have HJ := Lib.hid (HJ.out.call hb)
    clear hb
    (try dsimp only)
    refine hK.out _ _ (by exact HJ.out.o.cells) (fun hHeld => ?_)
    clear hK K
    (try simp only [Act.put, List.setIfInBounds_toArray, List.set_cons_zero, List.set_cons_succ, List.getElem_toArray, List.getElem_cons_zero, List.getElem_cons_succ])
    first | (refine wpAnyH_take (i := 11) (v := ?_) rfl (by kernel_rfl) (by kernel_rfl) (by kernel_rfl) (fun _ _ _ h => h) (Or.inl ⟨by rfl, ?_⟩) (by assumption) ?_; rotate_left; (intro X hSw; (try dsimp only at hSw); go_simp; (try with_reducible rfl)); (try simp only [Act.put, List.setIfInBounds_toArray, List.set_cons_zero, List.set_cons_succ, List.getElem_toArray, List.getElem_cons_zero, List.getElem_cons_succ])) | fail "take 11"
    refine wpAnyH_ready (rs := [12]) (by kernel_rfl) (by simp) ?_
    refine AllReadyH.cons rfl (fun K hK => ?_) AllReadyH.nil
    obtain ⟨q0, q1, q2, q3⟩ := HJ.out.s.cells
    have f1 := HJ.out.s.free 1
    have f2 := HJ.out.s.free 2
    have f3 := HJ.out.s.free 3
    have HJ := Lib.hid (HJ.out.setAgg rx ry rz)
    go_simp
    (try dsimp only)
    refine hK.out _ _ (by exact HJ.out.o.cells) (fun hHeld => ?_)
    clear hK K
    (try simp only [Act.put, List.setIfInBounds_toArray, List.set_cons_zero, List.set_cons_succ, List.getElem_toArray, List.getElem_cons_zero, List.getElem_cons_succ])
    refine wpAnyH_done (by kernel_rfl) ?_ _
    clear q0 q1 q2 q3 f1 f2 f3
    obtain ⟨X5, hX5⟩ : ∃ X5, X5 = ((w4.setCell ⟨w.heap.size, 1, none⟩ (.int .i64 rx)).setCell ⟨w.heap.size, 2, none⟩ (.int .i64 ry)).setCell ⟨w.heap.size, 3, none⟩ (.int .i64 rz) := ⟨_, rfl⟩
    rw [← hX5] at HJ ⊢
    clear hX5
    obtain ⟨i0, hi0, hz0, hz1, hz2⟩ := info_parts infoInt
    go_wp2_with fail
    refine wp_region_held_drew (S := fun X => X.cell? ⟨w.heap.size + 1, 0, none⟩ = some (.bool true) ∧ X.cell? ⟨w.heap.size + 1, 1, none⟩ = some (.int .i64 x)) (by kernel_rfl) (by exact HJ.out.o.cells) (fun hHeld => ?_)
    have HJ0 := HJ
    have HJ := Lib.hid HJ.out.drew
    first | (refine wpAnyH_take (i := 0) (v := ?_) rfl (by kernel_rfl) (by kernel_rfl) (by kernel_rfl) (fun _ _ _ h => h) (Or.inl ⟨by rfl, ?_⟩) (by assumption) ?_; rotate_left; (intro X hSw; (try dsimp only at hSw); go_simp; (try with_reducible rfl)); (try simp only [Act.put, List.setIfInBounds_toArray, List.set_cons_zero, List.set_cons_succ, List.getElem_toArray, List.getElem_cons_zero, List.getElem_cons_succ])) | fail "take 0"
    first | (refine wpAnyH_take (i := 3) (v := ?_) rfl (by kernel_rfl) (by kernel_rfl) (by kernel_rfl) (fun _ _ _ h => h) (Or.inl ⟨by rfl, ?_⟩) (by assumption) ?_; rotate_left; (intro X hSw; (try dsimp only at hSw); go_simp; (try with_reducible rfl)); (try simp only [Act.put, List.setIfInBounds_toArray, List.set_cons_zero, List.set_cons_succ, List.getElem_toArray, List.getElem_cons_zero, List.getElem_cons_succ])) | fail "take 3"
    first | (refine wpAnyH_take (i := 4) (v := ?_) rfl (by kernel_rfl) (by kernel_rfl) (by kernel_rfl) (fun _ _ _ h => h) (Or.inl ⟨by rfl, ?_⟩) (by assumption) ?_; rotate_left; (intro X hSw; (try dsimp only at hSw); go_simp; (try with_reducible rfl)); (try simp only [Act.put, List.setIfInBounds_toArray, List.set_cons_zero, List.set_cons_succ, List.getElem_toArray, List.getElem_cons_zero, List.getElem_cons_succ])) | fail "take 4"
    refine wpAnyH_ready (rs := [1, 5]) (by kernel_rfl) (by simp) ?_
    refine AllReadyH.cons rfl (fun K hK => ?_) (AllReadyH.cons rfl (fun K hK => ?_) AllReadyH.nil)
    · obtain ⟨q0, q1, q2, q3⟩ := HJ.out.s.cells
      go_simp
      (try dsimp only)
      refine hK.out _ _ (by exact HJ.out.o.cells) (fun hHeld => ?_)
      clear hK K
      (try simp only [Act.put, List.setIfInBounds_toArray, List.set_cons_zero, List.set_cons_succ, List.getElem_toArray, List.getElem_cons_zero, List.getElem_cons_succ])
      clear q0 q1 q2 q3
      refine wpAnyH_ready (rs := [2, 5]) (by kernel_rfl) (by simp) ?_
      refine AllReadyH.cons rfl (fun K hK => ?_) (AllReadyH.cons rfl (fun K hK => ?_) AllReadyH.nil)
      · go_simp
        refine (clone_any ia m ic I _ (HI0.out.below HJ.out.b) (by omega)).mono ?_
        rintro e w6 ⟨v6, m6, rfl, ho6, hb6⟩
        obtain rfl : m6 = m := by have h := ho6.1; have := HIL.out; simp at h; omega
        obtain ⟨ja, jc, rfl⟩ := p_slice ho6
        have HO := Lib.hid (owns_lower ho6 HJ.out.lt)
        have HJ := Lib.hid (HJ.out.call hb6)
        clear hb6 ho6
        (try dsimp only)
        refine hK.out _ _ (by exact HJ.out.o.cells) (fun hHeld => ?_)
        clear hK K
        (try simp only [Act.put, List.setIfInBounds_toArray, List.set_cons_zero, List.set_cons_succ, List.getElem_toArray, List.getElem_cons_zero, List.getElem_cons_succ])
        refine wpAnyH_ready (rs := [5]) (by kernel_rfl) (by simp) ?_
        refine AllReadyH.cons rfl (fun K hK => ?_) AllReadyH.nil
        go_simp
        have hbl : Below w6.heap.size w6 (w6.alloc (.cells #[.int .i64 x] 3)) := (Below.refl _ _).alloc (Nat.le_refl _) _
        have HLIT := Lib.hid (cell_one_new w6 (.int .i64 x) 3)
        have HO := Lib.hid (HO.out.alloc (.cells #[.int .i64 x] 3))
        have HJ := Lib.hid (HJ.out.call hbl)
        clear hbl
        (try dsimp only)
        refine hK.out _ _ (by exact HJ.out.o.cells) (fun hHeld => ?_)
        clear hK K
        (try simp only [Act.put, List.setIfInBounds_toArray, List.set_cons_zero, List.set_cons_succ, List.getElem_toArray, List.getElem_cons_zero, List.getElem_cons_succ])
        refine wpAnyH_ready (rs := [6]) (by kernel_rfl) (by simp) ?_
        refine AllReadyH.cons rfl (fun K hK => ?_) AllReadyH.nil
        go_must (refine step_append_own (by rfl) (.tmp 48) (.tmp 51) 22 (by rfl) (w.heap.size + 3) 3 i0 (.int .i64 0) 1 8 Tryz.underlying22 hi0 hz0 hz1 hz2 rfl (by decide) (.slice ja m6 jc) m6 (I.map (Value.int .i64)) (by rfl) HO.out ⟨w6.heap.size, 0, none⟩ 1 1 [.int .i64 x] (by rfl) (by rfl) HLIT.out (ints_oneCell .i64 [x]) (by unfold maxLen; omega) (by omega) (by have := HJ.out.lt; omega) ?_)
        intro v7 w7 hown7 hgrow7 hnil7
        obtain ⟨ja7, jc7, rfl⟩ := p_slice hown7
        have HO7 := Lib.hid hown7
        have HJ := Lib.hid (HJ.out.grown hgrow7 (fun g hg => (HO.out.lt g hg).1))
        clear hown7 hgrow7 hnil7
        (try dsimp only)
        refine hK.out _ _ (by exact HJ.out.o.cells) (fun hHeld => ?_)
        clear hK K
        (try simp only [Act.put, List.setIfInBounds_toArray, List.set_cons_zero, List.set_cons_succ, List.getElem_toArray, List.getElem_cons_zero, List.getElem_cons_succ])
        first | (refine wpAnyH_take (i := 7) (v := ?_) rfl (by kernel_rfl) (by kernel_rfl) (by kernel_rfl) (fun _ _ _ h => h) (Or.inl ⟨by rfl, ?_⟩) (by assumption) ?_; rotate_left; (intro X hSw; (try dsimp only at hSw); go_simp; (try with_reducible rfl)); (try simp only [Act.put, List.setIfInBounds_toArray, List.set_cons_zero, List.set_cons_succ, List.getElem_toArray, List.getElem_cons_zero, List.getElem_cons_succ])) | fail "take 7"
        refine wpAnyH_ready (rs := [8]) (by kernel_rfl) (by simp) ?_
        refine AllReadyH.cons rfl (fun K hK => ?_) AllReadyH.nil
        obtain ⟨q0, q1, q2, q3⟩ := HJ.out.s.cells
        have f0 := HJ.out.s.free 0
        have HO8 := Lib.hid (own_setlow (d := w.heap.size) (o := 0) (u := .slice ja7 (m6 + 1) jc7) HO7.out (by omega))
        have HJ := Lib.hid (HJ.out.setItems (.slice ja7 (m6 + 1) jc7))
        go_simp
        (try dsimp only)
        refine hK.out _ _ (by exact HJ.out.o.cells) (fun hHeld => ?_)
        clear hK K
        (try simp only [Act.put, List.setIfInBounds_toArray, List.set_cons_zero, List.set_cons_succ, List.getElem_toArray, List.getElem_cons_zero, List.getElem_cons_succ])
        refine wpAnyH_done (by kernel_rfl) ?_ _
        obtain ⟨X8, hX8⟩ : ∃ X8, X8 = w7.setCell ⟨w.heap.size, 0, none⟩ (.slice ja7 (m6 + 1) jc7) := ⟨_, rfl⟩
        rw [← hX8] at HJ HO8 ⊢
        clear hX8 q0 q1 q2 q3 f0
        obtain ⟨q0, q1, q2, q3⟩ := HJ.out.s.cells
        obtain ⟨s0, s1, s2, s3⟩ := HJ.out.r.cells
        have e0 := HJ.out.r.free
        go_wp2_with fail
        refine bodyPost_ret (by simp [results, Tryz.results11, go_sem, *]; try rfl) rfl ?_
        have hil := HIL.out
        subst hil
        have hs : Agg.ivStep k I (true, x) = ⟨I ++ [x], ⟨rx, ry, rz⟩⟩ := by rw [HRES.out]; simp [Agg.ivStep, Agg.stepW]
        rw [hs]
        exact iv_out (s := ⟨I ++ [x], ⟨rx, ry, rz⟩⟩) HJ.out.b (by have := HO8.out; simpa using this) _ _ _ _
      · go_simp
        have hbl : Below X5.heap.size X5 (X5.alloc (.cells #[.int .i64 x] 3)).drew := ((Below.refl _ _).alloc (Nat.le_refl _) _).drew
        have hcx := cell_one_new X5 (.int .i64 x) 3
        have hbb := hbl.size
        obtain ⟨Y, hY⟩ : ∃ Y, Y = (X5.alloc (.cells #[.int .i64 x] 3)).drew := ⟨_, rfl⟩
        rw [← hY] at hbl hbb
        have hlX : X5.heap.size < Y.heap.size := by rw [hY]; simp [World.drew]
        have HLY := Lib.hid (show ∀ j u, ([Value.int .i64 x])[j]? = some u → Y.cell? ((⟨X5.heap.size, 0, none⟩ : Addr).add j) = some u from by rw [hY]; exact hcx)
        have HJ := Lib.hid (HJ0.out.call hbl)
        rw [← hY]
        clear hY hbl hbb hcx
        (try dsimp only)
        refine hK.out _ _ (by exact HJ.out.o.cells) (fun hHeld => ?_)
        clear hK K
        (try simp only [Act.put, List.setIfInBounds_toArray, List.set_cons_zero, List.set_cons_succ, List.getElem_toArray, List.getElem_cons_zero, List.getElem_cons_succ])
        refine wpAnyH_ready (rs := [2]) (by kernel_rfl) (by simp) ?_
        refine AllReadyH.cons rfl (fun K hK => ?_) AllReadyH.nil
        go_simp
        refine (clone_any ia m ic I _ (HI0.out.below HJ.out.b) (by omega)).mono ?_
        rintro e w6 ⟨v6, m6, rfl, ho6, hb6⟩
        obtain rfl : m6 = m := by have h := ho6.1; have := HIL.out; simp at h; omega
        obtain ⟨ja, jc, rfl⟩ := p_slice ho6
        have HO := Lib.hid (owns_lower ho6 HJ.out.lt)
        have HJ := Lib.hid (HJ.out.call hb6)
        have HLIT := Lib.hid (lit_kept HLY.out hb6 hlX)
        clear hb6 ho6
        (try dsimp only)
        refine hK.out _ _ (by exact HJ.out.o.cells) (fun hHeld => ?_)
        clear hK K
        (try simp only [Act.put, List.setIfInBounds_toArray, List.set_cons_zero, List.set_cons_succ, List.getElem_toArray, List.getElem_cons_zero, List.getElem_cons_succ])
        refine wpAnyH_ready (rs := [6]) (by kernel_rfl) (by simp) ?_
        refine AllReadyH.cons rfl (fun K hK => ?_) AllReadyH.nil
        go_must (refine step_append_own (by rfl) (.tmp 48) (.tmp 51) 22 (by rfl) (w.heap.size + 3) 3 i0 (.int .i64 0) 1 8 Tryz.underlying22 hi0 hz0 hz1 hz2 rfl (by decide) (.slice ja m6 jc) m6 (I.map (Value.int .i64)) (by rfl) HO.out ⟨X5.heap.size, 0, none⟩ 1 1 [.int .i64 x] (by rfl) (by rfl) HLIT.out (ints_oneCell .i64 [x]) (by unfold maxLen; omega) (by omega) (by have := HJ.out.lt; omega) ?_)
        intro v7 w7 hown7 hgrow7 hnil7
        obtain ⟨ja7, jc7, rfl⟩ := p_slice hown7
        have HO7 := Lib.hid hown7
        have HJ := Lib.hid (HJ.out.grown hgrow7 (fun g hg => (HO.out.lt g hg).1))
        clear hown7 hgrow7 hnil7
        (try dsimp only)
        refine hK.out _ _ (by exact HJ.out.o.cells) (fun hHeld => ?_)
        clear hK K
        (try simp only [Act.put, List.setIfInBounds_toArray, List.set_cons_zero, List.set_cons_succ, List.getElem_toArray, List.getElem_cons_zero, List.getElem_cons_succ])
        first | (refine wpAnyH_take (i := 7) (v := ?_) rfl (by kernel_rfl) (by kernel_rfl) (by kernel_rfl) (fun _ _ _ h => h) (Or.inl ⟨by rfl, ?_⟩) (by assumption) ?_; rotate_left; (intro X hSw; (try dsimp only at hSw); go_simp; (try with_reducible rfl)); (try simp only [Act.put, List.setIfInBounds_toArray, List.set_cons_zero, List.set_cons_succ, List.getElem_toArray, List.getElem_cons_zero, List.getElem_cons_succ])) | fail "take 7"
        refine wpAnyH_ready (rs := [8]) (by kernel_rfl) (by simp) ?_
        refine AllReadyH.cons rfl (fun K hK => ?_) AllReadyH.nil
        obtain ⟨q0, q1, q2, q3⟩ := HJ.out.s.cells
        have f0 := HJ.out.s.free 0
        have HO8 := Lib.hid (own_setlow (d := w.heap.size) (o := 0) (u := .slice ja7 (m6 + 1) jc7) HO7.out (by omega))
        have HJ := Lib.hid (HJ.out.setItems (.slice ja7 (m6 + 1) jc7))
        go_simp
        (try dsimp only)
        refine hK.out _ _ (by exact HJ.out.o.cells) (fun hHeld => ?_)
        clear hK K
        (try simp only [Act.put, List.setIfInBounds_toArray, List.set_cons_zero, List.set_cons_succ, List.getElem_toArray, List.getElem_cons_zero, List.getElem_cons_succ])
        refine wpAnyH_done (by kernel_rfl) ?_ _
        obtain ⟨X8, hX8⟩ : ∃ X8, X8 = w7.setCell ⟨w.heap.size, 0, none⟩ (.slice ja7 (m6 + 1) jc7) := ⟨_, rfl⟩
        rw [← hX8] at HJ HO8 ⊢
        clear hX8 q0 q1 q2 q3 f0
        obtain ⟨q0, q1, q2, q3⟩ := HJ.out.s.cells
        obtain ⟨s0, s1, s2, s3⟩ := HJ.out.r.cells
        have e0 := HJ.out.r.free
        go_wp2_with fail
        refine bodyPost_ret (by simp [results, Tryz.results11, go_sem, *]; try rfl) rfl ?_
        have hil := HIL.out
        subst hil
        have hs : Agg.ivStep k I (true, x) = ⟨I ++ [x], ⟨rx, ry, rz⟩⟩ := by rw [HRES.out]; simp [Agg.ivStep, Agg.stepW]
        rw [hs]
        exact iv_out (s := ⟨I ++ [x], ⟨rx, ry, rz⟩⟩) HJ.out.b (by have := HO8.out; simpa using this) _ _ _ _
    · go_simp
      have hbl : Below X5.heap.size X5 (X5.alloc (.cells #[.int .i64 x] 3)).drew := ((Below.refl _ _).alloc (Nat.le_refl _) _).drew
      have hcx := cell_one_new X5 (.int .i64 x) 3
      have hbb := hbl.size
      obtain ⟨Y, hY⟩ : ∃ Y, Y = (X5.alloc (.cells #[.int .i64 x] 3)).drew := ⟨_, rfl⟩
      rw [← hY] at hbl hbb
      have hlX : X5.heap.size < Y.heap.size := by rw [hY]; simp [World.drew]
      have HLY := Lib.hid (show ∀ j u, ([Value.int .i64 x])[j]? = some u → Y.cell? ((⟨X5.heap.size, 0, none⟩ : Addr).add j) = some u from by rw [hY]; exact hcx)
      have HJ := Lib.hid (HJ0.out.call hbl)
      rw [← hY]
      clear hY hbl hbb hcx
      (try dsimp only)
      refine hK.out _ _ (by exact HJ.out.o.cells) (fun hHeld => ?_)
      clear hK K
      (try simp only [Act.put, List.setIfInBounds_toArray, List.set_cons_zero, List.set_cons_succ, List.getElem_toArray, List.getElem_cons_zero, List.getElem_cons_succ])
      refine wpAnyH_ready (rs := [1]) (by kernel_rfl) (by simp) ?_
      refine AllReadyH.cons rfl (fun K hK => ?_) AllReadyH.nil
      obtain ⟨q0, q1, q2, q3⟩ := HJ.out.s.cells
      go_simp
      (try dsimp only)
      refine hK.out _ _ (by exact HJ.out.o.cells) (fun hHeld => ?_)
      clear hK K
      (try simp only [Act.put, List.setIfInBounds_toArray, List.set_cons_zero, List.set_cons_succ, List.getElem_toArray, List.getElem_cons_zero, List.getElem_cons_succ])
      clear q0 q1 q2 q3
      refine wpAnyH_ready (rs := [2]) (by kernel_rfl) (by simp) ?_
      refine AllReadyH.cons rfl (fun K hK => ?_) AllReadyH.nil
      go_simp
      refine (clone_any ia m ic I _ (HI0.out.below HJ.out.b) (by omega)).mono ?_
      rintro e w6 ⟨v6, m6, rfl, ho6, hb6⟩
      obtain rfl : m6 = m := by have h := ho6.1; have := HIL.out; simp at h; omega
      obtain ⟨ja, jc, rfl⟩ := p_slice ho6
      have HO := Lib.hid (owns_lower ho6 HJ.out.lt)
      have HJ := Lib.hid (HJ.out.call hb6)
      have HLIT := Lib.hid (lit_kept HLY.out hb6 hlX)
      clear hb6 ho6
      (try dsimp only)
      refine hK.out _ _ (by exact HJ.out.o.cells) (fun hHeld => ?_)
      clear hK K
      (try simp only [Act.put, List.setIfInBounds_toArray, List.set_cons_zero, List.set_cons_succ, List.getElem_toArray, List.getElem_cons_zero, List.getElem_cons_succ])
      refine wpAnyH_ready (rs := [6]) (by kernel_rfl) (by simp) ?_
      refine AllReadyH.cons rfl (fun K hK => ?_) AllReadyH.nil
      go_must (refine step_append_own (by rfl) (.tmp 48) (.tmp 51) 22 (by rfl) (w.heap.size + 3) 3 i0 (.int .i64 0) 1 8 Tryz.underlying22 hi0 hz0 hz1 hz2 rfl (by decide) (.slice ja m6 jc) m6 (I.map (Value.int .i64)) (by rfl) HO.out ⟨X5.heap.size, 0, none⟩ 1 1 [.int .i64 x] (by rfl) (by rfl) HLIT.out (ints_oneCell .i64 [x]) (by unfold maxLen; omega) (by omega) (by have := HJ.out.lt; omega) ?_)
      intro v7 w7 hown7 hgrow7 hnil7
      obtain ⟨ja7, jc7, rfl⟩ := p_slice hown7
      have HO7 := Lib.hid hown7
      have HJ := Lib.hid (HJ.out.grown hgrow7 (fun g hg => (HO.out.lt g hg).1))
      clear hown7 hgrow7 hnil7
      (try dsimp only)
      refine hK.out _ _ (by exact HJ.out.o.cells) (fun hHeld => ?_)
      clear hK K
      (try simp only [Act.put, List.setIfInBounds_toArray, List.set_cons_zero, List.set_cons_succ, List.getElem_toArray, List.getElem_cons_zero, List.getElem_cons_succ])
      first | (refine wpAnyH_take (i := 7) (v := ?_) rfl (by kernel_rfl) (by kernel_rfl) (by kernel_rfl) (fun _ _ _ h => h) (Or.inl ⟨by rfl, ?_⟩) (by assumption) ?_; rotate_left; (intro X hSw; (try dsimp only at hSw); go_simp; (try with_reducible rfl)); (try simp only [Act.put, List.setIfInBounds_toArray, List.set_cons_zero, List.set_cons_succ, List.getElem_toArray, List.getElem_cons_zero, List.getElem_cons_succ])) | fail "take 7"
      refine wpAnyH_ready (rs := [8]) (by kernel_rfl) (by simp) ?_
      refine AllReadyH.cons rfl (fun K hK => ?_) AllReadyH.nil
      obtain ⟨q0, q1, q2, q3⟩ := HJ.out.s.cells
      have f0 := HJ.out.s.free 0
      have HO8 := Lib.hid (own_setlow (d := w.heap.size) (o := 0) (u := .slice ja7 (m6 + 1) jc7) HO7.out (by omega))
      have HJ := Lib.hid (HJ.out.setItems (.slice ja7 (m6 + 1) jc7))
      go_simp
      (try dsimp only)
      refine hK.out _ _ (by exact HJ.out.o.cells) (fun hHeld => ?_)
      clear hK K
      (try simp only [Act.put, List.setIfInBounds_toArray, List.set_cons_zero, List.set_cons_succ, List.getElem_toArray, List.getElem_cons_zero, List.getElem_cons_succ])
      refine wpAnyH_done (by kernel_rfl) ?_ _
      obtain ⟨X8, hX8⟩ : ∃ X8, X8 = w7.setCell ⟨w.heap.size, 0, none⟩ (.slice ja7 (m6 + 1) jc7) := ⟨_, rfl⟩
      rw [← hX8] at HJ HO8 ⊢
      clear hX8 q0 q1 q2 q3 f0
      obtain ⟨q0, q1, q2, q3⟩ := HJ.out.s.cells
      obtain ⟨s0, s1, s2, s3⟩ := HJ.out.r.cells
      have e0 := HJ.out.r.free
      go_wp2_with fail
      refine bodyPost_ret (by simp [results, Tryz.results11, go_sem, *]; try rfl) rfl ?_
      have hil := HIL.out
      subst hil
      have hs : Agg.ivStep k I (true, x) = ⟨I ++ [x], ⟨rx, ry, rz⟩⟩ := by rw [HRES.out]; simp [Agg.ivStep, Agg.stepW]
      rw [hs]
      exact iv_out (s := ⟨I ++ [x], ⟨rx, ry, rz⟩⟩) HJ.out.b (by have := HO8.out; simpa using this) _ _ _ _
set_option maxRecDepth 8000 in
set_option maxHeartbeats 8000000 in
theorem inverseStep_pop (k : Int) (ia : Option Addr) (m ic : Nat) (ax ay az : Int) (I : List Int) (x : Int) (w : World) (hI : Nums .i64 w ia m ic I) (hst : Agg.ivCan k ⟨I, ⟨ax, ay, az⟩⟩ (false, x) = true) :
    Calls Tryz.prog 11 #[.int .i64 k, .agg #[.slice ia m ic, .int .i64 ax, .int .i64 ay, .int .i64 az], .agg #[.bool false, .int .i64 x]] w (IvOut true (Agg.ivStep k I (false, x)) w) := by
  obtain ⟨W, hW⟩ : ∃ W, W = ((w.alloc (.cells #[.slice ia m ic, .int .i64 ax, .int .i64 ay, .int .i64 az] 32)).alloc (.cells #[.bool false, .int .i64 x] 36)).alloc (.cells #[.slice none 0 0, .int .i64 0, .int .i64 0, .int .i64 0] 32) := ⟨_, rfl⟩
  have HJ := Lib.hid (show IvJ w (.slice ia m ic) ax ay az false x W from by
    rw [hW]
    exact ⟨((Box4.new w _ _ _ _ _).alloc _).alloc _, (Below.heap_alloc _ _ (w.heap.size + 1) (by simp)).trans (by have := heap_alloc_new (w.alloc (.cells #[.slice ia m ic, .int .i64 ax, .int .i64 ay, .int .i64 az] 32)) (.cells #[.bool false, .int .i64 x] 36); simpa using this), Box4.new1 _ _ _ _ _ (by simp), (((Below.refl _ _).alloc (Nat.le_refl _) _).alloc (by simp) _).alloc (by simp; omega) _⟩)
  have HIL := Lib.hid (show I.length = m from hI.1)
  have hV := fun w hI => inverseValid_any k ia m ic ax ay az I w hI
  have HI0 := Lib.hid hI
  clear hI
  obtain ⟨q0, q1, q2, q3⟩ := HJ.out.s.cells
  obtain ⟨p0, p1⟩ := HJ.out.o.cells
  have hv : Agg.ivOk k ⟨I, ⟨ax, ay, az⟩⟩ = true := by simp only [Agg.ivCan, Bool.and_eq_true] at hst; exact hst.1
  have hcan : Agg.can (false, x) (m : Int) = true := by simp only [Agg.ivCan, Bool.and_eq_true, HIL.out] at hst; exact hst.2
  obtain ⟨hr, hk, hit, hag, hok⟩ := Agg.ivOk_parts hv
  simp only at hit hag hok
  obtain ⟨T, fu, fl, fc, fr, R⟩ := rem_at hr
  have HRO := Lib.hid R.of
  have hC := fun w => canChange_any false x (m : Int) w
  rw [hcan] at hC
  rw [hv] at hV
  have HV := Lib.hid hV
  have HC := Lib.hid hC
  have hml := R.K.ml
  have hmc := R.K.mc
  have hal := R.K.al
  have hac := R.K.ac
  have hcl := R.K.cl
  have hcc := R.K.cc
  have hmr := R.mr
  have har := R.ar
  have hcr := R.cr
  obtain ⟨hx, hm0⟩ := Agg.can_pop hcan
  obtain ⟨y, J, rfl⟩ : ∃ y J, I = y :: J := by
    cases I with
    | nil => have := HIL.out; simp at this; omega
    | cons y J => exact ⟨y, J, rfl⟩
  have hy : Agg.isItem y = true := Agg.items_mem hit y (by simp)
  have hyb : 0 ≤ y ∧ y ≤ 96 := by simpa [Agg.isItem] using hy
  have hlk := Agg.ok_lift hk hy
  have hLI := fun w => R.K.lift y w hyb.1 hyb.2
  obtain ⟨-, hrest⟩ := Agg.iv_pop hr hit
  rw [← hag] at hrest
  obtain ⟨⟨lx, ly, lz⟩, hL⟩ : ∃ V, V = Agg.lift k y := ⟨_, rfl⟩
  rw [← hL] at hLI hlk hrest
  have hCO := fun w => R.rest lx ly lz ax ay az w hlk hok
  rw [hrest] at hCO
  obtain ⟨⟨rx, ry, rz⟩, hR⟩ : ∃ V, V = Agg.fold k J := ⟨_, rfl⟩
  rw [← hR] at hCO
  have HRES := Lib.hid (show (⟨rx, ry, rz⟩ : Agg.V) = Agg.fold k J from hR)
  have HLI := Lib.hid hLI
  have HCO := Lib.hid hCO
  obtain ⟨b0, boff, rfl, hb0, hbc⟩ : ∃ b off, ia = some ⟨b, off, none⟩ ∧ b < w.heap.size ∧ ∀ i, i < m → w.cell? ⟨b, off + i, none⟩ = some (.int .i64 ((y :: J)[i]?.getD 0)) := by
    rcases HI0.out.2.2.2 with h | h
    · omega
    · exact h
  have hmN : 0 < m := by omega
  have hm60 : m ≤ 60 := by have := Agg.items_len hit; have := HIL.out; omega
  have hcy : w.cell? ⟨b0, boff, none⟩ = some (.int .i64 y) := by have := hbc 0 hmN; simpa using this
  have HCY := Lib.hid (show ∀ X, Below w.heap.size w X → X.cell? ⟨b0, boff, none⟩ = some (.int .i64 y) from fun X h => (h.cell (p := ⟨b0, boff, none⟩) hb0).trans hcy)
  have hmI : (0 : Int) < (m : Int) := by omega
  have hmI1 : (1 : Int) ≤ (m : Int) := by omega
  have hmi := HI0.out.2.1
  have hmm : ic ≤ 9223372036854775807 := by have := HI0.out.2.2.1; unfold maxLen at this; omega
  have hmI2 : (m : Int) ≤ (ic : Int) := by omega
  clear hV hst hr hv hC hcan hk hit hag hok R hx hy hyb hlk hLI hCO hL hR hm0 hrest hbc hcy
  go_enter Tryz.func11, Tryz.ntmps11
  go_upto_region 1 with (fail)
  rw [← hW]
  clear hW
  go_wp2_with fail
  refine (HRO.out _).mono ?_
  rintro e w1 ⟨rfl, rfl⟩
  go_wp2_with fail
  refine (HV.out _ (HI0.out.below HJ.out.b)).mono ?_
  rintro e w1 ⟨rfl, hb1⟩
  have HJ := Lib.hid (HJ.out.call hb1)
  clear hb1 q0 q1 q2 q3 p0 p1
  obtain ⟨q0, q1, q2, q3⟩ := HJ.out.s.cells
  obtain ⟨p0, p1⟩ := HJ.out.o.cells
  go_wp2_with fail
  refine (HC.out _).mono ?_
  rintro e w2 ⟨rfl, hb2⟩
  have HJ := Lib.hid (HJ.out.call hb2)
  clear hb2 q0 q1 q2 q3 p0 p1
  obtain ⟨q0, q1, q2, q3⟩ := HJ.out.s.cells
  obtain ⟨p0, p1⟩ := HJ.out.o.cells
  go_wp2_with fail
  clear q0 q1 q2 q3 p0 p1
  refine wp_region_held_drew (S := (fun X => X.cell? ⟨w.heap.size, 0, none⟩ = some (.slice (some ⟨b0, boff, none⟩) m ic) ∧ X.cell? ⟨b0, boff, none⟩ = some (.int .i64 y))) (by kernel_rfl) (by exact ⟨HJ.out.s.cells.1, HCY.out _ HJ.out.b.drew⟩) (fun hHeld => ?_)
  first | (refine wpAnyH_take (i := 0) (v := ?_) rfl (by kernel_rfl) (by kernel_rfl) (by kernel_rfl) (fun _ _ _ h => h) (Or.inl ⟨by rfl, ?_⟩) (by assumption) ?_; rotate_left; (intro X hSw; (try dsimp only at hSw); go_simp; (try with_reducible rfl)); (try simp only [Act.put, List.setIfInBounds_toArray, List.set_cons_zero, List.set_cons_succ, List.getElem_toArray, List.getElem_cons_zero, List.getElem_cons_succ])) | fail "take 0"
  first | (refine wpAnyH_take (i := 1) (v := ?_) rfl (by kernel_rfl) (by kernel_rfl) (by kernel_rfl) (fun _ _ _ h => h) (Or.inl ⟨by rfl, ?_⟩) (by assumption) ?_; rotate_left; (intro X hSw; (try dsimp only at hSw); go_simp; (try with_reducible rfl)); (try simp only [Act.put, List.setIfInBounds_toArray, List.set_cons_zero, List.set_cons_succ, List.getElem_toArray, List.getElem_cons_zero, List.getElem_cons_succ])) | fail "take 1"
  first | (refine wpAnyH_take (i := 2) (v := ?_) rfl (by kernel_rfl) (by kernel_rfl) (by kernel_rfl) (fun _ _ _ h => h) (Or.inl ⟨by rfl, ?_⟩) (by assumption) ?_; rotate_left; (intro X hSw; (try dsimp only at hSw); go_simp; (try with_reducible rfl)); (try simp only [Act.put, List.setIfInBounds_toArray, List.set_cons_zero, List.set_cons_succ, List.getElem_toArray, List.getElem_cons_zero, List.getElem_cons_succ])) | fail "take 2"
  first | (refine wpAnyH_take (i := 3) (v := ?_) rfl (by kernel_rfl) (by kernel_rfl) (by kernel_rfl) (fun _ _ _ h => h) (Or.inl ⟨by rfl, ?_⟩) (by assumption) ?_; rotate_left; (intro X hSw; (try dsimp only at hSw); go_simp; (try with_reducible rfl)); (try simp only [Act.put, List.setIfInBounds_toArray, List.set_cons_zero, List.set_cons_succ, List.getElem_toArray, List.getElem_cons_zero, List.getElem_cons_succ])) | fail "take 3"
  first | (refine wpAnyH_take (i := 4) (v := ?_) rfl (by kernel_rfl) (by kernel_rfl) (by kernel_rfl) (fun _ _ _ h => h) (Or.inl ⟨by rfl, ?_⟩) (by assumption) ?_; rotate_left; (intro X hSw; (try dsimp only at hSw); go_simp; (try with_reducible rfl)); (try simp only [Act.put, List.setIfInBounds_toArray, List.set_cons_zero, List.set_cons_succ, List.getElem_toArray, List.getElem_cons_zero, List.getElem_cons_succ])) | fail "take 4"
  first | (refine wpAnyH_take (i := 5) (v := ?_) rfl (by kernel_rfl) (by kernel_rfl) (by kernel_rfl) (fun _ _ _ h => h) (Or.inl ⟨by rfl, ?_⟩) (by assumption) ?_; rotate_left; (intro X hSw; (try dsimp only at hSw); go_simp; (try with_reducible rfl)); (try simp only [Act.put, List.setIfInBounds_toArray, List.set_cons_zero, List.set_cons_succ, List.getElem_toArray, List.getElem_cons_zero, List.getElem_cons_succ])) | fail "take 5"
  first | (refine wpAnyH_take (i := 6) (v := ?_) rfl (by kernel_rfl) (by kernel_rfl) (by kernel_rfl) (fun _ _ _ h => h) (Or.inl ⟨by rfl, ?_⟩) (by assumption) ?_; rotate_left; (intro X hSw; (try dsimp only at hSw); go_simp; (try with_reducible rfl)); (try simp only [Act.put, List.setIfInBounds_toArray, List.set_cons_zero, List.set_cons_succ, List.getElem_toArray, List.getElem_cons_zero, List.getElem_cons_succ])) | fail "take 6"
  first | (refine wpAnyH_take (i := 7) (v := ?_) rfl (by kernel_rfl) (by kernel_rfl) (by kernel_rfl) (fun _ _ _ h => h) (Or.inl ⟨by rfl, ?_⟩) (by assumption) ?_; rotate_left; (intro X hSw; (try dsimp only at hSw); go_simp; (try with_reducible rfl)); (try simp only [Act.put, List.setIfInBounds_toArray, List.set_cons_zero, List.set_cons_succ, List.getElem_toArray, List.getElem_cons_zero, List.getElem_cons_succ])) | fail "take 7"
  first | (refine wpAnyH_take (i := 8) (v := ?_) rfl (by kernel_rfl) (by kernel_rfl) (by kernel_rfl) (fun _ _ _ h => h) (Or.inl ⟨by rfl, ?_⟩) (by assumption) ?_; rotate_left; (intro X hSw; (try dsimp only at hSw); go_simp; (try with_reducible rfl)); (try simp only [Act.put, List.setIfInBounds_toArray, List.set_cons_zero, List.set_cons_succ, List.getElem_toArray, List.getElem_cons_zero, List.getElem_cons_succ])) | fail "take 8"
  first | (refine wpAnyH_take (i := 10) (v := ?_) rfl (by kernel_rfl) (by kernel_rfl) (by kernel_rfl) (fun _ _ _ h => h) (Or.inl ⟨by rfl, ?_⟩) (by assumption) ?_; rotate_left; (intro X hSw; (try dsimp only at hSw); go_simp; (try with_reducible rfl)); (try simp only [Act.put, List.setIfInBounds_toArray, List.set_cons_zero, List.set_cons_succ, List.getElem_toArray, List.getElem_cons_zero, List.getElem_cons_succ])) | fail "take 10"
  first | (refine wpAnyH_take (i := 12) (v := ?_) rfl (by kernel_rfl) (by kernel_rfl) (by kernel_rfl) (fun _ _ _ h => h) (Or.inl ⟨by rfl, ?_⟩) (by assumption) ?_; rotate_left; (intro X hSw; (try dsimp only at hSw); go_simp; (try with_reducible rfl)); (try simp only [Act.put, List.setIfInBounds_toArray, List.set_cons_zero, List.set_cons_succ, List.getElem_toArray, List.getElem_cons_zero, List.getElem_cons_succ])) | fail "take 12"
  first | (refine wpAnyH_take (i := 13) (v := ?_) rfl (by kernel_rfl) (by kernel_rfl) (by kernel_rfl) (fun _ _ _ h => h) (Or.inl ⟨by rfl, ?_⟩) (by assumption) ?_; rotate_left; (intro X hSw; (try dsimp only at hSw); go_simp; (try with_reducible rfl)); (try simp only [Act.put, List.setIfInBounds_toArray, List.set_cons_zero, List.set_cons_succ, List.getElem_toArray, List.getElem_cons_zero, List.getElem_cons_succ])) | fail "take 13"
  first | (refine wpAnyH_take (i := 14) (v := ?_) rfl (by kernel_rfl) (by kernel_rfl) (by kernel_rfl) (fun _ _ _ h => h) (Or.inl ⟨by rfl, ?_⟩) (by assumption) ?_; rotate_left; (intro X hSw; (try dsimp only at hSw); go_simp; (try with_reducible rfl)); (try simp only [Act.put, List.setIfInBounds_toArray, List.set_cons_zero, List.set_cons_succ, List.getElem_toArray, List.getElem_cons_zero, List.getElem_cons_succ])) | fail "take 14"
  refine wpAnyH_ready (rs := [9, 11]) (by kernel_rfl) (by simp) ?_
  refine AllReadyH.cons rfl (fun K hK => ?_) (AllReadyH.cons rfl (fun K hK => ?_) AllReadyH.nil)
  · go_simp
    refine (HLI.out _).mono ?_
    rintro e w3 ⟨rfl, hb⟩
    have HJ := Lib.hid (HJ.out.drew.call hb)
    clear hb
    (try dsimp only)
    refine hK.out _ _ (by exact ⟨HJ.out.s.cells.1, HCY.out _ HJ.out.b⟩) (fun hHeld => ?_)
    clear hK K
    (try simp only [Act.put, List.setIfInBounds_toArray, List.set_cons_zero, List.set_cons_succ, List.getElem_toArray, List.getElem_cons_zero, List.getElem_cons_succ])
    refine wpAnyH_ready (rs := [11]) (by kernel_rfl) (by simp) ?_
    refine AllReadyH.cons rfl (fun K hK => ?_) AllReadyH.nil
    obtain ⟨q0, q1, q2, q3⟩ := HJ.out.s.cells
    go_simp
    (try dsimp only)
    refine hK.out _ _ (by exact ⟨HJ.out.s.cells.1, HCY.out _ HJ.out.b⟩) (fun hHeld => ?_)
    clear hK K
    (try simp only [Act.put, List.setIfInBounds_toArray, List.set_cons_zero, List.set_cons_succ, List.getElem_toArray, List.getElem_cons_zero, List.getElem_cons_succ])
    clear q0 q1 q2 q3
    refine wpAnyH_ready (rs := [15]) (by kernel_rfl) (by simp) ?_
    refine AllReadyH.cons rfl (fun K hK => ?_) AllReadyH.nil
    go_simp
    refine (HCO.out _).mono ?_
    rintro e w4 ⟨rfl, hb⟩
    have HJ := Lib.hid (HJ.out.call hb)
    clear hb
    (try dsimp only)
    refine hK.out _ _ (by exact ⟨HJ.out.s.cells.1, HCY.out _ HJ.out.b⟩) (fun hHeld => ?_)
    clear hK K
    (try simp only [Act.put, List.setIfInBounds_toArray, List.set_cons_zero, List.set_cons_succ, List.getElem_toArray, List.getElem_cons_zero, List.getElem_cons_succ])
    first | (refine wpAnyH_take (i := 16) (v := ?_) rfl (by kernel_rfl) (by kernel_rfl) (by kernel_rfl) (fun _ _ _ h => h) (Or.inl ⟨by rfl, ?_⟩) (by assumption) ?_; rotate_left; (intro X hSw; (try dsimp only at hSw); go_simp; (try with_reducible rfl)); (try simp only [Act.put, List.setIfInBounds_toArray, List.set_cons_zero, List.set_cons_succ, List.getElem_toArray, List.getElem_cons_zero, List.getElem_cons_succ])) | fail "take 16"
    refine wpAnyH_ready (rs := [17]) (by kernel_rfl) (by simp) ?_
    refine AllReadyH.cons rfl (fun K hK => ?_) AllReadyH.nil
    obtain ⟨q0, q1, q2, q3⟩ := HJ.out.s.cells
    have f1 := HJ.out.s.free 1
    have f2 := HJ.out.s.free 2
    have f3 := HJ.out.s.free 3
    have HJ := Lib.hid (HJ.out.setAgg rx ry rz)
    go_simp
    (try dsimp only)
    refine hK.out _ _ (by exact ⟨HJ.out.s.cells.1, HCY.out _ HJ.out.b⟩) (fun hHeld => ?_)
    clear hK K
    (try simp only [Act.put, List.setIfInBounds_toArray, List.set_cons_zero, List.set_cons_succ, List.getElem_toArray, List.getElem_cons_zero, List.getElem_cons_succ])
    refine wpAnyH_done (by kernel_rfl) ?_ _
    clear q0 q1 q2 q3 f1 f2 f3
    obtain ⟨X5, hX5⟩ : ∃ X5, X5 = ((w4.setCell ⟨w.heap.size, 1, none⟩ (.int .i64 rx)).setCell ⟨w.heap.size, 2, none⟩ (.int .i64 ry)).setCell ⟨w.heap.size, 3, none⟩ (.int .i64 rz) := ⟨_, rfl⟩
    rw [← hX5] at HJ ⊢
    clear hX5
    obtain ⟨q0, q1, q2, q3⟩ := HJ.out.s.cells
    have f0 := HJ.out.s.free 0
    have hNT : Nums .i64 X5 (some ⟨b0, boff + 1, none⟩) (m - 1) (ic - 1) J := by
      obtain ⟨h1, h2, h3, h4⟩ := HI0.out.below HJ.out.b
      refine ⟨by have := HIL.out; simp at this; omega, by omega, by omega, ?_⟩
      rcases h4 with h4 | ⟨b', off', e, hlt, hc⟩
      · omega
      · simp only [Option.some.injEq, Addr.mk.injEq, and_true] at e
        obtain ⟨rfl, rfl⟩ := e
        refine .inr ⟨b0, boff + 1, rfl, hlt, fun i hi => ?_⟩
        have := hc (i + 1) (by omega)
        rw [show boff + 1 + i = boff + (i + 1) by omega, this]
        simp
    have HNT := Lib.hid hNT
    have HNT0 := Lib.hid (show ic = 1 → Nums .i64 X5 (some ⟨b0, boff, none⟩) (m - 1) 0 J from fun h1 => ⟨hNT.1, by omega, by simp [maxLen], .inl (by omega)⟩)
    have hsl1 : ((m : Int) - 1).toNat = m - 1 := by omega
    have hsl2 : ((ic : Int) - 1).toNat = ic - 1 := by omega
    clear hNT
    go_wp2_with fail
    all_goals first
      | refine (clone_any (some ⟨b0, boff + 1, none⟩) (m - 1) (ic - 1) J _ HNT.out (by omega)).mono ?_
      | refine (clone_any (some ⟨b0, boff, none⟩) (m - 1) 0 J _ (HNT0.out (by omega)) (by omega)).mono ?_
    all_goals
      rintro e w6 ⟨v6, m6, rfl, ho6, hb6⟩
      obtain rfl : m6 = J.length := by have h := ho6.1; simp at h; omega
      obtain ⟨ja, jc, rfl⟩ := p_slice ho6
      have HO := Lib.hid (owns_lower ho6 HJ.out.lt)
      have HJ := Lib.hid (HJ.out.call hb6)
      clear hb6 ho6 q0 q1 q2 q3 f0
      obtain ⟨q0, q1, q2, q3⟩ := HJ.out.s.cells
      have f0 := HJ.out.s.free 0
      have HO8 := Lib.hid (own_setlow (d := w.heap.size) (o := 0) (u := .slice ja J.length jc) HO.out (by omega))
      have HJ := Lib.hid (HJ.out.setItems (.slice ja J.length jc))
      go_upto_region 10 with (fail)
      obtain ⟨X8, hX8⟩ : ∃ X8, X8 = w6.setCell ⟨w.heap.size, 0, none⟩ (.slice ja J.length jc) := ⟨_, rfl⟩
      rw [← hX8] at HJ HO8 ⊢
      clear hX8 q0 q1 q2 q3 f0
      obtain ⟨q0, q1, q2, q3⟩ := HJ.out.s.cells
      obtain ⟨s0, s1, s2, s3⟩ := HJ.out.r.cells
      have e0 := HJ.out.r.free
      go_wp2_with fail
      refine bodyPost_ret (by simp [results, Tryz.results11, go_sem, *]; try rfl) rfl ?_
      have hs : Agg.ivStep k (y :: J) (false, x) = ⟨J, ⟨rx, ry, rz⟩⟩ := by rw [HRES.out]; simp [Agg.ivStep, Agg.stepW]
      rw [hs]
      exact iv_out (s := ⟨J, ⟨rx, ry, rz⟩⟩) HJ.out.b HO8.out _ _ _ _
  · obtain ⟨q0, q1, q2, q3⟩ := HJ.out.s.cells
    go_simp
    (try dsimp only)
    refine hK.out _ _ (by exact ⟨HJ.out.s.cells.1, HCY.out _ HJ.out.b.drew⟩) (fun hHeld => ?_)
    clear hK K
    (try simp only [Act.put, List.setIfInBounds_toArray, List.set_cons_zero, List.set_cons_succ, List.getElem_toArray, List.getElem_cons_zero, List.getElem_cons_succ])
    clear q0 q1 q2 q3
    refine wpAnyH_ready (rs := [9]) (by kernel_rfl) (by simp) ?_
    refine AllReadyH.cons rfl (fun K hK => ?_) AllReadyH.nil
    go_simp
    refine (HLI.out _).mono ?_
    rintro e w3 ⟨rfl, hb⟩
    have HJ := Lib.hid (HJ.out.drew.call hb)
    clear hb
    (try dsimp only)
    refine hK.out _ _ (by exact ⟨HJ.out.s.cells.1, HCY.out _ HJ.out.b⟩) (fun hHeld => ?_)
    clear hK K
    (try simp only [Act.put, List.setIfInBounds_toArray, List.set_cons_zero, List.set_cons_succ, List.getElem_toArray, List.getElem_cons_zero, List.getElem_cons_succ])
    refine wpAnyH_ready (rs := [15]) (by kernel_rfl) (by simp) ?_
    refine AllReadyH.cons rfl (fun K hK => ?_) AllReadyH.nil
    go_simp
    refine (HCO.out _).mono ?_
    rintro e w4 ⟨rfl, hb⟩
    have HJ := Lib.hid (HJ.out.call hb)
    clear hb
    (try dsimp only)
    refine hK.out _ _ (by exact ⟨HJ.out.s.cells.1, HCY.out _ HJ.out.b⟩) (fun hHeld => ?_)
    clear hK K
    (try simp only [Act.put, List.setIfInBounds_toArray, List.set_cons_zero, List.set_cons_succ, List.getElem_toArray, List.getElem_cons_zero, List.getElem_cons_succ])
    first | (refine wpAnyH_take (i := 16) (v := ?_) rfl (by kernel_rfl) (by kernel_rfl) (by kernel_rfl) (fun _ _ _ h => h) (Or.inl ⟨by rfl, ?_⟩) (by assumption) ?_; rotate_left; (intro X hSw; (try dsimp only at hSw); go_simp; (try with_reducible rfl)); (try simp only [Act.put, List.setIfInBounds_toArray, List.set_cons_zero, List.set_cons_succ, List.getElem_toArray, List.getElem_cons_zero, List.getElem_cons_succ])) | fail "take 16"
    refine wpAnyH_ready (rs := [17]) (by kernel_rfl) (by simp) ?_
    refine AllReadyH.cons rfl (fun K hK => ?_) AllReadyH.nil
    obtain ⟨q0, q1, q2, q3⟩ := HJ.out.s.cells
    have f1 := HJ.out.s.free 1
    have f2 := HJ.out.s.free 2
    have f3 := HJ.out.s.free 3
    have HJ := Lib.hid (HJ.out.setAgg rx ry rz)
    go_simp
    (try dsimp only)
    refine hK.out _ _ (by exact ⟨HJ.out.s.cells.1, HCY.out _ HJ.out.b⟩) (fun hHeld => ?_)
    clear hK K
    (try simp only [Act.put, List.setIfInBounds_toArray, List.set_cons_zero, List.set_cons_succ, List.getElem_toArray, List.getElem_cons_zero, List.getElem_cons_succ])
    refine wpAnyH_done (by kernel_rfl) ?_ _
    clear q0 q1 q2 q3 f1 f2 f3
    obtain ⟨X5, hX5⟩ : ∃ X5, X5 = ((w4.setCell ⟨w.heap.size, 1, none⟩ (.int .i64 rx)).setCell ⟨w.heap.size, 2, none⟩ (.int .i64 ry)).setCell ⟨w.heap.size, 3, none⟩ (.int .i64 rz) := ⟨_, rfl⟩
    rw [← hX5] at HJ ⊢
    clear hX5
    obtain ⟨q0, q1, q2, q3⟩ := HJ.out.s.cells
    have f0 := HJ.out.s.free 0
    have hNT : Nums .i64 X5 (some ⟨b0, boff + 1, none⟩) (m - 1) (ic - 1) J := by
      obtain ⟨h1, h2, h3, h4⟩ := HI0.out.below HJ.out.b
      refine ⟨by have := HIL.out; simp at this; omega, by omega, by omega, ?_⟩
      rcases h4 with h4 | ⟨b', off', e, hlt, hc⟩
      · omega
      · simp only [Option.some.injEq, Addr.mk.injEq, and_true] at e
        obtain ⟨rfl, rfl⟩ := e
        refine .inr ⟨b0, boff + 1, rfl, hlt, fun i hi => ?_⟩
        have := hc (i + 1) (by omega)
        rw [show boff + 1 + i = boff + (i + 1) by omega, this]
        simp
    have HNT := Lib.hid hNT
    have HNT0 := Lib.hid (show ic = 1 → Nums .i64 X5 (some ⟨b0, boff, none⟩) (m - 1) 0 J from fun h1 => ⟨hNT.1, by omega, by simp [maxLen], .inl (by omega)⟩)
    have hsl1 : ((m : Int) - 1).toNat = m - 1 := by omega
    have hsl2 : ((ic : Int) - 1).toNat = ic - 1 := by omega
    clear hNT
    go_wp2_with fail
    all_goals first
      | refine (clone_any (some ⟨b0, boff + 1, none⟩) (m - 1) (ic - 1) J _ HNT.out (by omega)).mono ?_
      | refine (clone_any (some ⟨b0, boff, none⟩) (m - 1) 0 J _ (HNT0.out (by omega)) (by omega)).mono ?_
    all_goals
      rintro e w6 ⟨v6, m6, rfl, ho6, hb6⟩
      obtain rfl : m6 = J.length := by have h := ho6.1; simp at h; omega
      obtain ⟨ja, jc, rfl⟩ := p_slice ho6
      have HO := Lib.hid (owns_lower ho6 HJ.out.lt)
      have HJ := Lib.hid (HJ.out.call hb6)
      clear hb6 ho6 q0 q1 q2 q3 f0
      obtain ⟨q0, q1, q2, q3⟩ := HJ.out.s.cells
      have f0 := HJ.out.s.free 0
      have HO8 := Lib.hid (own_setlow (d := w.heap.size) (o := 0) (u := .slice ja J.length jc) HO.out (by omega))
      have HJ := Lib.hid (HJ.out.setItems (.slice ja J.length jc))
      go_upto_region 10 with (fail)
      obtain ⟨X8, hX8⟩ : ∃ X8, X8 = w6.setCell ⟨w.heap.size, 0, none⟩ (.slice ja J.length jc) := ⟨_, rfl⟩
      rw [← hX8] at HJ HO8 ⊢
      clear hX8 q0 q1 q2 q3 f0
      obtain ⟨q0, q1, q2, q3⟩ := HJ.out.s.cells
      obtain ⟨s0, s1, s2, s3⟩ := HJ.out.r.cells
      have e0 := HJ.out.r.free
      go_wp2_with fail
      refine bodyPost_ret (by simp [results, Tryz.results11, go_sem, *]; try rfl) rfl ?_
      have hs : Agg.ivStep k (y :: J) (false, x) = ⟨J, ⟨rx, ry, rz⟩⟩ := by rw [HRES.out]; simp [Agg.ivStep, Agg.stepW]
      rw [hs]
      exact iv_out (s := ⟨J, ⟨rx, ry, rz⟩⟩) HJ.out.b HO8.out _ _ _ _
theorem inverseStep_any (k : Int) (ia : Option Addr) (m ic : Nat) (ax ay az : Int) (I : List Int) (p : Bool) (x : Int) (w : World) (hI : Nums .i64 w ia m ic I) :
    Calls Tryz.prog 11 #[.int .i64 k, .agg #[.slice ia m ic, .int .i64 ax, .int .i64 ay, .int .i64 az], .agg #[.bool p, .int .i64 x]] w (IvOut (Agg.ivCan k ⟨I, ⟨ax, ay, az⟩⟩ (p, x)) (Agg.aIv k ⟨I, ⟨ax, ay, az⟩⟩ (p, x)) w) := by
  cases hst : Agg.ivCan k ⟨I, ⟨ax, ay, az⟩⟩ (p, x)
  · rw [show Agg.aIv k ⟨I, ⟨ax, ay, az⟩⟩ (p, x) = Agg.zeroIv by simp [Agg.aIv, hst]]
    exact inverseStep_not k ia m ic ax ay az I p x w hI hst
  · rw [show Agg.aIv k ⟨I, ⟨ax, ay, az⟩⟩ (p, x) = Agg.ivStep k I (p, x) by simp [Agg.aIv, hst]]
    cases p
    · exact inverseStep_pop k ia m ic ax ay az I x w hI hst
    · exact inverseStep_push k ia m ic ax ay az I x w hI hst
end Go.Proofs.YtehfijijapfomaaGreat
