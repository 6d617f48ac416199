import Derived.Test.YtmlkdbmhekiniaaGreatQc
import Derived.Deep.DeepMust
import Derived.Test.YtmlkdbmhekiniaaGreatO
import Derived.Deep.DeepCutAuto
import Derived.Test.YtmlkdbmhekiniaaGreatTb
import Derived.Deep.RegionHeld3
import Derived.Test.YtmlkdbmhekiniaaGreatQb
import Derived.Deep.SlicePairs
import Derived.Lib.SmallJoins
import Derived.WalkKit
import Derived.ProofKit
import Derived.OpenShut
import Derived.Test.YtmlkdbmhekiniaaGreatDq
import Derived.Test.YtmlkdbmhekiniaaGreatRw
/-
  The model's change of an inverse.
-/
namespace Go.Proofs.YtmlkdbmhekiniaaGreat
set_option linter.unusedSimpArgs false
set_option linter.unusedVariables false
open Go.RowKit
theorem OwnR.of6 {w : World} {lo lo' n : Nat} {v : Value} {l : List Int} (h : w.ownsRow lo 3 1 v n (l.map (Value.int .i64))) (hb : lo' ≤ lo) (hs : lo' ≤ w.heap.size) : OwnR w lo' w.heap.size v n l :=
  ⟨owns_lower h hb, hs, Nat.le_refl _, fun g hg => (h.lt g hg).2⟩
theorem own_set_ne6 {w : World} {base e size n d o : Nat} {v u : Value} {xs : List Value} (h : w.ownsRow base e size v n xs) (hd : ∀ g, v.ownBlock = some g → g ≠ d) : (w.setCell ⟨d, o, none⟩ u).ownsRow base e size v n xs := by
  refine h.kept (row := some d) ⟨rfl, rfl, rfl, by simp [World.setCell], fun k hk hne => Below.heap_setCell _ _ _ _ (fun e => hne (by rw [e]))⟩ ?_
  cases hv : v.ownBlock with
  | none => exact .inl rfl
  | some g => exact .inr (fun e => by cases e; exact hd _ hv rfl)
/-- A variable of two cells: its block. -/
def Box2q (w : World) (c : Nat) (T : TypeId) (u v : Value) : Prop := w.heap[c]? = some (.cells #[u, v] T (0, 0))
section
variable {w w' : World} {c d : Nat} {T : TypeId} {u v : Value}
theorem Box2q.new1 {Y : World} {g : Nat} (T : TypeId) (u v : Value) (hg : g = Y.heap.size) : Box2q (Y.alloc (.cells #[u, v] T)) g T u v := by subst hg; exact heap_alloc_new Y _
theorem Box2q.lt (h : Box2q w c T u v) : c < w.heap.size := (Array.getElem?_eq_some_iff.1 h).1
theorem Box2q.call (h : Box2q w c T u v) (hb : Below w.heap.size w w') : Box2q w' c T u v := (hb.block c h.lt).trans h
theorem Box2q.alloc (h : Box2q w c T u v) (o : Obj) : Box2q (w.alloc o) c T u v := h.call ((Below.refl _ _).alloc (Nat.le_refl _) _)
theorem Box2q.grown {row : Option Nat} (h : Box2q w c T u v) (hg : w.grownBy w' row) (hr : row ≠ some c) : Box2q w' c T u v := (hg.block c h.lt (fun e => hr e.symm)).trans h
theorem Box2q.other (h : Box2q w c T u v) (hd : c ≠ d) (o : Nat) (x : Value) : Box2q (w.setCell ⟨d, o, none⟩ x) c T u v := by
  unfold Box2q at *
  rw [Below.heap_setCell _ _ _ _ (by simpa using hd)]
  exact h
theorem Box2q.cells (h : Box2q w c T u v) : w.cell? ⟨c, 0, none⟩ = some u ∧ w.cell? ⟨c, 1, none⟩ = some v := by
  unfold Box2q at h
  constructor <;> simp [World.cell?, h]
end
/-- What the change itself answers. -/
def L6Out (s : Agg.Iv) (w : World) (e : Ending) (w' : World) : Prop :=
  ∃ a c, e = .returned (.tuple #[.agg #[.slice a s.items.length c, .int .i64 s.agg.x, .int .i64 s.agg.y, .int .i64 s.agg.z], .bool true]) ∧ Nums .i64 w' a s.items.length c s.items ∧ (∀ b off, a = some ⟨b, off, none⟩ → w.heap.size ≤ b) ∧ Below w.heap.size w w'
theorem nums_tail {w : World} {g off m c : Nat} {y : Int} {J : List Int} (h : Nums .i64 w (some ⟨g, off, none⟩) m c (y :: J)) (hm : 0 < m) : Nums .i64 w (some ⟨g, off + 1, none⟩) (m - 1) (c - 1) J := by
  obtain ⟨h1, h2, h3, h4⟩ := h
  refine ⟨by simp at h1; omega, by omega, by omega, ?_⟩
  rcases h4 with h4 | ⟨b', off', e, hlt, hc⟩
  · omega
  · simp only [Option.some.injEq, Addr.mk.injEq, and_true] at e
    obtain ⟨rfl, rfl⟩ := e
    refine .inr ⟨g, off + 1, rfl, hlt, fun i hi => ?_⟩
    have := hc (i + 1) (by omega)
    rw [show off + 1 + i = off + (i + 1) by omega, this]
    simp
theorem nums_set1 {w : World} {g off n c d o : Nat} {l : List Int} {u : Value} (h : Nums .i64 w (some ⟨g, off, none⟩) n c l) (hd : g ≠ d) : Nums .i64 (w.setCell ⟨d, o, none⟩ u) (some ⟨g, off, none⟩) n c l := by
  obtain ⟨h1, h2, h3, h4⟩ := h
  refine ⟨h1, h2, h3, ?_⟩
  rcases h4 with h4 | ⟨b', off', e, hlt, hc⟩
  · exact .inl h4
  · simp only [Option.some.injEq, Addr.mk.injEq, and_true] at e
    obtain ⟨rfl, rfl⟩ := e
    refine .inr ⟨g, off, rfl, by simpa [World.setCell] using hlt, fun i hi => ?_⟩
    have := hc i hi
    unfold World.cell? at *
    rw [Below.heap_setCell _ _ _ _ (by simpa using hd)]
    exact this
theorem nums_sets4 {w : World} {g off n c d : Nat} {l : List Int} (h : Nums .i64 w (some ⟨g, off, none⟩) n c l) (hd : g ≠ d) (u0 u1 u2 u3 : Value) : Nums .i64 ((((w.setCell ⟨d, 0, none⟩ u0).setCell ⟨d, 1, none⟩ u1).setCell ⟨d, 2, none⟩ u2).setCell ⟨d, 3, none⟩ u3) (some ⟨g, off, none⟩) n c l :=
  nums_set1 (nums_set1 (nums_set1 (nums_set1 h hd) hd) hd) hd
theorem own_nums1 {w : World} {lo n cap : Nat} {a : Option Addr} {l : List Int} (h : w.ownsRow lo 3 1 (.slice a n cap) n (l.map (Value.int .i64))) (hs : lo ≤ w.heap.size) : Nums .i64 w a n cap l := by
  obtain ⟨a', c', e', hN, -⟩ := (OwnR.of6 (lo := lo) (lo' := lo) h (Nat.le_refl _) hs).nums
  simp only [Value.slice.injEq] at e'
  obtain ⟨rfl, -, rfl⟩ := e'
  exact hN
theorem IvJ.store {w X : World} {ia : Option Addr} {m ic : Nat} {ax ay az : Int} {p : Bool} {x : Int} (h : IvJ w (.slice ia m ic) ax ay az p x X) (u0 u1 u2 u3 : Value) :
    ((fun X => (X.cell? ⟨w.heap.size, 0, none⟩ = some (.slice ia m ic) ∧ X.cell? ⟨w.heap.size, 1, none⟩ = some (.int .i64 ax) ∧ X.cell? ⟨w.heap.size, 2, none⟩ = some (.int .i64 ay) ∧ X.cell? ⟨w.heap.size, 3, none⟩ = some (.int .i64 az)) ∧ X.cell? ⟨w.heap.size + 1, 0, none⟩ = some (.bool p) ∧ X.cell? ⟨w.heap.size + 1, 1, none⟩ = some (.int .i64 x))) (((((X.setCell ⟨w.heap.size + 1 + 1, 0, none⟩ u0).setCell ⟨w.heap.size + 1 + 1, 1, none⟩ u1).setCell ⟨w.heap.size + 1 + 1, 2, none⟩ u2).setCell ⟨w.heap.size + 1 + 1, 3, none⟩ u3)) ∧ Box4 (((((X.setCell ⟨w.heap.size + 1 + 1, 0, none⟩ u0).setCell ⟨w.heap.size + 1 + 1, 1, none⟩ u1).setCell ⟨w.heap.size + 1 + 1, 2, none⟩ u2).setCell ⟨w.heap.size + 1 + 1, 3, none⟩ u3)) (w.heap.size + 1 + 1) 27 u0 u1 u2 u3 ∧ Below w.heap.size w (((((X.setCell ⟨w.heap.size + 1 + 1, 0, none⟩ u0).setCell ⟨w.heap.size + 1 + 1, 1, none⟩ u1).setCell ⟨w.heap.size + 1 + 1, 2, none⟩ u2).setCell ⟨w.heap.size + 1 + 1, 3, none⟩ u3)) := by
  have hs := (((h.s.other (d := w.heap.size + 1 + 1) (by omega) 0 u0).other (d := w.heap.size + 1 + 1) (by omega) 1 u1).other (d := w.heap.size + 1 + 1) (by omega) 2 u2).other (d := w.heap.size + 1 + 1) (by omega) 3 u3
  have ho : Box2p (((((X.setCell ⟨w.heap.size + 1 + 1, 0, none⟩ u0).setCell ⟨w.heap.size + 1 + 1, 1, none⟩ u1).setCell ⟨w.heap.size + 1 + 1, 2, none⟩ u2).setCell ⟨w.heap.size + 1 + 1, 3, none⟩ u3)) (w.heap.size + 1) 29 (.bool p) (.int .i64 x) := by
    have := h.o
    unfold Box2p at *
    rw [Below.heap_setCell _ _ _ _ (by simp), Below.heap_setCell _ _ _ _ (by simp), Below.heap_setCell _ _ _ _ (by simp), Below.heap_setCell _ _ _ _ (by simp)]
    exact this
  exact ⟨⟨hs.cells, ho.cells⟩, (((h.r.set0 u0).set1 u1).set2 u2).set3 u3, sets4 h.b (by omega) _ _ _ _⟩
set_option maxRecDepth 8000 in
set_option maxHeartbeats 8000000 in
theorem s_l6Step_push (k : Int) (ia : Option Addr) (m ic : Nat) (ax ay az : Int) (I : List Int) (x : Int) (w : World) (hI : Nums .i64 w ia m ic I) (hst : Agg.ivCan k ⟨I, ⟨ax, ay, az⟩⟩ (true, x) = true) :
    Calls Tryz.prog 61 #[.int .i64 k, .agg #[.slice ia m ic, .int .i64 ax, .int .i64 ay, .int .i64 az], .agg #[.bool true, .int .i64 x]] w (L6Out (Agg.ivStep k I (true, x)) w) := by
  obtain ⟨W, hW⟩ : ∃ W, W = ((w.alloc (.cells #[.slice ia m ic, .int .i64 ax, .int .i64 ay, .int .i64 az] 27)).alloc (.cells #[.bool true, .int .i64 x] 29)).alloc (.cells #[.slice none 0 0, .int .i64 0, .int .i64 0, .int .i64 0] 27) := ⟨_, rfl⟩
  have HJ := Lib.hid (show IvJ w (.slice ia m ic) ax ay az true x W from by
    rw [hW]
    exact ⟨((Box4.new w _ _ _ _ _).alloc _).alloc _, (Below.heap_alloc _ _ (w.heap.size + 1) (by simp)).trans (by have := heap_alloc_new (w.alloc (.cells #[.slice ia m ic, .int .i64 ax, .int .i64 ay, .int .i64 az] 27)) (.cells #[.bool true, .int .i64 x] 29); simpa using this), Box4.new1 _ _ _ _ _ (by simp), (((Below.refl _ _).alloc (Nat.le_refl _) _).alloc (by simp) _).alloc (by simp; omega) _⟩)
  have HIL := Lib.hid (show I.length = m from hI.1)
  have HI0 := Lib.hid hI
  clear hI
  obtain ⟨q0, q1, q2, q3⟩ := HJ.out.s.cells
  obtain ⟨p0, p1⟩ := HJ.out.o.cells
  have hv : Agg.ivOk k ⟨I, ⟨ax, ay, az⟩⟩ = true := by simp only [Agg.ivCan, Bool.and_eq_true] at hst; exact hst.1
  have hcan : Agg.can (true, x) (m : Int) = true := by simp only [Agg.ivCan, Bool.and_eq_true, HIL.out] at hst; exact hst.2
  obtain ⟨hr, hk, hit, hag, hok⟩ := Agg.ivOk_parts hv
  simp only at hit hag hok
  obtain ⟨hx, hm60⟩ := Agg.can_push hcan
  have hxb : 0 ≤ x ∧ x ≤ 96 := by simpa [Agg.isItem] using hx
  have hlk := Agg.ok_lift hk hx
  have hLI := fun w => s_lift_any k hk x w hxb.1 hxb.2
  have hIN := fun w => s_in_item x w
  rw [hx] at hIN
  have HIN := Lib.hid hIN
  obtain ⟨⟨lx, ly, lz⟩, hL⟩ : ∃ V, V = Agg.lift k x := ⟨_, rfl⟩
  rw [← hL] at hLI hlk
  have hCO := fun w => s_combine_any k hk ax ay az lx ly lz w hok hlk
  obtain ⟨⟨rx, ry, rz⟩, hR⟩ : ∃ V, V = Agg.comb k ⟨ax, ay, az⟩ ⟨lx, ly, lz⟩ := ⟨_, rfl⟩
  rw [← hR] at hCO
  have HRES := Lib.hid (show (⟨rx, ry, rz⟩ : Agg.V) = Agg.fold k (I ++ [x]) from by rw [hR, hL, hag]; exact Agg.iv_push k I x)
  have HLI := Lib.hid hLI
  have HCO := Lib.hid hCO
  have hm60' : (m : Int) < 60 := by omega
  have hm60n : m < 60 := by omega
  obtain ⟨i0, hi, hz0, hz1, hz2⟩ := info_parts infoInt
  clear hst hr hv hcan hk hit hag hok hx hxb hlk hLI hCO hL hR hm60 hIN
  go_enter Tryz.func61, Tryz.ntmps61
  go_upto_region 1 with (fail)
  rw [← hW]
  clear hW
  obtain ⟨y0, y1, y2, y3⟩ := (HJ.out.call ((Below.refl _ _).alloc (Nat.le_refl _) (.cells #[] 3))).s.cells
  have hlW : w.heap.size < W.heap.size := by have := HJ.out.lt; omega
  go_wp2_with (at_builtin; go_must (refine wpList_append_copy rfl (.tmp 11) (.tmp 13) 23 rfl 3 i0 (.int .i64 0) 1 8 Tryz.underlying23 hi hz0 hz1 hz2 rfl (by decide) W.heap.size rfl (heap_alloc_new W _) ia m ic (I.map (Value.int .i64)) rfl (Nums.src (HI0.out.below (HJ.out.b.alloc HJ.out.b.size _))) (by unfold maxLen; omega) (by omega) ?_; intro v1 w1 hown1 hgrow1; obtain ⟨ja, jc, rfl⟩ := p_slice hown1; have HO := Lib.hid (owns_lower hown1 HJ.out.lt); have HJL := Lib.hid HJ.out.lt; have HN1 := Lib.hid (own_nums1 hown1 (by have := hgrow1.size; simp at this; omega)); have HJ := Lib.hid ((HJ.out.call ((Below.refl _ _).alloc (Nat.le_refl _) (.cells #[] 3))).grown hgrow1 (fun g hg => by have := HJ.out.lt; simp only [Option.some.injEq] at hg; omega)); have HL1 := Lib.hid (show w.heap.size + 3 ≤ w1.heap.size from HJ.out.lt); clear hown1 hgrow1 q0 q1 q2 q3 p0 p1; obtain ⟨q0, q1, q2, q3⟩ := HJ.out.s.cells; obtain ⟨p0, p1⟩ := HJ.out.o.cells))
  clear y0 y1 y2 y3 hlW
  refine (HIN.out _).mono ?_
  rintro e w2 ⟨rfl, rfl⟩
  go_wp2_with fail
  refine wp_region_held_drew (S := (fun X => (X.cell? ⟨w.heap.size, 0, none⟩ = some (.slice ia m ic) ∧ X.cell? ⟨w.heap.size, 1, none⟩ = some (.int .i64 ax) ∧ X.cell? ⟨w.heap.size, 2, none⟩ = some (.int .i64 ay) ∧ X.cell? ⟨w.heap.size, 3, none⟩ = some (.int .i64 az)) ∧ X.cell? ⟨w.heap.size + 1, 0, none⟩ = some (.bool true) ∧ X.cell? ⟨w.heap.size + 1, 1, none⟩ = some (.int .i64 x))) (by kernel_rfl) (by exact ⟨HJ.out.s.cells, HJ.out.o.cells⟩) (fun hHeld => ?_)
  first | (refine wpAnyH_take (i := 0) (v := ?_) rfl (by kernel_rfl) (by kernel_rfl) (by kernel_rfl) (fun _ _ _ h => h) (Or.inl ⟨by rfl, ?_⟩) (by assumption) ?_; rotate_left; (intro X hSw; (try dsimp only at hSw); go_simp; (try with_reducible rfl)); (try simp only [Act.put, List.setIfInBounds_toArray, List.set_cons_zero, List.set_cons_succ, List.getElem_toArray, List.getElem_cons_zero, List.getElem_cons_succ])) | fail "take 0"
  first | (refine wpAnyH_take (i := 1) (v := ?_) rfl (by kernel_rfl) (by kernel_rfl) (by kernel_rfl) (fun _ _ _ h => h) (Or.inl ⟨by rfl, ?_⟩) (by assumption) ?_; rotate_left; (intro X hSw; (try dsimp only at hSw); go_simp; (try with_reducible rfl)); (try simp only [Act.put, List.setIfInBounds_toArray, List.set_cons_zero, List.set_cons_succ, List.getElem_toArray, List.getElem_cons_zero, List.getElem_cons_succ])) | fail "take 1"
  first | (refine wpAnyH_take (i := 2) (v := ?_) rfl (by kernel_rfl) (by kernel_rfl) (by kernel_rfl) (fun _ _ _ h => h) (Or.inl ⟨by rfl, ?_⟩) (by assumption) ?_; rotate_left; (intro X hSw; (try dsimp only at hSw); go_simp; (try with_reducible rfl)); (try simp only [Act.put, List.setIfInBounds_toArray, List.set_cons_zero, List.set_cons_succ, List.getElem_toArray, List.getElem_cons_zero, List.getElem_cons_succ])) | fail "take 2"
  first | (refine wpAnyH_take (i := 5) (v := ?_) rfl (by kernel_rfl) (by kernel_rfl) (by kernel_rfl) (fun _ _ _ h => h) (Or.inl ⟨by rfl, ?_⟩) (by assumption) ?_; rotate_left; (intro X hSw; (try dsimp only at hSw); go_simp; (try with_reducible rfl)); (try simp only [Act.put, List.setIfInBounds_toArray, List.set_cons_zero, List.set_cons_succ, List.getElem_toArray, List.getElem_cons_zero, List.getElem_cons_succ])) | fail "take 5"
  first | (refine wpAnyH_take (i := 6) (v := ?_) rfl (by kernel_rfl) (by kernel_rfl) (by kernel_rfl) (fun _ _ _ h => h) (Or.inl ⟨by rfl, ?_⟩) (by assumption) ?_; rotate_left; (intro X hSw; (try dsimp only at hSw); go_simp; (try with_reducible rfl)); (try simp only [Act.put, List.setIfInBounds_toArray, List.set_cons_zero, List.set_cons_succ, List.getElem_toArray, List.getElem_cons_zero, List.getElem_cons_succ])) | fail "take 6"
  first | (refine wpAnyH_take (i := 7) (v := ?_) rfl (by kernel_rfl) (by kernel_rfl) (by kernel_rfl) (fun _ _ _ h => h) (Or.inl ⟨by rfl, ?_⟩) (by assumption) ?_; rotate_left; (intro X hSw; (try dsimp only at hSw); go_simp; (try with_reducible rfl)); (try simp only [Act.put, List.setIfInBounds_toArray, List.set_cons_zero, List.set_cons_succ, List.getElem_toArray, List.getElem_cons_zero, List.getElem_cons_succ])) | fail "take 7"
  first | (refine wpAnyH_take (i := 8) (v := ?_) rfl (by kernel_rfl) (by kernel_rfl) (by kernel_rfl) (fun _ _ _ h => h) (Or.inl ⟨by rfl, ?_⟩) (by assumption) ?_; rotate_left; (intro X hSw; (try dsimp only at hSw); go_simp; (try with_reducible rfl)); (try simp only [Act.put, List.setIfInBounds_toArray, List.set_cons_zero, List.set_cons_succ, List.getElem_toArray, List.getElem_cons_zero, List.getElem_cons_succ])) | fail "take 8"
  first | (refine wpAnyH_take (i := 9) (v := ?_) rfl (by kernel_rfl) (by kernel_rfl) (by kernel_rfl) (fun _ _ _ h => h) (Or.inl ⟨by rfl, ?_⟩) (by assumption) ?_; rotate_left; (intro X hSw; (try dsimp only at hSw); go_simp; (try with_reducible rfl)); (try simp only [Act.put, List.setIfInBounds_toArray, List.set_cons_zero, List.set_cons_succ, List.getElem_toArray, List.getElem_cons_zero, List.getElem_cons_succ])) | fail "take 9"
  first | (refine wpAnyH_take (i := 10) (v := ?_) rfl (by kernel_rfl) (by kernel_rfl) (by kernel_rfl) (fun _ _ _ h => h) (Or.inl ⟨by rfl, ?_⟩) (by assumption) ?_; rotate_left; (intro X hSw; (try dsimp only at hSw); go_simp; (try with_reducible rfl)); (try simp only [Act.put, List.setIfInBounds_toArray, List.set_cons_zero, List.set_cons_succ, List.getElem_toArray, List.getElem_cons_zero, List.getElem_cons_succ])) | fail "take 10"
  refine wpAnyH_ready (rs := [3]) (by kernel_rfl) (by simp) ?_
  refine AllReadyH.cons rfl (fun K hK => ?_) AllReadyH.nil
  go_simp
  have hbl : Below w1.heap.size w1 (w1.alloc (.cells #[.int .i64 x] 3)).drew := ((Below.refl _ _).alloc (Nat.le_refl _) _).drew
  have HLIT := Lib.hid (cell_one_new w1 (.int .i64 x) 3)
  have HO := Lib.hid (show (w1.alloc (.cells #[.int .i64 x] 3)).drew.ownsRow _ _ _ _ _ _ from HO.out.alloc (.cells #[.int .i64 x] 3))
  have HJ := Lib.hid (HJ.out.call hbl)
  clear hbl
  (try dsimp only)
  refine hK.out _ _ (by exact ⟨HJ.out.s.cells, HJ.out.o.cells⟩) (fun hHeld => ?_)
  clear hK K
  (try simp only [Act.put, List.setIfInBounds_toArray, List.set_cons_zero, List.set_cons_succ, List.getElem_toArray, List.getElem_cons_zero, List.getElem_cons_succ])
  refine wpAnyH_ready (rs := [4]) (by kernel_rfl) (by simp) ?_
  refine AllReadyH.cons rfl (fun K hK => ?_) AllReadyH.nil
  go_must (refine step_append_own (by rfl) (.tmp 27) (.tmp 30) 23 (by rfl) (w.heap.size + 3) 3 i0 (.int .i64 0) 1 8 Tryz.underlying23 hi hz0 hz1 hz2 rfl (by decide) (.slice ja m jc) m (I.map (Value.int .i64)) (by rfl) HO.out ⟨w1.heap.size, 0, none⟩ 1 1 [.int .i64 x] (by rfl) (by rfl) HLIT.out (ints_oneCell .i64 [x]) (by unfold maxLen; omega) (by omega) (by have := HJ.out.lt; omega) ?_)
  intro v7 w7 hown7 hgrow7 hnil7
  obtain ⟨ja7, jc7, rfl⟩ := p_slice hown7
  have HO7 := Lib.hid hown7
  have HJ := Lib.hid (HJ.out.grown hgrow7 (fun g hg => (HO.out.lt g hg).1))
  clear hown7 hgrow7 hnil7
  (try dsimp only)
  refine hK.out _ _ (by exact ⟨HJ.out.s.cells, HJ.out.o.cells⟩) (fun hHeld => ?_)
  clear hK K
  (try simp only [Act.put, List.setIfInBounds_toArray, List.set_cons_zero, List.set_cons_succ, List.getElem_toArray, List.getElem_cons_zero, List.getElem_cons_succ])
  refine wpAnyH_ready (rs := [11]) (by kernel_rfl) (by simp) ?_
  refine AllReadyH.cons rfl (fun K hK => ?_) AllReadyH.nil
  go_simp
  refine (HLI.out _).mono ?_
  rintro e w8 ⟨rfl, hb⟩
  have HJ := Lib.hid (HJ.out.call hb)
  have HO7 := Lib.hid (HO7.out.kept (Below.grownNone hb none) (Classical.em _))
  clear hb
  (try dsimp only)
  refine hK.out _ _ (by exact ⟨HJ.out.s.cells, HJ.out.o.cells⟩) (fun hHeld => ?_)
  clear hK K
  (try simp only [Act.put, List.setIfInBounds_toArray, List.set_cons_zero, List.set_cons_succ, List.getElem_toArray, List.getElem_cons_zero, List.getElem_cons_succ])
  refine wpAnyH_ready (rs := [12]) (by kernel_rfl) (by simp) ?_
  refine AllReadyH.cons rfl (fun K hK => ?_) AllReadyH.nil
  go_simp
  refine (HCO.out _).mono ?_
  rintro e w9 ⟨rfl, hb⟩
  have HJ := Lib.hid (HJ.out.call hb)
  have HO7 := Lib.hid (HO7.out.kept (Below.grownNone hb none) (Classical.em _))
  clear hb
  (try dsimp only)
  refine hK.out _ _ (by exact ⟨HJ.out.s.cells, HJ.out.o.cells⟩) (fun hHeld => ?_)
  clear hK K
  (try simp only [Act.put, List.setIfInBounds_toArray, List.set_cons_zero, List.set_cons_succ, List.getElem_toArray, List.getElem_cons_zero, List.getElem_cons_succ])
  first | (refine wpAnyH_take (i := 13) (v := ?_) rfl (by kernel_rfl) (by kernel_rfl) (by kernel_rfl) (fun _ _ _ h => h) (Or.inl ⟨by rfl, ?_⟩) (by assumption) ?_; rotate_left; (intro X hSw; (try dsimp only at hSw); go_simp; (try with_reducible rfl)); (try simp only [Act.put, List.setIfInBounds_toArray, List.set_cons_zero, List.set_cons_succ, List.getElem_toArray, List.getElem_cons_zero, List.getElem_cons_succ])) | fail "take 13"
  refine wpAnyH_ready (rs := [14]) (by kernel_rfl) (by simp) ?_
  refine AllReadyH.cons rfl (fun K hK => ?_) AllReadyH.nil
  obtain ⟨s0, s1, s2, s3⟩ := HJ.out.r.cells
  have e0 := HJ.out.r.free
  obtain ⟨hS, hBx, hBl⟩ := HJ.out.store (.slice ja7 (m + 1) jc7) (.int .i64 rx) (.int .i64 ry) (.int .i64 rz)
  go_simp
  (try dsimp only)
  refine hK.out _ _ (by exact hS) (fun hHeld => ?_)
  clear hK K
  (try simp only [Act.put, List.setIfInBounds_toArray, List.set_cons_zero, List.set_cons_succ, List.getElem_toArray, List.getElem_cons_zero, List.getElem_cons_succ])
  first | (refine wpAnyH_take (i := 15) (v := ?_) rfl (by kernel_rfl) (by kernel_rfl) (by kernel_rfl) (fun _ _ _ h => h) (Or.inl ⟨by rfl, ?_⟩) (by assumption) ?_; rotate_left; (intro X hSw; (try dsimp only at hSw); go_simp; (try with_reducible rfl)); (try simp only [Act.put, List.setIfInBounds_toArray, List.set_cons_zero, List.set_cons_succ, List.getElem_toArray, List.getElem_cons_zero, List.getElem_cons_succ])) | fail "take 15"
  refine wpAnyH_done (by kernel_rfl) ?_ _
  have HO8 := Lib.hid (own_setlow (d := w.heap.size + 1 + 1) (o := 3) (u := .int .i64 rz) (own_setlow (d := w.heap.size + 1 + 1) (o := 2) (u := .int .i64 ry) (own_setlow (d := w.heap.size + 1 + 1) (o := 1) (u := .int .i64 rx) (own_setlow (d := w.heap.size + 1 + 1) (o := 0) (u := .slice ja7 (m + 1) jc7) HO7.out (by omega)) (by omega)) (by omega)) (by omega))
  have HBX := Lib.hid hBx
  have HBL := Lib.hid hBl
  obtain ⟨X5, hX5⟩ : ∃ X5, X5 = (((w9.setCell ⟨w.heap.size + 1 + 1, 0, none⟩ (.slice ja7 (m + 1) jc7)).setCell ⟨w.heap.size + 1 + 1, 1, none⟩ (.int .i64 rx)).setCell ⟨w.heap.size + 1 + 1, 2, none⟩ (.int .i64 ry)).setCell ⟨w.heap.size + 1 + 1, 3, none⟩ (.int .i64 rz) := ⟨_, rfl⟩
  rw [← hX5] at HO8 HBX HBL ⊢
  clear hX5 hS hBx hBl s0 s1 s2 s3 e0
  obtain ⟨s0, s1, s2, s3⟩ := HBX.out.cells
  go_wp2_with fail
  refine bodyPost_ret (by simp [results, Tryz.results61, go_sem, *]; try rfl) rfl ?_
  have hil := HIL.out
  subst hil
  have hs : Agg.ivStep k I (true, x) = ⟨I ++ [x], ⟨rx, ry, rz⟩⟩ := by rw [HRES.out]; simp [Agg.ivStep, Agg.stepW]
  rw [hs]
  obtain ⟨a', c', e', hN, -⟩ := (OwnR.of6 (lo := w.heap.size + 3) (lo' := w.heap.size) (l := I ++ [x]) (by have := HO8.out; simpa using this) (by omega) HBL.out.size).nums
  simp only [Value.slice.injEq] at e'
  obtain ⟨rfl, -, rfl⟩ := e'
  refine ⟨ja7, jc7, by simp, ?_, (fun b off e => by have := (HO8.out.lt b (by rw [e]; rfl)).1; omega), HBL.out⟩
  have hl : (I ++ [x]).length = I.length + 1 := by simp
  show Nums .i64 X5 ja7 (I ++ [x]).length jc7 (I ++ [x])
  rw [hl]
  exact hN
set_option maxRecDepth 8000 in
set_option maxHeartbeats 8000000 in
theorem s_l6Step_pop (k : Int) (ia : Option Addr) (m ic : Nat) (ax ay az : Int) (I : List Int) (x : Int) (w : World) (hI : Nums .i64 w ia m ic I) (hst : Agg.ivCan k ⟨I, ⟨ax, ay, az⟩⟩ (false, x) = true) :
    Calls Tryz.prog 61 #[.int .i64 k, .agg #[.slice ia m ic, .int .i64 ax, .int .i64 ay, .int .i64 az], .agg #[.bool false, .int .i64 x]] w (L6Out (Agg.ivStep k I (false, x)) w) := by
  obtain ⟨W, hW⟩ : ∃ W, W = ((w.alloc (.cells #[.slice ia m ic, .int .i64 ax, .int .i64 ay, .int .i64 az] 27)).alloc (.cells #[.bool false, .int .i64 x] 29)).alloc (.cells #[.slice none 0 0, .int .i64 0, .int .i64 0, .int .i64 0] 27) := ⟨_, rfl⟩
  have HJ := Lib.hid (show IvJ w (.slice ia m ic) ax ay az false x W from by
    rw [hW]
    exact ⟨((Box4.new w _ _ _ _ _).alloc _).alloc _, (Below.heap_alloc _ _ (w.heap.size + 1) (by simp)).trans (by have := heap_alloc_new (w.alloc (.cells #[.slice ia m ic, .int .i64 ax, .int .i64 ay, .int .i64 az] 27)) (.cells #[.bool false, .int .i64 x] 29); simpa using this), Box4.new1 _ _ _ _ _ (by simp), (((Below.refl _ _).alloc (Nat.le_refl _) _).alloc (by simp) _).alloc (by simp; omega) _⟩)
  have HIL := Lib.hid (show I.length = m from hI.1)
  have HI0 := Lib.hid hI
  clear hI
  obtain ⟨q0, q1, q2, q3⟩ := HJ.out.s.cells
  obtain ⟨p0, p1⟩ := HJ.out.o.cells
  have hv : Agg.ivOk k ⟨I, ⟨ax, ay, az⟩⟩ = true := by simp only [Agg.ivCan, Bool.and_eq_true] at hst; exact hst.1
  have hcan : Agg.can (false, x) (m : Int) = true := by simp only [Agg.ivCan, Bool.and_eq_true, HIL.out] at hst; exact hst.2
  obtain ⟨hr, hk, hit, hag, hok⟩ := Agg.ivOk_parts hv
  simp only at hit hag hok
  obtain ⟨hx, hm0⟩ := Agg.can_pop hcan
  obtain ⟨y, J, rfl⟩ : ∃ y J, I = y :: J := by
    cases I with
    | nil => have := HIL.out; simp at this; omega
    | cons y J => exact ⟨y, J, rfl⟩
  have hy : Agg.isItem y = true := Agg.items_mem hit y (by simp)
  have hyb : 0 ≤ y ∧ y ≤ 96 := by simpa [Agg.isItem] using hy
  have hlk := Agg.ok_lift hk hy
  have hLI := fun w => s_lift_any k hk y w hyb.1 hyb.2
  have hJit : Agg.itemsOk J = true := by
    simp only [Agg.itemsOk, Bool.and_eq_true, decide_eq_true_eq, List.length_cons, List.all_cons] at hit ⊢
    exact ⟨by omega, hit.2.2⟩
  have hokJ := Agg.ok_fold_all hk hJit
  obtain ⟨-, hrest⟩ := Agg.iv_pop hr hit
  rw [← hag] at hrest
  have hCO := fun w => s_removeFirst_any k (Agg.lift k y).x (Agg.lift k y).y (Agg.lift k y).z ax ay az w
  have hre : Agg.aRest k ⟨(Agg.lift k y).x, (Agg.lift k y).y, (Agg.lift k y).z⟩ ⟨ax, ay, az⟩ = (Agg.fold k J, true) := by
    show Agg.aRest k (Agg.lift k y) ⟨ax, ay, az⟩ = _
    simp [Agg.aRest, Agg.valid, Agg.give, hk, hlk, hok, hr, hrest, hokJ]
  rw [hre] at hCO
  obtain ⟨⟨lx, ly, lz⟩, hL⟩ : ∃ V, V = Agg.lift k y := ⟨_, rfl⟩
  rw [← hL] at hLI hCO
  obtain ⟨⟨rx, ry, rz⟩, hR⟩ : ∃ V, V = Agg.fold k J := ⟨_, rfl⟩
  rw [← hR] at hCO
  have HRES := Lib.hid (show (⟨rx, ry, rz⟩ : Agg.V) = Agg.fold k J from hR)
  have HLI := Lib.hid hLI
  have HCO := Lib.hid hCO
  have hm60 : m ≤ 60 := by have := Agg.items_len hit; have := HIL.out; omega
  have hmN : 0 < m := by omega
  have hmI : (0 : Int) < (m : Int) := by omega
  have hmI1 : (1 : Int) ≤ (m : Int) := by omega
  have hmI0 : ¬ ((m : Int) = 0) := by omega
  obtain ⟨i0, hi, hz0, hz1, hz2⟩ := info_parts infoInt
  subst hx
  clear hst hr hv hcan hk hit hag hok hy hyb hlk hLI hCO hL hR hm0 hrest hre hJit hokJ
  go_enter Tryz.func61, Tryz.ntmps61
  go_upto_region 1 with (fail)
  rw [← hW]
  clear hW
  obtain ⟨y0, y1, y2, y3⟩ := (HJ.out.call ((Below.refl _ _).alloc (Nat.le_refl _) (.cells #[] 3))).s.cells
  have hlW : w.heap.size < W.heap.size := by have := HJ.out.lt; omega
  go_wp2_with (at_builtin; go_must (refine wpList_append_copy rfl (.tmp 11) (.tmp 13) 23 rfl 3 i0 (.int .i64 0) 1 8 Tryz.underlying23 hi hz0 hz1 hz2 rfl (by decide) W.heap.size rfl (heap_alloc_new W _) ia m ic ((y :: J).map (Value.int .i64)) rfl (Nums.src (HI0.out.below (HJ.out.b.alloc HJ.out.b.size _))) (by unfold maxLen; omega) (by omega) ?_; intro v1 w1 hown1 hgrow1; obtain ⟨ja, jc, rfl⟩ := p_slice hown1; have HO := Lib.hid (owns_lower hown1 HJ.out.lt); have HJL := Lib.hid HJ.out.lt; have HN1 := Lib.hid (own_nums1 hown1 (by have := hgrow1.size; simp at this; omega)); have HJ := Lib.hid ((HJ.out.call ((Below.refl _ _).alloc (Nat.le_refl _) (.cells #[] 3))).grown hgrow1 (fun g hg => by have := HJ.out.lt; simp only [Option.some.injEq] at hg; omega)); have HL1 := Lib.hid (show w.heap.size + 3 ≤ w1.heap.size from HJ.out.lt); clear hown1 hgrow1 q0 q1 q2 q3 p0 p1; obtain ⟨q0, q1, q2, q3⟩ := HJ.out.s.cells; obtain ⟨p0, p1⟩ := HJ.out.o.cells))
  clear y0 y1 y2 y3 hlW
  obtain ⟨g, off, rfl, hg, hgc⟩ : ∃ b off, ja = some ⟨b, off, none⟩ ∧ b < w1.heap.size ∧ ∀ i, i < m → w1.cell? ⟨b, off + i, none⟩ = some (.int .i64 ((y :: J)[i]?.getD 0)) := by
    rcases HN1.out.2.2.2 with h | h
    · omega
    · exact h
  have hcy : w1.cell? ⟨g, off, none⟩ = some (.int .i64 y) := by have := hgc 0 hmN; simpa using this
  have HIT := Lib.hid (show Nums .i64 w1 (some ⟨g, off, none⟩) m jc (y :: J) from HN1.out)
  have SQ := Lib.hid (show ∀ X, Below w1.heap.size w1 X → (X.cell? ⟨w.heap.size, 0, none⟩ = some (.slice ia m ic) ∧ X.cell? ⟨w.heap.size, 1, none⟩ = some (.int .i64 ax) ∧ X.cell? ⟨w.heap.size, 2, none⟩ = some (.int .i64 ay) ∧ X.cell? ⟨w.heap.size, 3, none⟩ = some (.int .i64 az)) ∧ X.cell? ⟨g, off, none⟩ = some (.int .i64 y) from fun X h => ⟨(HJ.out.call h).s.cells, (h.cell (p := ⟨g, off, none⟩) hg).trans hcy⟩)
  clear hcy hgc HN1
  go_cut [9, 10] (fun s s' wx => ∃ c : Nat, s = .pointer (some ⟨c, 0, none⟩) ∧ s' = .bool true ∧ Box wx c 25 rx ry rz ∧ Below w1.heap.size w1 wx ∧ w1.heap.size ≤ c)
  case first =>
    clear q0 q1 q2 q3 p0 p1
    have HD := Lib.hid (show Below w1.heap.size w1 w1.drew from (Below.refl _ _).drew)
    refine wp_region_held_drew (S := fun X => (X.cell? ⟨w.heap.size, 0, none⟩ = some (.slice ia m ic) ∧ X.cell? ⟨w.heap.size, 1, none⟩ = some (.int .i64 ax) ∧ X.cell? ⟨w.heap.size, 2, none⟩ = some (.int .i64 ay) ∧ X.cell? ⟨w.heap.size, 3, none⟩ = some (.int .i64 az)) ∧ X.cell? ⟨g, off, none⟩ = some (.int .i64 y)) (by kernel_rfl) (by exact SQ.out _ HD.out) (fun hHeld => ?_)
    first | (refine wpAnyH_take (i := 0) (v := ?_) rfl (by kernel_rfl) (by kernel_rfl) (by kernel_rfl) (fun _ _ _ h => h) (Or.inl ⟨by rfl, ?_⟩) (by assumption) ?_; rotate_left; (intro X hSw; (try dsimp only at hSw); go_simp; (try with_reducible rfl)); (try simp only [Act.put, List.setIfInBounds_toArray, List.set_cons_zero, List.set_cons_succ, List.getElem_toArray, List.getElem_cons_zero, List.getElem_cons_succ])) | fail "take 0"
    first | (refine wpAnyH_take (i := 1) (v := ?_) rfl (by kernel_rfl) (by kernel_rfl) (by kernel_rfl) (fun _ _ _ h => h) (Or.inl ⟨by rfl, ?_⟩) (by assumption) ?_; rotate_left; (intro X hSw; (try dsimp only at hSw); go_simp; (try with_reducible rfl)); (try simp only [Act.put, List.setIfInBounds_toArray, List.set_cons_zero, List.set_cons_succ, List.getElem_toArray, List.getElem_cons_zero, List.getElem_cons_succ])) | fail "take 1"
    first | (refine wpAnyH_take (i := 2) (v := ?_) rfl (by kernel_rfl) (by kernel_rfl) (by kernel_rfl) (fun _ _ _ h => h) (Or.inl ⟨by rfl, ?_⟩) (by assumption) ?_; rotate_left; (intro X hSw; (try dsimp only at hSw); go_simp; (try with_reducible rfl)); (try simp only [Act.put, List.setIfInBounds_toArray, List.set_cons_zero, List.set_cons_succ, List.getElem_toArray, List.getElem_cons_zero, List.getElem_cons_succ])) | fail "take 2"
    first | (refine wpAnyH_take (i := 3) (v := ?_) rfl (by kernel_rfl) (by kernel_rfl) (by kernel_rfl) (fun _ _ _ h => h) (Or.inl ⟨by rfl, ?_⟩) (by assumption) ?_; rotate_left; (intro X hSw; (try dsimp only at hSw); go_simp; (try with_reducible rfl)); (try simp only [Act.put, List.setIfInBounds_toArray, List.set_cons_zero, List.set_cons_succ, List.getElem_toArray, List.getElem_cons_zero, List.getElem_cons_succ])) | fail "take 3"
    first | (refine wpAnyH_take (i := 4) (v := ?_) rfl (by kernel_rfl) (by kernel_rfl) (by kernel_rfl) (fun _ _ _ h => h) (Or.inl ⟨by rfl, ?_⟩) (by assumption) ?_; rotate_left; (intro X hSw; (try dsimp only at hSw); go_simp; (try with_reducible rfl)); (try simp only [Act.put, List.setIfInBounds_toArray, List.set_cons_zero, List.set_cons_succ, List.getElem_toArray, List.getElem_cons_zero, List.getElem_cons_succ])) | fail "take 4"
    first | (refine wpAnyH_take (i := 6) (v := ?_) rfl (by kernel_rfl) (by kernel_rfl) (by kernel_rfl) (fun _ _ _ h => h) (Or.inl ⟨by rfl, ?_⟩) (by assumption) ?_; rotate_left; (intro X hSw; (try dsimp only at hSw); go_simp; (try with_reducible rfl)); (try simp only [Act.put, List.setIfInBounds_toArray, List.set_cons_zero, List.set_cons_succ, List.getElem_toArray, List.getElem_cons_zero, List.getElem_cons_succ])) | fail "take 6"
    first | (refine wpAnyH_take (i := 7) (v := ?_) rfl (by kernel_rfl) (by kernel_rfl) (by kernel_rfl) (fun _ _ _ h => h) (Or.inl ⟨by rfl, ?_⟩) (by assumption) ?_; rotate_left; (intro X hSw; (try dsimp only at hSw); go_simp; (try with_reducible rfl)); (try simp only [Act.put, List.setIfInBounds_toArray, List.set_cons_zero, List.set_cons_succ, List.getElem_toArray, List.getElem_cons_zero, List.getElem_cons_succ])) | fail "take 7"
    refine wpAnyH_ready (rs := [5, 12]) (by kernel_rfl) (by simp) ?_
    refine AllReadyH.cons rfl (fun K hK => ?_) (AllReadyH.cons rfl (fun K hK => ?_) AllReadyH.nil)
    · go_simp
      refine (HLI.out _).mono ?_
      rintro e wa ⟨rfl, hb⟩
      have HD := Lib.hid (HD.out.trans (hb.mono HD.out.size))
      clear hb
      (try dsimp only)
      refine hK.out _ _ (by exact SQ.out _ HD.out) (fun hHeld => ?_)
      clear hK K
      (try simp only [Act.put, List.setIfInBounds_toArray, List.set_cons_zero, List.set_cons_succ, List.getElem_toArray, List.getElem_cons_zero, List.getElem_cons_succ])
      refine wpAnyH_ready (rs := [8, 12]) (by kernel_rfl) (by simp) ?_
      refine AllReadyH.cons rfl (fun K hK => ?_) (AllReadyH.cons rfl (fun K hK => ?_) AllReadyH.nil)
      · go_simp
        refine (HCO.out _).mono ?_
        rintro e wb ⟨rfl, hb⟩
        have HD := Lib.hid (HD.out.trans (hb.mono HD.out.size))
        clear hb
        (try dsimp only)
        refine hK.out _ _ (by exact SQ.out _ HD.out) (fun hHeld => ?_)
        clear hK K
        (try simp only [Act.put, List.setIfInBounds_toArray, List.set_cons_zero, List.set_cons_succ, List.getElem_toArray, List.getElem_cons_zero, List.getElem_cons_succ])
        first | (refine wpAnyH_take (i := 9) (v := ?_) rfl (by kernel_rfl) (by kernel_rfl) (by kernel_rfl) (fun _ _ _ h => h) (Or.inl ⟨by rfl, ?_⟩) (by assumption) ?_; rotate_left; (intro X hSw; (try dsimp only at hSw); go_simp; (try with_reducible rfl)); (try simp only [Act.put, List.setIfInBounds_toArray, List.set_cons_zero, List.set_cons_succ, List.getElem_toArray, List.getElem_cons_zero, List.getElem_cons_succ])) | fail "take 9"
        first | (refine wpAnyH_take (i := 10) (v := ?_) rfl (by kernel_rfl) (by kernel_rfl) (by kernel_rfl) (fun _ _ _ h => h) (Or.inl ⟨by rfl, ?_⟩) (by assumption) ?_; rotate_left; (intro X hSw; (try dsimp only at hSw); go_simp; (try with_reducible rfl)); (try simp only [Act.put, List.setIfInBounds_toArray, List.set_cons_zero, List.set_cons_succ, List.getElem_toArray, List.getElem_cons_zero, List.getElem_cons_succ])) | fail "take 10"
        first | (refine wpAnyH_take (i := 11) (v := ?_) rfl (by kernel_rfl) (by kernel_rfl) (by kernel_rfl) (fun _ _ _ h => h) (Or.inl ⟨by rfl, ?_⟩) (by assumption) ?_; rotate_left; (intro X hSw; (try dsimp only at hSw); go_simp; (try with_reducible rfl)); (try simp only [Act.put, List.setIfInBounds_toArray, List.set_cons_zero, List.set_cons_succ, List.getElem_toArray, List.getElem_cons_zero, List.getElem_cons_succ])) | fail "take 11"
        refine wpAnyH_ready (rs := [12]) (by kernel_rfl) (by simp) ?_
        refine AllReadyH.cons rfl (fun K hK => ?_) AllReadyH.nil
        go_simp
        have HC := Lib.hid (show Box (wb.alloc (.cells #[.int .i64 0, .int .i64 0, .int .i64 0] 25)) wb.heap.size 25 0 0 0 from Box.new wb _ _ _ _)
        have HDB := HD
        have HCL := Lib.hid (show w1.heap.size ≤ wb.heap.size from HD.out.size)
        have HD := Lib.hid (show Below w1.heap.size w1 (wb.alloc (.cells #[.int .i64 0, .int .i64 0, .int .i64 0] 25)) from HD.out.alloc HD.out.size _)
        (try dsimp only)
        refine hK.out _ _ (by exact SQ.out _ HD.out) (fun hHeld => ?_)
        clear hK K
        (try simp only [Act.put, List.setIfInBounds_toArray, List.set_cons_zero, List.set_cons_succ, List.getElem_toArray, List.getElem_cons_zero, List.getElem_cons_succ])
        refine wpAnyH_ready (rs := [13]) (by kernel_rfl) (by simp) ?_
        refine AllReadyH.cons rfl (fun K hK => ?_) AllReadyH.nil
        obtain ⟨r0, r1, r2⟩ := HC.out.cells
        have e0 := HC.out.free 0
        have e1 := HC.out.free 1
        have e2 := HC.out.free 2
        have HC := Lib.hid (Box.new wb 25 rx ry rz)
        have HD := Lib.hid (show Below w1.heap.size w1 (wb.alloc (.cells #[.int .i64 rx, .int .i64 ry, .int .i64 rz] 25)) from HDB.out.alloc HDB.out.size _)
        go_simp
        (try dsimp only)
        refine hK.out _ _ (by exact SQ.out _ HD.out) (fun hHeld => ?_)
        clear hK K
        (try simp only [Act.put, List.setIfInBounds_toArray, List.set_cons_zero, List.set_cons_succ, List.getElem_toArray, List.getElem_cons_zero, List.getElem_cons_succ])
        first | (refine wpAnyH_take (i := 14) (v := ?_) rfl (by kernel_rfl) (by kernel_rfl) (by kernel_rfl) (fun _ _ _ h => h) (Or.inl ⟨by rfl, ?_⟩) (by assumption) ?_; rotate_left; (intro X hSw; (try dsimp only at hSw); go_simp; (try with_reducible rfl)); (try simp only [Act.put, List.setIfInBounds_toArray, List.set_cons_zero, List.set_cons_succ, List.getElem_toArray, List.getElem_cons_zero, List.getElem_cons_succ])) | fail "take 14"
        refine wpAnyH_done (by kernel_rfl) ?_ _
        go_wp2_with fail
        go_meet
        case rel => exact ⟨wb.heap.size, rfl, rfl, HC.out, HD.out, HCL.out⟩
      · go_simp
        have HC := Lib.hid (show Box (wa.alloc (.cells #[.int .i64 0, .int .i64 0, .int .i64 0] 25)) wa.heap.size 25 0 0 0 from Box.new wa _ _ _ _)
        have HCL := Lib.hid (show w1.heap.size ≤ wa.heap.size from HD.out.size)
        have HD := Lib.hid (show Below w1.heap.size w1 (wa.alloc (.cells #[.int .i64 0, .int .i64 0, .int .i64 0] 25)) from HD.out.alloc HD.out.size _)
        (try dsimp only)
        refine hK.out _ _ (by exact SQ.out _ HD.out) (fun hHeld => ?_)
        clear hK K
        (try simp only [Act.put, List.setIfInBounds_toArray, List.set_cons_zero, List.set_cons_succ, List.getElem_toArray, List.getElem_cons_zero, List.getElem_cons_succ])
        refine wpAnyH_ready (rs := [8]) (by kernel_rfl) (by simp) ?_
        refine AllReadyH.cons rfl (fun K hK => ?_) AllReadyH.nil
        go_simp
        refine (HCO.out _).mono ?_
        rintro e wb ⟨rfl, hb⟩
        have HD := Lib.hid (HD.out.trans (hb.mono HD.out.size))
        have HC := Lib.hid (Box.call (w := (wa.alloc (.cells #[.int .i64 0, .int .i64 0, .int .i64 0] 25))) HC.out hb)
        clear hb
        (try dsimp only)
        refine hK.out _ _ (by exact SQ.out _ HD.out) (fun hHeld => ?_)
        clear hK K
        (try simp only [Act.put, List.setIfInBounds_toArray, List.set_cons_zero, List.set_cons_succ, List.getElem_toArray, List.getElem_cons_zero, List.getElem_cons_succ])
        first | (refine wpAnyH_take (i := 9) (v := ?_) rfl (by kernel_rfl) (by kernel_rfl) (by kernel_rfl) (fun _ _ _ h => h) (Or.inl ⟨by rfl, ?_⟩) (by assumption) ?_; rotate_left; (intro X hSw; (try dsimp only at hSw); go_simp; (try with_reducible rfl)); (try simp only [Act.put, List.setIfInBounds_toArray, List.set_cons_zero, List.set_cons_succ, List.getElem_toArray, List.getElem_cons_zero, List.getElem_cons_succ])) | fail "take 9"
        first | (refine wpAnyH_take (i := 10) (v := ?_) rfl (by kernel_rfl) (by kernel_rfl) (by kernel_rfl) (fun _ _ _ h => h) (Or.inl ⟨by rfl, ?_⟩) (by assumption) ?_; rotate_left; (intro X hSw; (try dsimp only at hSw); go_simp; (try with_reducible rfl)); (try simp only [Act.put, List.setIfInBounds_toArray, List.set_cons_zero, List.set_cons_succ, List.getElem_toArray, List.getElem_cons_zero, List.getElem_cons_succ])) | fail "take 10"
        first | (refine wpAnyH_take (i := 11) (v := ?_) rfl (by kernel_rfl) (by kernel_rfl) (by kernel_rfl) (fun _ _ _ h => h) (Or.inl ⟨by rfl, ?_⟩) (by assumption) ?_; rotate_left; (intro X hSw; (try dsimp only at hSw); go_simp; (try with_reducible rfl)); (try simp only [Act.put, List.setIfInBounds_toArray, List.set_cons_zero, List.set_cons_succ, List.getElem_toArray, List.getElem_cons_zero, List.getElem_cons_succ])) | fail "take 11"
        refine wpAnyH_ready (rs := [13]) (by kernel_rfl) (by simp) ?_
        refine AllReadyH.cons rfl (fun K hK => ?_) AllReadyH.nil
        obtain ⟨r0, r1, r2⟩ := HC.out.cells
        have e0 := HC.out.free 0
        have e1 := HC.out.free 1
        have e2 := HC.out.free 2
        have HC := Lib.hid (HC.out.set rx ry rz)
        have HD := Lib.hid (((HD.out.setCell (p := ⟨wa.heap.size, 0, none⟩) HCL.out (.int .i64 rx)).setCell (p := ⟨wa.heap.size, 1, none⟩) HCL.out (.int .i64 ry)).setCell (p := ⟨wa.heap.size, 2, none⟩) HCL.out (.int .i64 rz))
        go_simp
        (try dsimp only)
        refine hK.out _ _ (by exact SQ.out _ HD.out) (fun hHeld => ?_)
        clear hK K
        (try simp only [Act.put, List.setIfInBounds_toArray, List.set_cons_zero, List.set_cons_succ, List.getElem_toArray, List.getElem_cons_zero, List.getElem_cons_succ])
        first | (refine wpAnyH_take (i := 14) (v := ?_) rfl (by kernel_rfl) (by kernel_rfl) (by kernel_rfl) (fun _ _ _ h => h) (Or.inl ⟨by rfl, ?_⟩) (by assumption) ?_; rotate_left; (intro X hSw; (try dsimp only at hSw); go_simp; (try with_reducible rfl)); (try simp only [Act.put, List.setIfInBounds_toArray, List.set_cons_zero, List.set_cons_succ, List.getElem_toArray, List.getElem_cons_zero, List.getElem_cons_succ])) | fail "take 14"
        refine wpAnyH_done (by kernel_rfl) ?_ _
        go_wp2_with fail
        go_meet
        case rel => exact ⟨wa.heap.size, rfl, rfl, HC.out, HD.out, HCL.out⟩
    · go_simp
      have HC := Lib.hid (show Box (w1.alloc (.cells #[.int .i64 0, .int .i64 0, .int .i64 0] 25)).drew w1.heap.size 25 0 0 0 from Box.new w1 _ _ _ _)
      have HCL := Lib.hid (show w1.heap.size ≤ w1.heap.size from (Nat.le_refl _))
      have HD := Lib.hid (show Below w1.heap.size w1 (w1.alloc (.cells #[.int .i64 0, .int .i64 0, .int .i64 0] 25)).drew from ((Below.refl w1.heap.size w1).alloc (Nat.le_refl _) _).drew)
      (try dsimp only)
      refine hK.out _ _ (by exact SQ.out _ HD.out) (fun hHeld => ?_)
      clear hK K
      (try simp only [Act.put, List.setIfInBounds_toArray, List.set_cons_zero, List.set_cons_succ, List.getElem_toArray, List.getElem_cons_zero, List.getElem_cons_succ])
      refine wpAnyH_ready (rs := [5]) (by kernel_rfl) (by simp) ?_
      refine AllReadyH.cons rfl (fun K hK => ?_) AllReadyH.nil
      go_simp
      refine (HLI.out _).mono ?_
      rintro e wa ⟨rfl, hb⟩
      have HD := Lib.hid (HD.out.trans (hb.mono HD.out.size))
      have HC := Lib.hid (Box.call (w := (w1.alloc (.cells #[.int .i64 0, .int .i64 0, .int .i64 0] 25)).drew) HC.out hb)
      clear hb
      (try dsimp only)
      refine hK.out _ _ (by exact SQ.out _ HD.out) (fun hHeld => ?_)
      clear hK K
      (try simp only [Act.put, List.setIfInBounds_toArray, List.set_cons_zero, List.set_cons_succ, List.getElem_toArray, List.getElem_cons_zero, List.getElem_cons_succ])
      refine wpAnyH_ready (rs := [8]) (by kernel_rfl) (by simp) ?_
      refine AllReadyH.cons rfl (fun K hK => ?_) AllReadyH.nil
      go_simp
      refine (HCO.out _).mono ?_
      rintro e wb ⟨rfl, hb⟩
      have HD := Lib.hid (HD.out.trans (hb.mono HD.out.size))
      have HC := Lib.hid (Box.call (w := wa) HC.out hb)
      clear hb
      (try dsimp only)
      refine hK.out _ _ (by exact SQ.out _ HD.out) (fun hHeld => ?_)
      clear hK K
      (try simp only [Act.put, List.setIfInBounds_toArray, List.set_cons_zero, List.set_cons_succ, List.getElem_toArray, List.getElem_cons_zero, List.getElem_cons_succ])
      first | (refine wpAnyH_take (i := 9) (v := ?_) rfl (by kernel_rfl) (by kernel_rfl) (by kernel_rfl) (fun _ _ _ h => h) (Or.inl ⟨by rfl, ?_⟩) (by assumption) ?_; rotate_left; (intro X hSw; (try dsimp only at hSw); go_simp; (try with_reducible rfl)); (try simp only [Act.put, List.setIfInBounds_toArray, List.set_cons_zero, List.set_cons_succ, List.getElem_toArray, List.getElem_cons_zero, List.getElem_cons_succ])) | fail "take 9"
      first | (refine wpAnyH_take (i := 10) (v := ?_) rfl (by kernel_rfl) (by kernel_rfl) (by kernel_rfl) (fun _ _ _ h => h) (Or.inl ⟨by rfl, ?_⟩) (by assumption) ?_; rotate_left; (intro X hSw; (try dsimp only at hSw); go_simp; (try with_reducible rfl)); (try simp only [Act.put, List.setIfInBounds_toArray, List.set_cons_zero, List.set_cons_succ, List.getElem_toArray, List.getElem_cons_zero, List.getElem_cons_succ])) | fail "take 10"
      first | (refine wpAnyH_take (i := 11) (v := ?_) rfl (by kernel_rfl) (by kernel_rfl) (by kernel_rfl) (fun _ _ _ h => h) (Or.inl ⟨by rfl, ?_⟩) (by assumption) ?_; rotate_left; (intro X hSw; (try dsimp only at hSw); go_simp; (try with_reducible rfl)); (try simp only [Act.put, List.setIfInBounds_toArray, List.set_cons_zero, List.set_cons_succ, List.getElem_toArray, List.getElem_cons_zero, List.getElem_cons_succ])) | fail "take 11"
      refine wpAnyH_ready (rs := [13]) (by kernel_rfl) (by simp) ?_
      refine AllReadyH.cons rfl (fun K hK => ?_) AllReadyH.nil
      obtain ⟨r0, r1, r2⟩ := HC.out.cells
      have e0 := HC.out.free 0
      have e1 := HC.out.free 1
      have e2 := HC.out.free 2
      have HC := Lib.hid (HC.out.set rx ry rz)
      have HD := Lib.hid (((HD.out.setCell (p := ⟨w1.heap.size, 0, none⟩) HCL.out (.int .i64 rx)).setCell (p := ⟨w1.heap.size, 1, none⟩) HCL.out (.int .i64 ry)).setCell (p := ⟨w1.heap.size, 2, none⟩) HCL.out (.int .i64 rz))
      go_simp
      (try dsimp only)
      refine hK.out _ _ (by exact SQ.out _ HD.out) (fun hHeld => ?_)
      clear hK K
      (try simp only [Act.put, List.setIfInBounds_toArray, List.set_cons_zero, List.set_cons_succ, List.getElem_toArray, List.getElem_cons_zero, List.getElem_cons_succ])
      first | (refine wpAnyH_take (i := 14) (v := ?_) rfl (by kernel_rfl) (by kernel_rfl) (by kernel_rfl) (fun _ _ _ h => h) (Or.inl ⟨by rfl, ?_⟩) (by assumption) ?_; rotate_left; (intro X hSw; (try dsimp only at hSw); go_simp; (try with_reducible rfl)); (try simp only [Act.put, List.setIfInBounds_toArray, List.set_cons_zero, List.set_cons_succ, List.getElem_toArray, List.getElem_cons_zero, List.getElem_cons_succ])) | fail "take 14"
      refine wpAnyH_done (by kernel_rfl) ?_ _
      go_wp2_with fail
      go_meet
      case rel => exact ⟨w1.heap.size, rfl, rfl, HC.out, HD.out, HCL.out⟩
  case rest =>
    obtain ⟨c, rfl, rfl, hBc, hD, hCC⟩ := hcut
    have HCC := Lib.hid (show w.heap.size + 3 ≤ c from Nat.le_trans HL1.out hCC)
    clear hCC
    have HJ := Lib.hid (HJ.out.call hD)
    have HN := Lib.hid (HIT.out.below hD)
    have HBC := Lib.hid hBc
    have HW3 := Lib.hid (show w.heap.size + 3 ≤ w1.heap.size from HL1.out)
    clear hD hBc q0 q1 q2 q3 p0 p1 SQ
    obtain ⟨b0, b1, b2⟩ := HBC.out.cells
    obtain ⟨s0, s1, s2, s3⟩ := HJ.out.r.cells
    have e0 := HJ.out.r.free
    have hjc : m ≤ jc := HN.out.2.1
    have hjm : jc ≤ 9223372036854775807 := by have := HN.out.2.2.1; unfold maxLen at this; omega
    have hjI : (m : Int) ≤ (jc : Int) := by omega
    have hsl1 : ((m : Int) - 1).toNat = m - 1 := by omega
    have hsl2 : ((jc : Int) - 1).toNat = jc - 1 := by omega
    by_cases hj1 : jc = 1
    · have hm1 : m = 1 := by omega
      have hcc : c ≠ w.heap.size + 1 + 1 := by have := HCC.out; omega
      go_wp2_with fail
      refine wp_region_held_drew (S := fun X => X.cell? ⟨c, 0, none⟩ = some (.int .i64 rx) ∧ X.cell? ⟨c, 1, none⟩ = some (.int .i64 ry) ∧ X.cell? ⟨c, 2, none⟩ = some (.int .i64 rz)) (by kernel_rfl) (by exact ⟨b0, b1, b2⟩) (fun hHeld => ?_)
      first | (refine wpAnyH_take (i := 0) (v := ?_) rfl (by kernel_rfl) (by kernel_rfl) (by kernel_rfl) (fun _ _ _ h => h) (Or.inl ⟨by rfl, ?_⟩) (by assumption) ?_; rotate_left; (intro X hSw; (try dsimp only at hSw); go_simp; (try with_reducible rfl)); (try simp only [Act.put, List.setIfInBounds_toArray, List.set_cons_zero, List.set_cons_succ, List.getElem_toArray, List.getElem_cons_zero, List.getElem_cons_succ])) | fail "take 0"
      first | (refine wpAnyH_take (i := 1) (v := ?_) rfl (by kernel_rfl) (by kernel_rfl) (by kernel_rfl) (fun _ _ _ h => h) (Or.inl ⟨by rfl, ?_⟩) (by assumption) ?_; rotate_left; (intro X hSw; (try dsimp only at hSw); go_simp; (try with_reducible rfl)); (try simp only [Act.put, List.setIfInBounds_toArray, List.set_cons_zero, List.set_cons_succ, List.getElem_toArray, List.getElem_cons_zero, List.getElem_cons_succ])) | fail "take 1"
      first | (refine wpAnyH_take (i := 2) (v := ?_) rfl (by kernel_rfl) (by kernel_rfl) (by kernel_rfl) (fun _ _ _ h => h) (Or.inl ⟨by rfl, ?_⟩) (by assumption) ?_; rotate_left; (intro X hSw; (try dsimp only at hSw); go_simp; (try with_reducible rfl)); (try simp only [Act.put, List.setIfInBounds_toArray, List.set_cons_zero, List.set_cons_succ, List.getElem_toArray, List.getElem_cons_zero, List.getElem_cons_succ])) | fail "take 2"
      first | (refine wpAnyH_take (i := 3) (v := ?_) rfl (by kernel_rfl) (by kernel_rfl) (by kernel_rfl) (fun _ _ _ h => h) (Or.inl ⟨by rfl, ?_⟩) (by assumption) ?_; rotate_left; (intro X hSw; (try dsimp only at hSw); go_simp; (try with_reducible rfl)); (try simp only [Act.put, List.setIfInBounds_toArray, List.set_cons_zero, List.set_cons_succ, List.getElem_toArray, List.getElem_cons_zero, List.getElem_cons_succ])) | fail "take 3"
      first | (refine wpAnyH_take (i := 4) (v := ?_) rfl (by kernel_rfl) (by kernel_rfl) (by kernel_rfl) (fun _ _ _ h => h) (Or.inl ⟨by rfl, ?_⟩) (by assumption) ?_; rotate_left; (intro X hSw; (try dsimp only at hSw); go_simp; (try with_reducible rfl)); (try simp only [Act.put, List.setIfInBounds_toArray, List.set_cons_zero, List.set_cons_succ, List.getElem_toArray, List.getElem_cons_zero, List.getElem_cons_succ])) | fail "take 4"
      refine wpAnyH_ready (rs := [5]) (by kernel_rfl) (by simp) ?_
      refine AllReadyH.cons rfl (fun K hK => ?_) AllReadyH.nil
      obtain ⟨hS, hBx, hBl⟩ := HJ.out.store (.slice (some ⟨g, off, none⟩) 0 0) (.int .i64 rx) (.int .i64 ry) (.int .i64 rz)
      have hBC := (((Box.set_other (w := wc.drew) HBC.out (show c ≠ w.heap.size + 1 + 1 by omega) 0 (.slice (some ⟨g, off, none⟩) 0 0)).set_other (show c ≠ w.heap.size + 1 + 1 by omega) 1 (.int .i64 rx)).set_other (show c ≠ w.heap.size + 1 + 1 by omega) 2 (.int .i64 ry)).set_other (show c ≠ w.heap.size + 1 + 1 by omega) 3 (.int .i64 rz)
      go_simp
      (try dsimp only)
      refine hK.out _ _ (by exact hBC.cells) (fun hHeld => ?_)
      clear hK K
      (try simp only [Act.put, List.setIfInBounds_toArray, List.set_cons_zero, List.set_cons_succ, List.getElem_toArray, List.getElem_cons_zero, List.getElem_cons_succ])
      first | (refine wpAnyH_take (i := 6) (v := ?_) rfl (by kernel_rfl) (by kernel_rfl) (by kernel_rfl) (fun _ _ _ h => h) (Or.inl ⟨by rfl, ?_⟩) (by assumption) ?_; rotate_left; (intro X hSw; (try dsimp only at hSw); go_simp; (try with_reducible rfl)); (try simp only [Act.put, List.setIfInBounds_toArray, List.set_cons_zero, List.set_cons_succ, List.getElem_toArray, List.getElem_cons_zero, List.getElem_cons_succ])) | fail "take 6"
      refine wpAnyH_done (by kernel_rfl) ?_ _
      have HBX := Lib.hid (show Box4 ((((wc.setCell ⟨w.heap.size + 1 + 1, 0, none⟩ (.slice (some ⟨g, off, none⟩) 0 0)).setCell ⟨w.heap.size + 1 + 1, 1, none⟩ (.int .i64 rx)).setCell ⟨w.heap.size + 1 + 1, 2, none⟩ (.int .i64 ry)).setCell ⟨w.heap.size + 1 + 1, 3, none⟩ (.int .i64 rz)).drew (w.heap.size + 1 + 1) 27 (.slice (some ⟨g, off, none⟩) 0 0) (.int .i64 rx) (.int .i64 ry) (.int .i64 rz) from hBx)
      have HBL := Lib.hid hBl.drew
      have hNX : Nums .i64 ((((wc.setCell ⟨w.heap.size + 1 + 1, 0, none⟩ (.slice (some ⟨g, off, none⟩) 0 0)).setCell ⟨w.heap.size + 1 + 1, 1, none⟩ (.int .i64 rx)).setCell ⟨w.heap.size + 1 + 1, 2, none⟩ (.int .i64 ry)).setCell ⟨w.heap.size + 1 + 1, 3, none⟩ (.int .i64 rz)).drew (some ⟨g, off, none⟩) 0 0 J := by
        show Nums .i64 ((((wc.setCell ⟨w.heap.size + 1 + 1, 0, none⟩ (.slice (some ⟨g, off, none⟩) 0 0)).setCell ⟨w.heap.size + 1 + 1, 1, none⟩ (.int .i64 rx)).setCell ⟨w.heap.size + 1 + 1, 2, none⟩ (.int .i64 ry)).setCell ⟨w.heap.size + 1 + 1, 3, none⟩ (.int .i64 rz)) (some ⟨g, off, none⟩) 0 0 J
        exact ⟨by have := HIL.out; simp at this; omega, Nat.le_refl _, by simp [maxLen], .inl rfl⟩
      have HNX := Lib.hid hNX
      obtain ⟨X5, hX5⟩ : ∃ X5, X5 = ((((wc.setCell ⟨w.heap.size + 1 + 1, 0, none⟩ (.slice (some ⟨g, off, none⟩) 0 0)).setCell ⟨w.heap.size + 1 + 1, 1, none⟩ (.int .i64 rx)).setCell ⟨w.heap.size + 1 + 1, 2, none⟩ (.int .i64 ry)).setCell ⟨w.heap.size + 1 + 1, 3, none⟩ (.int .i64 rz)).drew := ⟨_, rfl⟩
      rw [← hX5] at HBX HBL HNX ⊢
      clear hX5 hS hBx hBl hBC hNX hHeld s0 s1 s2 s3 e0 b0 b1 b2
      obtain ⟨s0, s1, s2, s3⟩ := HBX.out.cells
      go_wp2_with fail
      refine bodyPost_ret (by simp [results, Tryz.results61, go_sem, *]; try rfl) rfl ?_
      have hs : Agg.ivStep k (y :: J) (false, 0) = ⟨J, ⟨rx, ry, rz⟩⟩ := by rw [HRES.out]; simp [Agg.ivStep, Agg.stepW]
      rw [hs]
      have hJl : J.length = 0 := by have := HIL.out; simp at this; omega
      refine ⟨some ⟨g, off, none⟩, 0, ?_, ?_, (fun b off e => by
        simp only [Option.some.injEq, Addr.mk.injEq] at e
        obtain ⟨rfl, -, -⟩ := e
        have := (HO.out.lt g (by simp [Value.ownBlock])).1
        omega), HBL.out⟩
      rotate_left
      · show Nums .i64 X5 _ J.length _ J
        rw [hJl]
        exact HNX.out
      · show _ = Ending.returned (.tuple #[.agg #[.slice _ J.length _, .int .i64 rx, .int .i64 ry, .int .i64 rz], .bool true])
        rw [hJl]
    · have hcc : c ≠ w.heap.size + 1 + 1 := by have := HCC.out; omega
      go_wp2_with fail
      refine wp_region_held_drew (S := fun X => X.cell? ⟨c, 0, none⟩ = some (.int .i64 rx) ∧ X.cell? ⟨c, 1, none⟩ = some (.int .i64 ry) ∧ X.cell? ⟨c, 2, none⟩ = some (.int .i64 rz)) (by kernel_rfl) (by exact ⟨b0, b1, b2⟩) (fun hHeld => ?_)
      first | (refine wpAnyH_take (i := 0) (v := ?_) rfl (by kernel_rfl) (by kernel_rfl) (by kernel_rfl) (fun _ _ _ h => h) (Or.inl ⟨by rfl, ?_⟩) (by assumption) ?_; rotate_left; (intro X hSw; (try dsimp only at hSw); go_simp; (try with_reducible rfl)); (try simp only [Act.put, List.setIfInBounds_toArray, List.set_cons_zero, List.set_cons_succ, List.getElem_toArray, List.getElem_cons_zero, List.getElem_cons_succ])) | fail "take 0"
      first | (refine wpAnyH_take (i := 1) (v := ?_) rfl (by kernel_rfl) (by kernel_rfl) (by kernel_rfl) (fun _ _ _ h => h) (Or.inl ⟨by rfl, ?_⟩) (by assumption) ?_; rotate_left; (intro X hSw; (try dsimp only at hSw); go_simp; (try with_reducible rfl)); (try simp only [Act.put, List.setIfInBounds_toArray, List.set_cons_zero, List.set_cons_succ, List.getElem_toArray, List.getElem_cons_zero, List.getElem_cons_succ])) | fail "take 1"
      first | (refine wpAnyH_take (i := 2) (v := ?_) rfl (by kernel_rfl) (by kernel_rfl) (by kernel_rfl) (fun _ _ _ h => h) (Or.inl ⟨by rfl, ?_⟩) (by assumption) ?_; rotate_left; (intro X hSw; (try dsimp only at hSw); go_simp; (try with_reducible rfl)); (try simp only [Act.put, List.setIfInBounds_toArray, List.set_cons_zero, List.set_cons_succ, List.getElem_toArray, List.getElem_cons_zero, List.getElem_cons_succ])) | fail "take 2"
      first | (refine wpAnyH_take (i := 3) (v := ?_) rfl (by kernel_rfl) (by kernel_rfl) (by kernel_rfl) (fun _ _ _ h => h) (Or.inl ⟨by rfl, ?_⟩) (by assumption) ?_; rotate_left; (intro X hSw; (try dsimp only at hSw); go_simp; (try with_reducible rfl)); (try simp only [Act.put, List.setIfInBounds_toArray, List.set_cons_zero, List.set_cons_succ, List.getElem_toArray, List.getElem_cons_zero, List.getElem_cons_succ])) | fail "take 3"
      first | (refine wpAnyH_take (i := 4) (v := ?_) rfl (by kernel_rfl) (by kernel_rfl) (by kernel_rfl) (fun _ _ _ h => h) (Or.inl ⟨by rfl, ?_⟩) (by assumption) ?_; rotate_left; (intro X hSw; (try dsimp only at hSw); go_simp; (try with_reducible rfl)); (try simp only [Act.put, List.setIfInBounds_toArray, List.set_cons_zero, List.set_cons_succ, List.getElem_toArray, List.getElem_cons_zero, List.getElem_cons_succ])) | fail "take 4"
      refine wpAnyH_ready (rs := [5]) (by kernel_rfl) (by simp) ?_
      refine AllReadyH.cons rfl (fun K hK => ?_) AllReadyH.nil
      obtain ⟨hS, hBx, hBl⟩ := HJ.out.store (.slice (some ⟨g, off + 1, none⟩) (m - 1) (jc - 1)) (.int .i64 rx) (.int .i64 ry) (.int .i64 rz)
      have hBC := (((Box.set_other (w := wc.drew) HBC.out (show c ≠ w.heap.size + 1 + 1 by omega) 0 (.slice (some ⟨g, off + 1, none⟩) (m - 1) (jc - 1))).set_other (show c ≠ w.heap.size + 1 + 1 by omega) 1 (.int .i64 rx)).set_other (show c ≠ w.heap.size + 1 + 1 by omega) 2 (.int .i64 ry)).set_other (show c ≠ w.heap.size + 1 + 1 by omega) 3 (.int .i64 rz)
      go_simp
      (try dsimp only)
      refine hK.out _ _ (by exact hBC.cells) (fun hHeld => ?_)
      clear hK K
      (try simp only [Act.put, List.setIfInBounds_toArray, List.set_cons_zero, List.set_cons_succ, List.getElem_toArray, List.getElem_cons_zero, List.getElem_cons_succ])
      first | (refine wpAnyH_take (i := 6) (v := ?_) rfl (by kernel_rfl) (by kernel_rfl) (by kernel_rfl) (fun _ _ _ h => h) (Or.inl ⟨by rfl, ?_⟩) (by assumption) ?_; rotate_left; (intro X hSw; (try dsimp only at hSw); go_simp; (try with_reducible rfl)); (try simp only [Act.put, List.setIfInBounds_toArray, List.set_cons_zero, List.set_cons_succ, List.getElem_toArray, List.getElem_cons_zero, List.getElem_cons_succ])) | fail "take 6"
      refine wpAnyH_done (by kernel_rfl) ?_ _
      have HBX := Lib.hid (show Box4 ((((wc.setCell ⟨w.heap.size + 1 + 1, 0, none⟩ (.slice (some ⟨g, off + 1, none⟩) (m - 1) (jc - 1))).setCell ⟨w.heap.size + 1 + 1, 1, none⟩ (.int .i64 rx)).setCell ⟨w.heap.size + 1 + 1, 2, none⟩ (.int .i64 ry)).setCell ⟨w.heap.size + 1 + 1, 3, none⟩ (.int .i64 rz)).drew (w.heap.size + 1 + 1) 27 (.slice (some ⟨g, off + 1, none⟩) (m - 1) (jc - 1)) (.int .i64 rx) (.int .i64 ry) (.int .i64 rz) from hBx)
      have HBL := Lib.hid hBl.drew
      have hNX : Nums .i64 ((((wc.setCell ⟨w.heap.size + 1 + 1, 0, none⟩ (.slice (some ⟨g, off + 1, none⟩) (m - 1) (jc - 1))).setCell ⟨w.heap.size + 1 + 1, 1, none⟩ (.int .i64 rx)).setCell ⟨w.heap.size + 1 + 1, 2, none⟩ (.int .i64 ry)).setCell ⟨w.heap.size + 1 + 1, 3, none⟩ (.int .i64 rz)).drew (some ⟨g, off + 1, none⟩) (m - 1) (jc - 1) J := by
        show Nums .i64 ((((wc.setCell ⟨w.heap.size + 1 + 1, 0, none⟩ (.slice (some ⟨g, off + 1, none⟩) (m - 1) (jc - 1))).setCell ⟨w.heap.size + 1 + 1, 1, none⟩ (.int .i64 rx)).setCell ⟨w.heap.size + 1 + 1, 2, none⟩ (.int .i64 ry)).setCell ⟨w.heap.size + 1 + 1, 3, none⟩ (.int .i64 rz)) (some ⟨g, off + 1, none⟩) (m - 1) (jc - 1) J
        exact nums_sets4 (nums_tail HN.out (by omega)) (by have := (HO.out.lt g (by simp [Value.ownBlock])).1; omega) _ _ _ _
      have HNX := Lib.hid hNX
      obtain ⟨X5, hX5⟩ : ∃ X5, X5 = ((((wc.setCell ⟨w.heap.size + 1 + 1, 0, none⟩ (.slice (some ⟨g, off + 1, none⟩) (m - 1) (jc - 1))).setCell ⟨w.heap.size + 1 + 1, 1, none⟩ (.int .i64 rx)).setCell ⟨w.heap.size + 1 + 1, 2, none⟩ (.int .i64 ry)).setCell ⟨w.heap.size + 1 + 1, 3, none⟩ (.int .i64 rz)).drew := ⟨_, rfl⟩
      rw [← hX5] at HBX HBL HNX ⊢
      clear hX5 hS hBx hBl hBC hNX hHeld s0 s1 s2 s3 e0 b0 b1 b2
      obtain ⟨s0, s1, s2, s3⟩ := HBX.out.cells
      go_wp2_with fail
      refine bodyPost_ret (by simp [results, Tryz.results61, go_sem, *]; try rfl) rfl ?_
      have hs : Agg.ivStep k (y :: J) (false, 0) = ⟨J, ⟨rx, ry, rz⟩⟩ := by rw [HRES.out]; simp [Agg.ivStep, Agg.stepW]
      rw [hs]
      have hJl : J.length = m - 1 := by have := HIL.out; simp at this; omega
      refine ⟨some ⟨g, off + 1, none⟩, jc - 1, ?_, ?_, (fun b off e => by
        simp only [Option.some.injEq, Addr.mk.injEq] at e
        obtain ⟨rfl, -, -⟩ := e
        have := (HO.out.lt g (by simp [Value.ownBlock])).1
        omega), HBL.out⟩
      rotate_left
      · show Nums .i64 X5 _ J.length _ J
        rw [hJl]
        exact HNX.out
      · show _ = Ending.returned (.tuple #[.agg #[.slice _ J.length _, .int .i64 rx, .int .i64 ry, .int .i64 rz], .bool true])
        rw [hJl]
set_option maxRecDepth 8000 in
set_option maxHeartbeats 8000000 in
theorem s_l6Step_not (k : Int) (ia : Option Addr) (m ic : Nat) (ax ay az : Int) (I : List Int) (p : Bool) (x : Int) (w : World) (hI : Nums .i64 w ia m ic I) (hm60 : m ≤ 60) (hcan : Agg.can (p, x) (m : Int) = false) :
    Calls Tryz.prog 61 #[.int .i64 k, .agg #[.slice ia m ic, .int .i64 ax, .int .i64 ay, .int .i64 az], .agg #[.bool p, .int .i64 x]] w (fun e w' => e = .returned (.tuple #[.agg #[.slice ia m ic, .int .i64 ax, .int .i64 ay, .int .i64 az], .bool false]) ∧ Below w.heap.size w w') := by
  obtain ⟨W, hW⟩ : ∃ W, W = ((w.alloc (.cells #[.slice ia m ic, .int .i64 ax, .int .i64 ay, .int .i64 az] 27)).alloc (.cells #[.bool p, .int .i64 x] 29)).alloc (.cells #[.slice none 0 0, .int .i64 0, .int .i64 0, .int .i64 0] 27) := ⟨_, rfl⟩
  have HJ := Lib.hid (show IvJ w (.slice ia m ic) ax ay az p x W from by
    rw [hW]
    exact ⟨((Box4.new w _ _ _ _ _).alloc _).alloc _, (Below.heap_alloc _ _ (w.heap.size + 1) (by simp)).trans (by have := heap_alloc_new (w.alloc (.cells #[.slice ia m ic, .int .i64 ax, .int .i64 ay, .int .i64 az] 27)) (.cells #[.bool p, .int .i64 x] 29); simpa using this), Box4.new1 _ _ _ _ _ (by simp), (((Below.refl _ _).alloc (Nat.le_refl _) _).alloc (by simp) _).alloc (by simp; omega) _⟩)
  have HIL := Lib.hid (show I.length = m from hI.1)
  have HI0 := Lib.hid hI
  clear hI
  obtain ⟨q0, q1, q2, q3⟩ := HJ.out.s.cells
  obtain ⟨p0, p1⟩ := HJ.out.o.cells
  have hIN := fun w => s_in_item x w
  obtain ⟨bi, hbi⟩ : ∃ b, b = Agg.isItem x := ⟨_, rfl⟩
  rw [← hbi] at hIN
  have HIN := Lib.hid hIN
  obtain ⟨i0, hi, hz0, hz1, hz2⟩ := info_parts infoInt
  clear hIN
  have hcc : (p = true → bi = false ∨ ¬ (m : Int) < 60) ∧ (p = false → x ≠ 0 ∨ (m : Int) = 0) := by
    refine ⟨?_, ?_⟩
    · rintro rfl
      cases hb : bi
      · exact .inl rfl
      · right
        intro h
        simp [Agg.can, Agg.opOk, ← hbi, hb] at hcan
        omega
    · rintro rfl
      by_cases h0 : x = 0
      · right
        subst h0
        simp [Agg.can, Agg.opOk] at hcan
        omega
      · exact .inl h0
  clear hcan hbi
  obtain ⟨y0, y1, y2, y3⟩ := (HJ.out.call ((Below.refl _ _).alloc (Nat.le_refl _) (.cells #[] 3))).s.cells
  have hlW : w.heap.size < W.heap.size := by have := HJ.out.lt; omega
  have HCC := Lib.hid hcc
  clear hcc
  cases p
  · go_enter Tryz.func61, Tryz.ntmps61
    go_upto_region 1 with (fail)
    rw [← hW]
    clear hW
    rcases HCC.out.2 rfl with hx | hm
    · go_wp2_with (at_builtin; go_must (refine wpList_append_copy rfl (.tmp 11) (.tmp 13) 23 rfl 3 i0 (.int .i64 0) 1 8 Tryz.underlying23 hi hz0 hz1 hz2 rfl (by decide) W.heap.size rfl (heap_alloc_new W _) ia m ic (I.map (Value.int .i64)) rfl (Nums.src (HI0.out.below (HJ.out.b.alloc HJ.out.b.size _))) (by unfold maxLen; omega) (by omega) ?_; intro v1 w1 hown1 hgrow1; obtain ⟨ja, jc, rfl⟩ := p_slice hown1; have HO := Lib.hid (owns_lower hown1 HJ.out.lt); have HJL := Lib.hid HJ.out.lt; have HN1 := Lib.hid (own_nums1 hown1 (by have := hgrow1.size; simp at this; omega)); have HJ := Lib.hid ((HJ.out.call ((Below.refl _ _).alloc (Nat.le_refl _) (.cells #[] 3))).grown hgrow1 (fun g hg => by have := HJ.out.lt; simp only [Option.some.injEq] at hg; omega)); have HL1 := Lib.hid (show w.heap.size + 3 ≤ w1.heap.size from HJ.out.lt); clear hown1 hgrow1 q0 q1 q2 q3 p0 p1; obtain ⟨q0, q1, q2, q3⟩ := HJ.out.s.cells; obtain ⟨p0, p1⟩ := HJ.out.o.cells; obtain ⟨s0, s1, s2, s3⟩ := HJ.out.r.cells; have e0 := HJ.out.r.free))
      all_goals
        refine bodyPost_ret (by simp [results, Tryz.results61, go_sem, *]; try rfl) rfl ?_
        exact ⟨rfl, sets4 HJ.out.b (by omega) _ _ _ _⟩
    · go_wp2_with (at_builtin; go_must (refine wpList_append_copy rfl (.tmp 11) (.tmp 13) 23 rfl 3 i0 (.int .i64 0) 1 8 Tryz.underlying23 hi hz0 hz1 hz2 rfl (by decide) W.heap.size rfl (heap_alloc_new W _) ia m ic (I.map (Value.int .i64)) rfl (Nums.src (HI0.out.below (HJ.out.b.alloc HJ.out.b.size _))) (by unfold maxLen; omega) (by omega) ?_; intro v1 w1 hown1 hgrow1; obtain ⟨ja, jc, rfl⟩ := p_slice hown1; have HO := Lib.hid (owns_lower hown1 HJ.out.lt); have HJL := Lib.hid HJ.out.lt; have HN1 := Lib.hid (own_nums1 hown1 (by have := hgrow1.size; simp at this; omega)); have HJ := Lib.hid ((HJ.out.call ((Below.refl _ _).alloc (Nat.le_refl _) (.cells #[] 3))).grown hgrow1 (fun g hg => by have := HJ.out.lt; simp only [Option.some.injEq] at hg; omega)); have HL1 := Lib.hid (show w.heap.size + 3 ≤ w1.heap.size from HJ.out.lt); clear hown1 hgrow1 q0 q1 q2 q3 p0 p1; obtain ⟨q0, q1, q2, q3⟩ := HJ.out.s.cells; obtain ⟨p0, p1⟩ := HJ.out.o.cells; obtain ⟨s0, s1, s2, s3⟩ := HJ.out.r.cells; have e0 := HJ.out.r.free))
      all_goals
        refine bodyPost_ret (by simp [results, Tryz.results61, go_sem, *]; try rfl) rfl ?_
        exact ⟨rfl, sets4 HJ.out.b (by omega) _ _ _ _⟩
  · go_enter Tryz.func61, Tryz.ntmps61
    go_upto_region 1 with (fail)
    rw [← hW]
    clear hW
    go_wp2_with (at_builtin; go_must (refine wpList_append_copy rfl (.tmp 11) (.tmp 13) 23 rfl 3 i0 (.int .i64 0) 1 8 Tryz.underlying23 hi hz0 hz1 hz2 rfl (by decide) W.heap.size rfl (heap_alloc_new W _) ia m ic (I.map (Value.int .i64)) rfl (Nums.src (HI0.out.below (HJ.out.b.alloc HJ.out.b.size _))) (by unfold maxLen; omega) (by omega) ?_; intro v1 w1 hown1 hgrow1; obtain ⟨ja, jc, rfl⟩ := p_slice hown1; have HO := Lib.hid (owns_lower hown1 HJ.out.lt); have HJL := Lib.hid HJ.out.lt; have HN1 := Lib.hid (own_nums1 hown1 (by have := hgrow1.size; simp at this; omega)); have HJ := Lib.hid ((HJ.out.call ((Below.refl _ _).alloc (Nat.le_refl _) (.cells #[] 3))).grown hgrow1 (fun g hg => by have := HJ.out.lt; simp only [Option.some.injEq] at hg; omega)); have HL1 := Lib.hid (show w.heap.size + 3 ≤ w1.heap.size from HJ.out.lt); clear hown1 hgrow1 q0 q1 q2 q3 p0 p1; obtain ⟨q0, q1, q2, q3⟩ := HJ.out.s.cells; obtain ⟨p0, p1⟩ := HJ.out.o.cells))
    clear y0 y1 y2 y3 hlW
    refine (HIN.out _).mono ?_
    rintro e w2 ⟨rfl, rfl⟩
    obtain ⟨s0, s1, s2, s3⟩ := HJ.out.r.cells
    have e0 := HJ.out.r.free
    cases bi
    · go_wp2_with fail
      refine bodyPost_ret (by simp [results, Tryz.results61, go_sem, *]; try rfl) rfl ?_
      exact ⟨rfl, sets4 HJ.out.b (by omega) _ _ _ _⟩
    · have h60 : (60 : Int) ≤ (m : Int) := by
        rcases HCC.out.1 (by first | rfl | trivial) with h | h
        · cases h
        · omega
      go_wp2_with fail
      refine bodyPost_ret (by simp [results, Tryz.results61, go_sem, *]; try rfl) rfl ?_
      exact ⟨rfl, sets4 HJ.out.b (by omega) _ _ _ _⟩
set_option maxRecDepth 8000 in
set_option maxHeartbeats 8000000 in
theorem s_inverseStep_any (k : Int) (ia : Option Addr) (m ic : Nat) (ax ay az : Int) (I : List Int) (p : Bool) (x : Int) (w : World) (hI : Nums .i64 w ia m ic I) :
    Calls Tryz.prog 15 #[.int .i64 k, .agg #[.slice ia m ic, .int .i64 ax, .int .i64 ay, .int .i64 az], .agg #[.bool p, .int .i64 x]] w (IvOut (Agg.ivCan k ⟨I, ⟨ax, ay, az⟩⟩ (p, x)) (Agg.aIv k ⟨I, ⟨ax, ay, az⟩⟩ (p, x)) w) := by
  obtain ⟨W, hW⟩ : ∃ W, W = ((w.alloc (.cells #[.slice ia m ic, .int .i64 ax, .int .i64 ay, .int .i64 az] 27)).alloc (.cells #[.bool p, .int .i64 x] 29)).alloc (.cells #[.slice none 0 0, .int .i64 0, .int .i64 0, .int .i64 0] 27) := ⟨_, rfl⟩
  have HJ := Lib.hid (show IvJ w (.slice ia m ic) ax ay az p x W from by
    rw [hW]
    exact ⟨((Box4.new w _ _ _ _ _).alloc _).alloc _, (Below.heap_alloc _ _ (w.heap.size + 1) (by simp)).trans (by have := heap_alloc_new (w.alloc (.cells #[.slice ia m ic, .int .i64 ax, .int .i64 ay, .int .i64 az] 27)) (.cells #[.bool p, .int .i64 x] 29); simpa using this), Box4.new1 _ _ _ _ _ (by simp), (((Below.refl _ _).alloc (Nat.le_refl _) _).alloc (by simp) _).alloc (by simp; omega) _⟩)
  have HIL := Lib.hid (show I.length = m from hI.1)
  have HI0 := Lib.hid hI
  have hV := fun w hI => s_inverseValid_any k ia m ic ax ay az I w hI
  have hno : Agg.ivCan k ⟨I, ⟨ax, ay, az⟩⟩ (p, x) = false → Agg.aIv k ⟨I, ⟨ax, ay, az⟩⟩ (p, x) = Agg.zeroIv := fun h => by simp [Agg.aIv, h]
  have hyes : Agg.ivCan k ⟨I, ⟨ax, ay, az⟩⟩ (p, x) = true → Agg.aIv k ⟨I, ⟨ax, ay, az⟩⟩ (p, x) = Agg.ivStep k I (p, x) := fun h => by simp [Agg.aIv, h]
  clear hI
  obtain ⟨q0, q1, q2, q3⟩ := HJ.out.s.cells
  obtain ⟨p0, p1⟩ := HJ.out.o.cells
  cases hv : Agg.ivOk k ⟨I, ⟨ax, ay, az⟩⟩
  · have hc : Agg.ivCan k ⟨I, ⟨ax, ay, az⟩⟩ (p, x) = false := by simp [Agg.ivCan, hv]
    rw [hno hc, hc]
    rw [hv] at hV
    have HV := Lib.hid hV
    clear hV hno hyes hv hc
    go_enter Tryz.func15, Tryz.ntmps15
    go_upto_region 1 with (fail)
    rw [← hW]
    clear hW
    go_wp2_with fail
    refine (HV.out _ (HI0.out.below HJ.out.b)).mono ?_
    rintro e w1 ⟨rfl, hb1⟩
    have HJ := Lib.hid (HJ.out.call hb1)
    clear hb1 q0 q1 q2 q3 p0 p1
    obtain ⟨s0, s1, s2, s3⟩ := HJ.out.r.cells
    have e0 := HJ.out.r.free
    go_wp2_with fail
    refine bodyPost_ret (by simp [results, Tryz.results15, go_sem, *]; try rfl) rfl ?_
    exact IvOut.zero (sets4 HJ.out.b (by omega) _ _ _ _)
  · rw [hv] at hV
    have HV := Lib.hid hV
    obtain ⟨-, -, hit, -, -⟩ := Agg.ivOk_parts hv
    have hm60 : m ≤ 60 := by have := Agg.items_len hit; have := HIL.out; simp only at *; omega
    cases hc : Agg.ivCan k ⟨I, ⟨ax, ay, az⟩⟩ (p, x)
    · have hcan : Agg.can (p, x) (m : Int) = false := by
        simp only [Agg.ivCan, hv, Bool.true_and, HIL.out] at hc
        exact hc
      have hS := fun w hI => s_l6Step_not k ia m ic ax ay az I p x w hI hm60 hcan
      rw [hno hc]
      have HS := Lib.hid hS
      clear hV hno hyes hv hc hS hcan hit
      go_enter Tryz.func15, Tryz.ntmps15
      go_upto_region 1 with (fail)
      rw [← hW]
      clear hW
      go_wp2_with fail
      refine (HV.out _ (HI0.out.below HJ.out.b)).mono ?_
      rintro e w1 ⟨rfl, hb1⟩
      have HJ := Lib.hid (HJ.out.call hb1)
      clear hb1 q0 q1 q2 q3 p0 p1
      obtain ⟨q0, q1, q2, q3⟩ := HJ.out.s.cells
      obtain ⟨p0, p1⟩ := HJ.out.o.cells
      go_wp2_with fail
      refine (HS.out _ (HI0.out.below HJ.out.b)).mono ?_
      rintro e w2 ⟨rfl, hb2⟩
      have hb3 : Below w2.heap.size w2 (w2.alloc (.cells #[.slice ia m ic, .int .i64 ax, .int .i64 ay, .int .i64 az] 27)) := (Below.refl _ _).alloc (Nat.le_refl _) _
      have HJ := Lib.hid ((HJ.out.call hb2).call hb3)
      clear hb2 hb3 q0 q1 q2 q3 p0 p1
      obtain ⟨s0, s1, s2, s3⟩ := HJ.out.r.cells
      have e0 := HJ.out.r.free
      go_wp2_with fail
      refine bodyPost_ret (by simp [results, Tryz.results15, go_sem, *]; try rfl) rfl ?_
      exact IvOut.zero (sets4 HJ.out.b (by omega) _ _ _ _)
    · rw [hyes hc]
      obtain ⟨⟨J, ⟨rx, ry, rz⟩⟩, hS'⟩ : ∃ S', S' = Agg.ivStep k I (p, x) := ⟨_, rfl⟩
      have hS : ∀ w, Nums .i64 w ia m ic I → Calls Tryz.prog 61 #[.int .i64 k, .agg #[.slice ia m ic, .int .i64 ax, .int .i64 ay, .int .i64 az], .agg #[.bool p, .int .i64 x]] w (L6Out (Agg.ivStep k I (p, x)) w) := fun w hI => by
        cases p
        · exact s_l6Step_pop k ia m ic ax ay az I x w hI hc
        · exact s_l6Step_push k ia m ic ax ay az I x w hI hc
      have hJl : J.length ≤ 61 := by
        have h1 : J = (Agg.ivStep k I (p, x)).items := by rw [← hS']
        have h2 := HIL.out
        cases p
        · simp [Agg.ivStep, Agg.stepW] at h1; rw [h1]; simp; omega
        · simp [Agg.ivStep, Agg.stepW] at h1; rw [h1]; simp; omega
      rw [← hS'] at hS ⊢
      have HS := Lib.hid hS
      obtain ⟨i0, hi, hz0, hz1, hz2⟩ := info_parts infoInt
      clear hV hno hyes hv hc hS hS' hit
      go_enter Tryz.func15, Tryz.ntmps15
      go_upto_region 1 with (fail)
      rw [← hW]
      clear hW
      go_wp2_with fail
      refine (HV.out _ (HI0.out.below HJ.out.b)).mono ?_
      rintro e w1 ⟨rfl, hb1⟩
      have HJ := Lib.hid (HJ.out.call hb1)
      clear hb1 q0 q1 q2 q3 p0 p1
      obtain ⟨q0, q1, q2, q3⟩ := HJ.out.s.cells
      obtain ⟨p0, p1⟩ := HJ.out.o.cells
      go_wp2_with fail
      refine (HS.out _ (HI0.out.below HJ.out.b)).mono ?_
      rintro e w2 ⟨oa, oc, rfl, hON, -, hb2⟩
      simp only at hON
      have hb3 : Below w2.heap.size w2 (w2.alloc (.cells #[.slice oa J.length oc, .int .i64 rx, .int .i64 ry, .int .i64 rz] 27)) := (Below.refl _ _).alloc (Nat.le_refl _) _
      obtain ⟨W3, hW3⟩ : ∃ W3, W3 = w2.alloc (.cells #[.slice oa J.length oc, .int .i64 rx, .int .i64 ry, .int .i64 rz] 27) := ⟨_, rfl⟩
      have HO3 := Lib.hid (show Box4 W3 w2.heap.size 27 (.slice oa J.length oc) (.int .i64 rx) (.int .i64 ry) (.int .i64 rz) from by rw [hW3]; exact Box4.new w2 _ _ _ _ _)
      rw [← hW3] at hb3
      have HL2 := Lib.hid (show w.heap.size + 3 ≤ w2.heap.size from (HJ.out.call hb2).lt)
      have HJ := Lib.hid ((HJ.out.call hb2).call hb3)
      have HON := Lib.hid (hON.below hb3)
      clear hb2 hb3 hON q0 q1 q2 q3 p0 p1
      go_upto_region 6 with (fail)
      rw [← hW3]
      clear hW3
      obtain ⟨y0, y1, y2, y3⟩ := (HO3.out.call ((Below.refl W3.heap.size W3).alloc (Nat.le_refl _) (.cells #[] 3))).cells
      have hlW : w2.heap.size < W3.heap.size := HO3.out.lt
      have hlw2 : w.heap.size + 3 ≤ w2.heap.size := HL2.out
      go_upto_region 7 with (at_builtin; go_must (refine wpList_append_copy rfl (.tmp 25) (.tmp 27) 23 rfl 3 i0 (.int .i64 0) 1 8 Tryz.underlying23 hi hz0 hz1 hz2 rfl (by decide) W3.heap.size rfl (heap_alloc_new W3 _) oa J.length oc (J.map (Value.int .i64)) rfl (Nums.src (HON.out.below ((Below.refl W3.heap.size W3).alloc (Nat.le_refl _) _))) (by unfold maxLen; omega) (by omega) ?_; intro v4 w4 hown4 hgrow4; obtain ⟨ja, jc, rfl⟩ := p_slice hown4; have HOB := Lib.hid (show ∀ g, (Value.slice ja J.length jc).ownBlock = some g → W3.heap.size ≤ g from fun g hg => (hown4.lt g hg).1); have HO := Lib.hid (owns_lower hown4 HJ.out.lt); have HB4 := Lib.hid ((HO3.out.call ((Below.refl W3.heap.size W3).alloc (Nat.le_refl _) (.cells #[] 3))).grown hgrow4 (fun e => by have := HO3.out.lt; simp only [Option.some.injEq] at e; omega)); have HJ := Lib.hid ((HJ.out.call ((Below.refl _ _).alloc (Nat.le_refl _) (.cells #[] 3))).grown hgrow4 (fun g hg => by have := HJ.out.lt; simp only [Option.some.injEq] at hg; omega)); clear hown4 hgrow4; obtain ⟨q0, q1, q2, q3⟩ := HB4.out.cells; have f0 := HB4.out.free 0))
      clear y0 y1 y2 y3
      have HO8 := Lib.hid (own_set_ne6 HO.out (d := w2.heap.size) (o := 0) (u := .slice ja J.length jc) (fun g hg e => by have := HOB.out g hg; omega))
      have HB8 := Lib.hid (HB4.out.set0 (.slice ja J.length jc))
      have HJ8 := Lib.hid (show Below w.heap.size w (w4.setCell ⟨w2.heap.size, 0, none⟩ (.slice ja J.length jc)) ∧ Box4 (w4.setCell ⟨w2.heap.size, 0, none⟩ (.slice ja J.length jc)) (w.heap.size + 1 + 1) 27 (.slice none 0 0) (.int .i64 0) (.int .i64 0) (.int .i64 0) from ⟨HJ.out.b.setCell (show w.heap.size ≤ w2.heap.size by omega) _, HJ.out.r.other (by omega) _ _⟩)
      obtain ⟨X8, hX8⟩ : ∃ X8, X8 = w4.setCell ⟨w2.heap.size, 0, none⟩ (.slice ja J.length jc) := ⟨_, rfl⟩
      rw [← hX8] at HO8 HB8 HJ8 ⊢
      clear hX8 q0 q1 q2 q3 f0
      obtain ⟨q0, q1, q2, q3⟩ := HB8.out.cells
      obtain ⟨s0, s1, s2, s3⟩ := HJ8.out.2.cells
      have e0 := HJ8.out.2.free
      go_wp2_with fail
      refine bodyPost_ret (by simp [results, Tryz.results15, go_sem, *]; try rfl) rfl ?_
      exact iv_out (s := ⟨J, ⟨rx, ry, rz⟩⟩) HJ8.out.1 HO8.out _ _ _ _
end Go.Proofs.YtmlkdbmhekiniaaGreat

/-
  A run of a window with an inverse in the model.
-/
namespace Go.Proofs.YtmlkdbmhekiniaaGreat
set_option linter.unusedSimpArgs false
set_option linter.unusedVariables false
open Go.RowKit
/-- A row of numbers that is read, whose block lies between two numbers. -/
def NumsIn (w : World) (lo hi : Nat) (a : Option Addr) (n c : Nat) (l : List Int) : Prop := Nums .i64 w a n c l ∧ ∀ b off, a = some ⟨b, off, none⟩ → n = 0 ∨ (lo ≤ b ∧ b < hi)
theorem NumsIn.grown {w w' : World} {lo hi : Nat} {a : Option Addr} {n c : Nat} {l : List Int} {row : Option Nat} (h : NumsIn w lo hi a n c l) (hg : w.grownBy w' row) (hr : ∀ g, row = some g → g < lo ∨ hi ≤ g) : NumsIn w' lo hi a n c l := by
  obtain ⟨⟨h1, h2, h3, h4⟩, h5⟩ := h
  refine ⟨⟨h1, h2, h3, ?_⟩, h5⟩
  rcases h4 with h4 | ⟨b, off, rfl, hb, hc⟩
  · exact .inl h4
  · rcases h5 b off rfl with h0 | ⟨hlo, hhi⟩
    · exact .inl h0
    · exact .inr ⟨b, off, rfl, Nat.lt_of_lt_of_le hb hg.size, fun i hi => (World.cell?_of_block (hg.block b hb (fun e => by have := hr b e.symm; omega))).trans (hc i hi)⟩
theorem NumsIn.below {w w' : World} {lo hi : Nat} {a : Option Addr} {n c : Nat} {l : List Int} (h : NumsIn w lo hi a n c l) (hb : Below w.heap.size w w') : NumsIn w' lo hi a n c l :=
  h.grown (row := none) (Below.grownNone hb _) (fun g e => by cases e)
theorem NumsIn.sets {w : World} {lo hi d : Nat} {a : Option Addr} {n c : Nat} {l : List Int} (h : NumsIn w lo hi a n c l) (hd : d < lo ∨ hi ≤ d) (u0 u1 u2 u3 : Value) : NumsIn ((((w.setCell ⟨d, 0, none⟩ u0).setCell ⟨d, 1, none⟩ u1).setCell ⟨d, 2, none⟩ u2).setCell ⟨d, 3, none⟩ u3) lo hi a n c l := by
  have hr : ∀ g, some d = some g → g < lo ∨ hi ≤ g := fun g e => by have := Option.some.inj e; omega
  exact (((h.grown (set_grown _ _ _ _) hr).grown (set_grown _ _ _ _) hr).grown (set_grown _ _ _ _) hr).grown (set_grown _ _ _ _) hr
/-- The variables and rows of a run under way. -/
structure IvSt (w : World) (sv : Nat) (iv : Value) (ax ay az : Int) (ov : Value) (j : Nat) (ys : List Value) (wr : World) : Prop where
  s : Box4 wr sv 27 iv (.int .i64 ax) (.int .i64 ay) (.int .i64 az)
  r : Box4 wr w.heap.size 27 (.slice none 0 0) (.int .i64 0) (.int .i64 0) (.int .i64 0)
  o : wr.ownsRow (w.heap.size + 1) 3 1 ov j ys
  b : Below w.heap.size w wr
section
variable {w wr w2 : World} {sv d : Nat} {iv : Value} {ax ay az : Int} {ov : Value} {j : Nat} {ys : List Value}
theorem IvSt.call (h : IvSt w sv iv ax ay az ov j ys wr) (hb : Below wr.heap.size wr w2) : IvSt w sv iv ax ay az ov j ys w2 :=
  ⟨h.s.call hb, h.r.call hb, h.o.kept (Below.grownNone hb none) (by cases hv : ov.ownBlock <;> simp), h.b.trans (hb.mono h.b.size)⟩
theorem IvSt.callD (h : IvSt w sv iv ax ay az ov j ys wr) (hb : Below wr.drew.heap.size wr.drew w2) : IvSt w sv iv ax ay az ov j ys w2 :=
  IvSt.call (wr := wr.drew) ⟨h.s, h.r, h.o, h.b.drew⟩ hb
theorem own_sets4 {W : World} {base e size n : Nat} {v : Value} {xs : List Value} (h : W.ownsRow base e size v n xs) (hd : ∀ g, v.ownBlock = some g → g ≠ d) (u0 u1 u2 u3 : Value) :
    ((((W.setCell ⟨d, 0, none⟩ u0).setCell ⟨d, 1, none⟩ u1).setCell ⟨d, 2, none⟩ u2).setCell ⟨d, 3, none⟩ u3).ownsRow base e size v n xs := own_set_ne6 (own_set_ne6 (own_set_ne6 (own_set_ne6 h hd) hd) hd) hd
theorem IvSt.far (h : IvSt w sv iv ax ay az ov j ys wr) (h1 : sv ≠ d) (h2 : w.heap.size < d) (h3 : ∀ g, ov.ownBlock = some g → g ≠ d) (u0 u1 u2 u3 : Value) :
    IvSt w sv iv ax ay az ov j ys ((((wr.setCell ⟨d, 0, none⟩ u0).setCell ⟨d, 1, none⟩ u1).setCell ⟨d, 2, none⟩ u2).setCell ⟨d, 3, none⟩ u3) :=
  ⟨(((h.s.other h1 _ _).other h1 _ _).other h1 _ _).other h1 _ _, (((h.r.other (by omega) _ _).other (by omega) _ _).other (by omega) _ _).other (by omega) _ _, own_sets4 h.o h3 _ _ _ _, sets4 h.b (by omega) _ _ _ _⟩
theorem IvSt.put (h : IvSt w sv iv ax ay az ov j ys wr) (h2 : w.heap.size < sv) (h3 : ∀ g, ov.ownBlock = some g → g ≠ sv) (u0 : Value) (u1 u2 u3 : Int) :
    IvSt w sv u0 u1 u2 u3 ov j ys ((((wr.setCell ⟨sv, 0, none⟩ u0).setCell ⟨sv, 1, none⟩ (.int .i64 u1)).setCell ⟨sv, 2, none⟩ (.int .i64 u2)).setCell ⟨sv, 3, none⟩ (.int .i64 u3)) :=
  ⟨(((h.s.set0 _).set1 _).set2 _).set3 _, (((h.r.other (by omega) _ _).other (by omega) _ _).other (by omega) _ _).other (by omega) _ _, own_sets4 h.o h3 _ _ _ _, sets4 h.b (by omega) _ _ _ _⟩
theorem IvSt.appended {v' : Value} {j' : Nat} {ys' : List Value} {o : Obj} (h : IvSt w sv iv ax ay az ov j ys wr) (h3 : ∀ g, ov.ownBlock = some g → g ≠ sv)
    (hown : w2.ownsRow (w.heap.size + 1) 3 1 v' j' ys') (hg : (wr.alloc o).grownBy w2 ov.ownBlock) : IvSt w sv iv ax ay az v' j' ys' w2 :=
  ⟨(h.s.alloc o).grown hg (fun e => h3 _ e rfl), (h.r.alloc o).grown hg (fun e => by have := (h.o.lt _ e).1; omega), hown,
   (h.b.alloc h.b.size o).grown hg (by have := h.b.size; simp; omega) (fun g e => by have := (h.o.lt _ e).1; omega)⟩
theorem keep_alloc4 {W : World} {c o : Nat} {x : Obj} (h : c < W.heap.size) : (W.alloc x).cell? ⟨c, o, none⟩ = W.cell? ⟨c, o, none⟩ :=
  World.cell?_of_block (Below.heap_alloc W x c h)
end
theorem s_l6Step_run {k : Int} {l : List (Bool × Int)} (hr : Agg.removes k = true) (h : Agg.opsOk l = true) {j : Nat} (hj : j < l.length) (w : World) (ia : Option Addr) (ic : Nat) (hI : Nums .i64 w ia (Agg.ivAt k l j).items.length ic (Agg.ivAt k l j).items) :
    Calls Tryz.prog 61 #[.int .i64 k, .agg #[.slice ia (Agg.ivAt k l j).items.length ic, .int .i64 (Agg.ivAt k l j).agg.x, .int .i64 (Agg.ivAt k l j).agg.y, .int .i64 (Agg.ivAt k l j).agg.z], .agg #[.bool (Agg.opAt l j).1, .int .i64 (Agg.opAt l j).2]] w (L6Out (Agg.ivAt k l (j + 1)) w) := by
  have h1 := (Agg.iv_step hr h hj).1
  have e : Agg.ivAt k l (j + 1) = Agg.ivStep k (Agg.ivAt k l j).items (Agg.opAt l j) := rfl
  rw [e]
  obtain ⟨⟨p, x⟩, hp⟩ : ∃ o, o = Agg.opAt l j := ⟨_, rfl⟩
  rw [← hp] at h1 ⊢
  cases p
  · exact s_l6Step_pop k ia _ ic _ _ _ _ x w hI h1
  · exact s_l6Step_push k ia _ ic _ _ _ _ x w hI h1
set_option maxRecDepth 8000 in
set_option maxHeartbeats 4000000 in
theorem s_inverseRun_any (k : Int) (a : Option Addr) (n cap : Nat) (l : List (Bool × Int)) (w : World) (h : Ops w a n cap l) :
    Calls Tryz.prog 43 #[.int .i64 k, .slice a n cap] w (IvRunOut (Agg.ivRunOk k l) (Agg.ivRunS k l) (Agg.ivRunN k l) w) := by
  obtain ⟨i0, hi0, hz0, hz1, hz2⟩ := info_parts infoInt
  have hll : l.length = n := h.1
  have hnc : n ≤ cap := h.2.1
  have hcm : cap ≤ 9223372036854775807 := by have := h.2.2.1; unfold maxLen at this; omega
  obtain ⟨W, hW⟩ : ∃ W, W = (w.alloc (.cells #[.slice none 0 0, .int .i64 0, .int .i64 0, .int .i64 0] 27)).alloc (.cells #[] 3) := ⟨_, rfl⟩
  have HR := Lib.hid (show Box4 W w.heap.size 27 (.slice none 0 0) (.int .i64 0) (.int .i64 0) (.int .i64 0) from by rw [hW]; exact (Box4.new w _ _ _ _ _).alloc _)
  have HB := Lib.hid (show Below w.heap.size w W from by rw [hW]; exact ((Below.refl _ _).alloc (Nat.le_refl _) _).alloc (by simp) _)
  have HO := Lib.hid (show W.ownsRow (w.heap.size + 1) 3 1 (.slice (some ⟨w.heap.size + 1, 0, none⟩) 0 0) 0 [] from by
    rw [hW]; simpa using World.ownsRow_made (base := w.heap.size + 1) (e := 3) (size := 1) (w.alloc (.cells #[.slice none 0 0, .int .i64 0, .int .i64 0, .int .i64 0] 27)) #[] 0 (by simp) (by simp [maxLen]) (by simp))
  have HOPS := Lib.hid (h.below HB.out)
  have H0 := Lib.hid h
  have HLL := Lib.hid hll
  have hH := fun w => s_l6Has_any k w
  obtain ⟨kb, hkb⟩ : ∃ kb, kb = Agg.removes k := ⟨_, rfl⟩
  rw [← hkb] at hH
  have HH := Lib.hid hH
  have HKB := Lib.hid hkb
  have hL := fun w h => s_l2Ops_any a n cap l w h
  obtain ⟨lb, hlb⟩ : ∃ lb, lb = Agg.opsOk l := ⟨_, rfl⟩
  rw [← hlb] at hL
  have HL := Lib.hid hL
  have HLB := Lib.hid hlb
  obtain ⟨RB, hRB⟩ : ∃ RB, RB = Agg.ivRunOk k l := ⟨_, rfl⟩
  obtain ⟨RS, hRS⟩ : ∃ RS, RS = Agg.ivRunS k l := ⟨_, rfl⟩
  obtain ⟨RN, hRN⟩ : ∃ RN, RN = Agg.ivRunN k l := ⟨_, rfl⟩
  rw [← hRB, ← hRS, ← hRN]
  have HRB := Lib.hid hRB
  have HRS := Lib.hid hRS
  have HRN := Lib.hid hRN
  have hws : w.heap.size + 1 < W.heap.size := (HO.out.lt (w.heap.size + 1) rfl).2
  clear h hH hkb hL hlb hRB hRS hRN hll
  go_enter Tryz.func43, Tryz.ntmps43
  go_wp2_with fail
  rw [← hW]
  clear hW
  refine (HH.out _).mono ?_
  rintro e w1 ⟨rfl, rfl⟩
  cases kb
  · have hb0 : RB = false := by rw [HRB.out, Agg.ivRunOk, ← HKB.out]; rfl
    obtain rfl : RS = Agg.zeroIv := by rw [HRS.out, Agg.ivRunS, ← HRB.out, hb0]; rfl
    obtain rfl : RN = [] := by rw [HRN.out, Agg.ivRunN, ← HRB.out, hb0]; rfl
    subst hb0
    obtain ⟨s0, s1, s2, s3⟩ := HR.out.cells
    have e0 := HR.out.free
    go_wp2_with fail
    refine bodyPost_ret (by simp [results, Tryz.results43, go_sem, *]; try rfl) rfl ?_
    have hbb := sets4 HB.out (Nat.le_refl _) (.slice none 0 0) (.int .i64 0) (.int .i64 0) (.int .i64 0)
    refine ⟨_, _, 0, rfl, ⟨_, rfl, ⟨World.ownsRow_nil _ _ _ _, hbb.size, Nat.le_refl _, fun g hg => by simp [Value.ownBlock] at hg⟩⟩, OwnR.of6 (lo := w.heap.size + 1) ?_ (by omega) hbb.size, hbb⟩
    exact own_setlow (own_setlow (own_setlow (own_setlow HO.out (by omega)) (by omega)) (by omega)) (by omega)
  · go_wp2_with fail
    refine (HL.out _ HOPS.out).mono ?_
    rintro e w2 ⟨rfl, hb2⟩
    have HR2 := Lib.hid (HR.out.call hb2)
    have HB2 := Lib.hid (HB.out.trans (hb2.mono HB.out.size))
    have HO2 := Lib.hid (HO.out.kept (Below.grownNone hb2 none) (by simp [Value.ownBlock]))
    have hsz2 : w.heap.size + 1 < w2.heap.size := by have := hb2.size; omega
    have HOPS2 := Lib.hid (HOPS.out.below hb2)
    clear hb2 HR HB HO HOPS
    cases lb
    · have hb0 : RB = false := by rw [HRB.out, Agg.ivRunOk, ← HKB.out, ← HLB.out]; rfl
      obtain rfl : RS = Agg.zeroIv := by rw [HRS.out, Agg.ivRunS, ← HRB.out, hb0]; rfl
      obtain rfl : RN = [] := by rw [HRN.out, Agg.ivRunN, ← HRB.out, hb0]; rfl
      subst hb0
      obtain ⟨s0, s1, s2, s3⟩ := HR2.out.cells
      have e0 := HR2.out.free
      go_wp2_with fail
      refine bodyPost_ret (by simp [results, Tryz.results43, go_sem, *]; try rfl) rfl ?_
      have hbb := sets4 HB2.out (Nat.le_refl _) (.slice none 0 0) (.int .i64 0) (.int .i64 0) (.int .i64 0)
      refine ⟨_, _, 0, rfl, ⟨_, rfl, ⟨World.ownsRow_nil _ _ _ _, hbb.size, Nat.le_refl _, fun g hg => by simp [Value.ownBlock] at hg⟩⟩, OwnR.of6 (lo := w.heap.size + 1) ?_ (by omega) hbb.size, hbb⟩
      exact own_setlow (own_setlow (own_setlow (own_setlow HO2.out (by omega)) (by omega)) (by omega)) (by omega)
    · have hb0 : RB = true := by rw [HRB.out, Agg.ivRunOk, ← HKB.out, ← HLB.out]; rfl
      obtain rfl : RS = Agg.ivAt k l l.length := by rw [HRS.out, Agg.ivRunS, ← HRB.out, hb0]; rfl
      obtain rfl : RN = Agg.qs k l := by rw [HRN.out, Agg.ivRunN, ← HRB.out, hb0]; rfl
      subst hb0
      have hrem : Agg.removes k = true := HKB.out.symm
      have hops : Agg.opsOk l = true := HLB.out.symm
      have hk := Agg.removes_kind hrem
      have hn2 : n ≤ 200 := by have := (Agg.opsOk_parts hops).1; have := HLL.out; omega
      have HREM := Lib.hid (And.intro hrem (And.intro hops hk))
      have HUN := Lib.hid (fun w => s_unit_any k hk w)
      obtain ⟨⟨fx, fy, fz⟩, hfi⟩ : ∃ V, V = Agg.unit k := ⟨_, rfl⟩
      rw [← hfi] at HUN
      have HF0 := Lib.hid (show (⟨[], ⟨fx, fy, fz⟩⟩ : Agg.Iv) = Agg.ivAt k l 0 from by simp only [Agg.ivAt, Agg.winAt, Agg.fold_nil, ← hfi])
      simp only at HUN
      clear hrem hops hk hfi
      go_wp2_with fail
      refine (HUN.out _).mono ?_
      rintro e w3 ⟨rfl, hb3⟩
      obtain ⟨W3, hW3⟩ : ∃ W3, W3 = w3.alloc (.cells #[.slice none 0 0, .int .i64 fx, .int .i64 fy, .int .i64 fz] 27) := ⟨_, rfl⟩
      have hbn := (Below.refl w3.heap.size w3).alloc (Nat.le_refl _) (.cells #[.slice none 0 0, .int .i64 fx, .int .i64 fy, .int .i64 fz] 27)
      rw [← hW3] at hbn
      have hb23 := hb3.trans (hbn.mono hb3.size)
      have HR3 := Lib.hid (HR2.out.call hb23)
      have HB3 := Lib.hid (HB2.out.trans (hb23.mono HB2.out.size))
      have HO3 := Lib.hid (HO2.out.kept (Below.grownNone hb23 none) (by simp [Value.ownBlock]))
      have HX3 := Lib.hid (show Box4 W3 w3.heap.size 27 (.slice none 0 0) (.int .i64 fx) (.int .i64 fy) (.int .i64 fz) from by rw [hW3]; exact Box4.new w3 _ _ _ _ _)
      have hsz1 : w.heap.size + 1 < w3.heap.size := by have := hb3.size; omega
      clear hb3 hbn hb23 HR2 HB2 HO2 HUN
      go_upto_region 5 with (fail)
      rw [← hW3]
      clear hW3
      obtain ⟨sv, hsv⟩ : ∃ sv, sv = w3.heap.size := ⟨_, rfl⟩
      rw [← hsv] at HX3 hsz1 ⊢
      clear hsv
      go_wp2_with fail
      go_loopw [7, 9] (fun ov i wr => ∃ (j : Nat) (lo hi : Nat) (ja : Option Addr) (jc : Nat), j ≤ n ∧ i = .int .i64 j ∧ Hid (wr.ownsRow (w.heap.size + 1) 3 1 ov j (((Agg.qs k l).take j).map (Value.int .i64))) ∧ Hid (Box4 wr sv 27 (.slice ja (Agg.ivAt k l j).items.length jc) (.int .i64 (Agg.ivAt k l j).agg.x) (.int .i64 (Agg.ivAt k l j).agg.y) (.int .i64 (Agg.ivAt k l j).agg.z)) ∧ Hid (NumsIn wr lo hi ja (Agg.ivAt k l j).items.length jc (Agg.ivAt k l j).items) ∧ Hid (∀ g, ov.ownBlock = some g → (g < lo ∨ hi ≤ g) ∧ g ≠ sv) ∧ Hid (sv < lo) ∧ Hid (Box4 wr w.heap.size 27 (.slice none 0 0) (.int .i64 0) (.int .i64 0) (.int .i64 0)) ∧ Hid (Below w.heap.size w wr)) (fun _ i _ => n - (intOf i).toNat)
      case atStart =>
        have hlx := HX3.out.lt
        refine ⟨0, W3.heap.size, W3.heap.size, none, 0, Nat.zero_le _, rfl, HO3, ?_, ?_, ?_, Lib.hid hlx, HR3, HB3⟩
        · rw [← HF0.out]; exact HX3
        · rw [← HF0.out]
          exact Lib.hid ⟨⟨rfl, Nat.le_refl _, by simp [maxLen], .inl rfl⟩, fun b off e => by cases e⟩
        · exact Lib.hid (fun g hg => ⟨.inl (HO3.out.lt g hg).2, by simp only [Value.ownBlock, Option.some.injEq] at hg; omega⟩)
      case round =>
        obtain ⟨j, lo, hi, ja, jc, hj, rfl, ho, hx, hnm, hap, hlo, hr, hw⟩ := hrel
        clear HO3 HX3 HR3 HB3
        have hwr := hw.out.size
        have hxl := hx.out.lt
        by_cases hlt : j < n
        · rcases H0.out.2.2.2 with h4 | ⟨b, off, rfl, hbl, hcs⟩
          · omega
          · have hc0 := (hcs j hlt).1
            have hd0 := (hcs j hlt).2
            clear hcs
            obtain ⟨hrem, hops, hk⟩ := HREM.out
            have hstp := fun w ia ic hI => s_l6Step_run hrem hops (show j < l.length by have := HLL.out; omega) w ia ic hI
            have hnum := Agg.qs_step k l j (by have := HLL.out; omega)
            have hokj := Agg.ok_fold_all hk (Agg.win_ok hops (j + 1) (by have := HLL.out; omega))
            have hnb := fun w => s_number_any k hk (Agg.ivAt k l (j + 1)).agg.x (Agg.ivAt k l (j + 1)).agg.y (Agg.ivAt k l (j + 1)).agg.z w hokj
            obtain ⟨x1, hx1⟩ : ∃ x1, x1 = Agg.number k (Agg.winAt l (j + 1)) := ⟨_, rfl⟩
            rw [show Agg.num k ⟨(Agg.ivAt k l (j + 1)).agg.x, (Agg.ivAt k l (j + 1)).agg.y, (Agg.ivAt k l (j + 1)).agg.z⟩ = x1 from by rw [hx1]; rfl] at hnb
            rw [← hx1] at hnum
            have hopat : Agg.opAt l j = l[j]?.getD (false, 0) := rfl
            obtain ⟨⟨p, x⟩, hpx⟩ : ∃ o, o = Agg.opAt l j := ⟨_, rfl⟩
            rw [← hopat, ← hpx] at hc0 hd0
            rw [← hpx] at hstp
            obtain ⟨S1, hS1⟩ : ∃ S1, S1 = Agg.ivAt k l (j + 1) := ⟨_, rfl⟩
            rw [← hS1] at hstp hnb
            obtain ⟨S, hS⟩ : ∃ S, S = Agg.ivAt k l j := ⟨_, rfl⟩
            rw [← hS] at hstp hx hnm
            obtain ⟨I, ⟨ax, ay, az⟩⟩ := S
            simp only at hstp hx hnm
            have HSTP := Lib.hid hstp
            have HNB := Lib.hid hnb
            have HS1 := Lib.hid hS1
            have HNUM := Lib.hid hnum
            have HI := Lib.hid hnm.out.1
            have HOX := Lib.hid (fun g hg => (hap.out g hg).2)
            obtain ⟨q0, q1, q2, q3⟩ := hx.out.cells
            have hk0 : (0 : Int) ≤ (j : Int) := Int.natCast_nonneg _
            have hkn : (j : Int) < (n : Int) := by omega
            have hbz := (Below.refl wr.heap.size wr).alloc (Nat.le_refl _) (.cells #[.slice none 0 0, .int .i64 0, .int .i64 0, .int .i64 0] 27)
            have HSTB := Lib.hid (show IvSt w sv (.slice ja I.length jc) ax ay az u7 j (((Agg.qs k l).take j).map (Value.int .i64)) wr from ⟨hx.out, hr.out, ho.out, hw.out⟩)
            have HSTA := Lib.hid (HSTB.out.call hbz)
            have HIA := Lib.hid (HI.out.below hbz)
            have HIB := HI
            have HNX := Lib.hid (show Box4 (wr.alloc (.cells #[.slice none 0 0, .int .i64 0, .int .i64 0, .int .i64 0] 27)) wr.heap.size 27 (.slice none 0 0) (.int .i64 0) (.int .i64 0) (.int .i64 0) from Box4.new wr _ _ _ _ _)
            have hcka := (HSTA.out.b.cell (p := ⟨b, off + j * 2, none⟩) hbl).trans hc0
            have hcla := (HSTA.out.b.cell (p := ⟨b, off + j * 2 + 1, none⟩) hbl).trans hd0
            have hck := (hw.out.cell (p := ⟨b, off + j * 2, none⟩) hbl).trans hc0
            have hcl := (hw.out.cell (p := ⟨b, off + j * 2 + 1, none⟩) hbl).trans hd0
            have HLT := Lib.hid (fun g hg => (ho.out.lt g hg).2)
            have hblr : b < wr.heap.size := by omega
            clear hr hx hnm hbz hstp hnb hS1 hnum hrem hops hk hokj hx1 hopat hpx hS
            go_wp2_with fail
            go_region_held3 (fun w' => w'.cell? ⟨sv, 0, none⟩ = some (.slice ja I.length jc) ∧ w'.cell? ⟨sv, 1, none⟩ = some (.int .i64 ax) ∧ w'.cell? ⟨sv, 2, none⟩ = some (.int .i64 ay) ∧ w'.cell? ⟨sv, 3, none⟩ = some (.int .i64 az) ∧ w'.cell? ⟨b, off + j * 2, none⟩ = some (.bool p) ∧ w'.cell? ⟨b, off + j * 2 + 1, none⟩ = some (.int .i64 x)) (first | (refine ⟨?_, ?_, ?_, ?_, ?_, ?_⟩ <;> (rw [set4_far (by omega)]; assumption)) | (refine ⟨?_, ?_, ?_, ?_, ?_, ?_⟩ <;> (rw [keep_alloc4 (by assumption)]; assumption)) | (refine ⟨?_, ?_, ?_, ?_, ?_, ?_⟩ <;> assumption) | go_keep)
              (first | (go_at_call 61; refine (HSTP.out (World.drew (wr.alloc (.cells #[.slice none 0 0, .int .i64 0, .int .i64 0, .int .i64 0] 27))) _ _ (show Nums .i64 (World.drew (wr.alloc (.cells #[.slice none 0 0, .int .i64 0, .int .i64 0, .int .i64 0] 27))) _ _ _ _ from HIA.out)).mono ?_; rintro e w4 ⟨ga, gc, rfl, hnm4, hnb4, hb4⟩; have HST4 := Lib.hid (HSTA.out.callD hb4); have HSZ4 := Lib.hid hb4.size; have hsv4 := HST4.out.s.lt; have hbl4 : b < w4.heap.size := Nat.lt_of_lt_of_le hbl HST4.out.b.size; have hck4 := (HST4.out.b.cell (p := ⟨b, off + j * 2, none⟩) hbl).trans hc0; have hcl4 := (HST4.out.b.cell (p := ⟨b, off + j * 2 + 1, none⟩) hbl).trans hd0; obtain ⟨o0, o1, o2, o3⟩ := HST4.out.s.cells; have HNM := Lib.hid (show NumsIn w4 (World.drew (wr.alloc (.cells #[.slice none 0 0, .int .i64 0, .int .i64 0, .int .i64 0] 27))).heap.size w4.heap.size ga S1.items.length gc S1.items from ⟨hnm4, fun b' off' e => by rcases hnm4.2.2.2 with h0 | ⟨b2, o2, e2, hlt2, -⟩; exact .inl h0; rw [e2] at e; simp only [Option.some.injEq, Addr.mk.injEq] at e; obtain ⟨rfl, -, -⟩ := e; exact .inr ⟨hnb4 _ _ e2, hlt2⟩⟩); have HNX4 := Lib.hid (HNX.out.callD hb4); have n0 := (HNX.out.callD hb4).free; obtain ⟨z0, z1, z2, z3⟩ := (HNX.out.callD hb4).cells; have hne4 : sv ≠ wr.heap.size := (by omega); have hne5 : b ≠ wr.heap.size := (by omega); clear hb4 hnm4 hnb4) | (go_at_call 61; refine (HSTP.out (World.drew wr) _ _ (show Nums .i64 (World.drew wr) _ _ _ _ from HIB.out)).mono ?_; rintro e w4 ⟨ga, gc, rfl, hnm4, hnb4, hb4⟩; have HST4 := Lib.hid (HSTB.out.callD hb4); have HSZ4 := Lib.hid hb4.size; have hsv4 := HST4.out.s.lt; have hbl4 : b < w4.heap.size := Nat.lt_of_lt_of_le hbl HST4.out.b.size; have hck4 := (HST4.out.b.cell (p := ⟨b, off + j * 2, none⟩) hbl).trans hc0; have hcl4 := (HST4.out.b.cell (p := ⟨b, off + j * 2 + 1, none⟩) hbl).trans hd0; obtain ⟨o0, o1, o2, o3⟩ := HST4.out.s.cells; have HNM := Lib.hid (show NumsIn w4 (World.drew wr).heap.size w4.heap.size ga S1.items.length gc S1.items from ⟨hnm4, fun b' off' e => by rcases hnm4.2.2.2 with h0 | ⟨b2, o2, e2, hlt2, -⟩; exact .inl h0; rw [e2] at e; simp only [Option.some.injEq, Addr.mk.injEq] at e; obtain ⟨rfl, -, -⟩ := e; exact .inr ⟨hnb4 _ _ e2, hlt2⟩⟩); have n0 := (trivial : True); clear hb4 hnm4 hnb4))
            · obtain ⟨W5, hW5⟩ : ∃ W5, W5 = w4.alloc (.cells #[.slice ga S1.items.length gc, .int .i64 S1.agg.x, .int .i64 S1.agg.y, .int .i64 S1.agg.z] 27) := ⟨_, rfl⟩
              have hbn : Below w4.heap.size w4 W5 := by rw [hW5]; exact (Below.refl _ _).alloc (Nat.le_refl _) _
              have HST5 := Lib.hid (HST4.out.call hbn)
              have HNM5 := Lib.hid (HNM.out.below hbn)
              have HNX5 := Lib.hid (show Box4 W5 w4.heap.size 27 (.slice ga S1.items.length gc) (.int .i64 S1.agg.x) (.int .i64 S1.agg.y) (.int .i64 S1.agg.z) from by rw [hW5]; exact Box4.new w4 _ _ _ _ _)
              have hlo5 : wr.heap.size ≤ wr.drew.heap.size := Nat.le_refl _
              have hhi5 : w4.heap.size ≤ W5.heap.size := hbn.size
              rw [← hW5]
              obtain ⟨lo', hlo'⟩ : ∃ lo', lo' = wr.drew.heap.size := ⟨_, rfl⟩
              rw [← hlo'] at HNM5 hlo5
              obtain ⟨nb, hnb⟩ : ∃ nb, nb = w4.heap.size := ⟨_, rfl⟩
              have hnb5 : sv ≠ nb := by omega
              rw [← hnb] at HNX5 ⊢
              clear hW5 hbn HST4 HNM hck4 hcl4 o0 o1 o2 o3 n0 hck hcl hcka hcla q0 q1 q2 q3 hlo' hnb
              obtain ⟨W6, hW6⟩ : ∃ W6, W6 = ((((W5.setCell ⟨sv, 0, none⟩ (.slice ga S1.items.length gc)).setCell ⟨sv, 1, none⟩ (.int .i64 S1.agg.x)).setCell ⟨sv, 2, none⟩ (.int .i64 S1.agg.y)).setCell ⟨sv, 3, none⟩ (.int .i64 S1.agg.z)) := ⟨_, rfl⟩
              have HST6 := Lib.hid (HST5.out.put (show w.heap.size < sv by omega) HOX.out (.slice ga S1.items.length gc) S1.agg.x S1.agg.y S1.agg.z)
              have HNM6 := Lib.hid (HNM5.out.sets (d := sv) (.inl (by omega)) (.slice ga S1.items.length gc) (.int .i64 S1.agg.x) (.int .i64 S1.agg.y) (.int .i64 S1.agg.z))
              rw [← hW6] at HST6 HNM6
              have hz6 : W5.heap.size ≤ W6.heap.size := by rw [hW6, size_sets4]; exact Nat.le_refl _
              obtain ⟨n0, n1, n2, n3⟩ := HNX5.out.cells
              obtain ⟨o0, o1, o2, o3⟩ := HST5.out.s.cells
              have o7 := HST5.out.s.free
              go_upto_region 10 with (fail)
              rw [← hW6]
              clear hW6 n0 n1 n2 n3 o0 o1 o2 o3 o7 HST5 HNM5 HNX5
              obtain ⟨o0, o1, o2, o3⟩ := HST6.out.s.cells
              go_wp2_with fail
              have hC7 := HNB.out W6
              refine hC7.mono ?_
              rintro e w8 ⟨rfl, hb8⟩
              have HST8 := Lib.hid (HST6.out.call hb8)
              have HNM8 := Lib.hid (HNM6.out.below hb8)
              have hz8 : w4.heap.size ≤ w8.heap.size := by have := hb8.size; omega
              have hs8 := HST8.out.b.size
              have hb0 : w.heap.size + 1 ≤ w8.heap.size := by have := HST8.out.s.lt; omega
              clear hb8 HST6 HNM6 hC7 o0 o1 o2 o3
              go_wp2_with (
                at_builtin
                go_must (refine wpList_append_where rfl (.tmp 43) (.tmp 48) 23 rfl (w.heap.size + 1) 3 i0 (.int .i64 0) 1 8 Tryz.underlying23 hi0 hz0 hz1 hz2 rfl (by decide) _ _ _ rfl (HST8.out.o.alloc _) ⟨w8.heap.size, 0, none⟩ 1 1 [.int .i64 x1] rfl rfl (cell_one_new _ _ _) (ints_oneCell .i64 [x1]) (by unfold maxLen; omega) (by omega) (by simp; omega) ?_)
                intro v9 w9 hown9 hgrow9 hwhere9
                have HST9 := Lib.hid (HST8.out.appended HOX.out hown9 hgrow9)
                have HAP9 := Lib.hid (show ∀ g, v9.ownBlock = some g → (g < lo' ∨ w4.heap.size ≤ g) ∧ g ≠ sv from fun g hg => hwhere9.elim (fun e => ⟨.inl (by have := HLT.out g (e ▸ hg); omega), HOX.out g (e ▸ hg)⟩) (fun ⟨g', e, hle⟩ => by rw [e] at hg; simp only [Option.some.injEq] at hg; subst hg; simp at hle; exact ⟨.inr (by omega), by omega⟩))
                have HNM9 := Lib.hid ((HNM8.out.below ((Below.refl w8.heap.size w8).alloc (Nat.le_refl _) _)).grown hgrow9 (fun g hg => .inl (by have := HLT.out g hg; omega)))
                clear hown9 hgrow9 hwhere9)
              have hS1 := HS1.out
              refine ⟨⟨j + 1, lo', w4.heap.size, ga, gc, by omega, by go_num, ?_, ?_, ?_, HAP9, Lib.hid (by omega), Lib.hid HST9.out.r, Lib.hid HST9.out.b⟩, by simp [intOf] <;> omega⟩
              · rw [HNUM.out, List.map_append]
                exact Lib.hid HST9.out.o
              · rw [← hS1]
                exact Lib.hid HST9.out.s
              · rw [← hS1]
                exact HNM9
            · obtain ⟨W5, hW5⟩ : ∃ W5, W5 = ((((w4.setCell ⟨wr.heap.size, 0, none⟩ (.slice ga S1.items.length gc)).setCell ⟨wr.heap.size, 1, none⟩ (.int .i64 S1.agg.x)).setCell ⟨wr.heap.size, 2, none⟩ (.int .i64 S1.agg.y)).setCell ⟨wr.heap.size, 3, none⟩ (.int .i64 S1.agg.z)) := ⟨_, rfl⟩
              have HST5 := Lib.hid (HST4.out.far (d := wr.heap.size) (by omega) (by omega) (fun g hg => by have := HLT.out g hg; omega) (.slice ga S1.items.length gc) (.int .i64 S1.agg.x) (.int .i64 S1.agg.y) (.int .i64 S1.agg.z))
              have HNM5 := Lib.hid (HNM.out.sets (d := wr.heap.size) (.inl (by simp [World.drew])) (.slice ga S1.items.length gc) (.int .i64 S1.agg.x) (.int .i64 S1.agg.y) (.int .i64 S1.agg.z))
              have HNX5 := Lib.hid ((((HNX4.out.set0 (.slice ga S1.items.length gc)).set1 (.int .i64 S1.agg.x)).set2 (.int .i64 S1.agg.y)).set3 (.int .i64 S1.agg.z))
              rw [← hW5] at HST5 HNM5 HNX5 ⊢
              have hlo5 : wr.heap.size ≤ (wr.alloc (.cells #[.slice none 0 0, .int .i64 0, .int .i64 0, .int .i64 0] 27)).drew.heap.size := by simp [World.drew]
              have hhi5 : w4.heap.size ≤ W5.heap.size := by rw [hW5, size_sets4]; exact Nat.le_refl _
              obtain ⟨lo', hlo'⟩ : ∃ lo', lo' = (wr.alloc (.cells #[.slice none 0 0, .int .i64 0, .int .i64 0, .int .i64 0] 27)).drew.heap.size := ⟨_, rfl⟩
              rw [← hlo'] at HNM5 hlo5
              obtain ⟨nb, hnb⟩ : ∃ nb, nb = wr.heap.size := ⟨_, rfl⟩
              have hnb5 : sv ≠ nb := by omega
              rw [← hnb] at HNX5
              clear hW5 HST4 HNM hck4 hcl4 o0 o1 o2 o3 n0 hck hcl hcka hcla q0 q1 q2 q3 hlo' z0 z1 z2 z3 HNX4
              rw [← hnb]
              clear hnb
              obtain ⟨W6, hW6⟩ : ∃ W6, W6 = ((((W5.setCell ⟨sv, 0, none⟩ (.slice ga S1.items.length gc)).setCell ⟨sv, 1, none⟩ (.int .i64 S1.agg.x)).setCell ⟨sv, 2, none⟩ (.int .i64 S1.agg.y)).setCell ⟨sv, 3, none⟩ (.int .i64 S1.agg.z)) := ⟨_, rfl⟩
              have HST6 := Lib.hid (HST5.out.put (show w.heap.size < sv by omega) HOX.out (.slice ga S1.items.length gc) S1.agg.x S1.agg.y S1.agg.z)
              have HNM6 := Lib.hid (HNM5.out.sets (d := sv) (.inl (by omega)) (.slice ga S1.items.length gc) (.int .i64 S1.agg.x) (.int .i64 S1.agg.y) (.int .i64 S1.agg.z))
              rw [← hW6] at HST6 HNM6
              have hz6 : W5.heap.size ≤ W6.heap.size := by rw [hW6, size_sets4]; exact Nat.le_refl _
              obtain ⟨n0, n1, n2, n3⟩ := HNX5.out.cells
              obtain ⟨o0, o1, o2, o3⟩ := HST5.out.s.cells
              have o7 := HST5.out.s.free
              go_upto_region 10 with (fail)
              rw [← hW6]
              clear hW6 n0 n1 n2 n3 o0 o1 o2 o3 o7 HST5 HNM5 HNX5
              obtain ⟨o0, o1, o2, o3⟩ := HST6.out.s.cells
              go_wp2_with fail
              have hC7 := HNB.out W6
              refine hC7.mono ?_
              rintro e w8 ⟨rfl, hb8⟩
              have HST8 := Lib.hid (HST6.out.call hb8)
              have HNM8 := Lib.hid (HNM6.out.below hb8)
              have hz8 : w4.heap.size ≤ w8.heap.size := by have := hb8.size; omega
              have hs8 := HST8.out.b.size
              have hb0 : w.heap.size + 1 ≤ w8.heap.size := by have := HST8.out.s.lt; omega
              clear hb8 HST6 HNM6 hC7 o0 o1 o2 o3
              go_wp2_with (
                at_builtin
                go_must (refine wpList_append_where rfl (.tmp 43) (.tmp 48) 23 rfl (w.heap.size + 1) 3 i0 (.int .i64 0) 1 8 Tryz.underlying23 hi0 hz0 hz1 hz2 rfl (by decide) _ _ _ rfl (HST8.out.o.alloc _) ⟨w8.heap.size, 0, none⟩ 1 1 [.int .i64 x1] rfl rfl (cell_one_new _ _ _) (ints_oneCell .i64 [x1]) (by unfold maxLen; omega) (by omega) (by simp; omega) ?_)
                intro v9 w9 hown9 hgrow9 hwhere9
                have HST9 := Lib.hid (HST8.out.appended HOX.out hown9 hgrow9)
                have HAP9 := Lib.hid (show ∀ g, v9.ownBlock = some g → (g < lo' ∨ w4.heap.size ≤ g) ∧ g ≠ sv from fun g hg => hwhere9.elim (fun e => ⟨.inl (by have := HLT.out g (e ▸ hg); omega), HOX.out g (e ▸ hg)⟩) (fun ⟨g', e, hle⟩ => by rw [e] at hg; simp only [Option.some.injEq] at hg; subst hg; simp at hle; exact ⟨.inr (by omega), by omega⟩))
                have HNM9 := Lib.hid ((HNM8.out.below ((Below.refl w8.heap.size w8).alloc (Nat.le_refl _) _)).grown hgrow9 (fun g hg => .inl (by have := HLT.out g hg; omega)))
                clear hown9 hgrow9 hwhere9)
              have hS1 := HS1.out
              refine ⟨⟨j + 1, lo', w4.heap.size, ga, gc, by omega, by go_num, ?_, ?_, ?_, HAP9, Lib.hid (by omega), Lib.hid HST9.out.r, Lib.hid HST9.out.b⟩, by simp [intOf] <;> omega⟩
              · rw [HNUM.out, List.map_append]
                exact Lib.hid HST9.out.o
              · rw [← hS1]
                exact Lib.hid HST9.out.s
              · rw [← hS1]
                exact HNM9
        · obtain rfl : j = n := by omega
          have hnl : ¬ (j : Int) < (j : Int) := by omega
          have hlen := Agg.iv_len (k := k) HREM.out.2.1 (show j ≤ l.length by have := HLL.out; omega)
          obtain ⟨S, hS⟩ : ∃ S, S = Agg.ivAt k l j := ⟨_, rfl⟩
          rw [← hS] at hx hnm hlen
          have HS := Lib.hid hS
          have hjc : S.items.length ≤ jc := hnm.out.1.2.1
          have hjm : jc ≤ 9223372036854775807 := by have := hnm.out.1.2.2.1; unfold maxLen at this; omega
          have HOX := Lib.hid (fun g hg => (hap.out g hg).2)
          clear hS hap hlo
          obtain ⟨q0, q1, q2, q3⟩ := (hx.out.call ((Below.refl wr.heap.size wr).alloc (Nat.le_refl _) (.cells #[] 3))).cells
          go_upto_region 12 with (at_builtin; go_must (refine wpList_append_copy rfl (.tmp 50) (.tmp 52) 23 rfl 3 i0 (.int .i64 0) 1 8 Tryz.underlying23 hi0 hz0 hz1 hz2 rfl (by decide) wr.heap.size rfl (heap_alloc_new wr _) ja S.items.length jc (S.items.map (Value.int .i64)) rfl (Nums.src (hnm.out.1.below ((Below.refl wr.heap.size wr).alloc (Nat.le_refl _) _))) (by unfold maxLen; omega) (by omega) ?_; intro v4 w4 hown4 hgrow4; obtain ⟨ka, kc, rfl⟩ := p_slice hown4; have HO4 := Lib.hid hown4; have HX4 := Lib.hid ((hx.out.call ((Below.refl wr.heap.size wr).alloc (Nat.le_refl _) (.cells #[] 3))).grown hgrow4 (fun e => by have := Option.some.inj e; omega)); have HR4 := Lib.hid ((hr.out.call ((Below.refl wr.heap.size wr).alloc (Nat.le_refl _) (.cells #[] 3))).grown hgrow4 (fun e => by have := Option.some.inj e; omega)); have HOUT4 := Lib.hid ((ho.out.alloc (.cells #[] 3)).kept hgrow4 (by cases hv : u7.ownBlock with | none => exact .inl rfl | some g => exact .inr (fun e => by have := (ho.out.lt g hv).2; have := Option.some.inj e; omega))); have HB4 := Lib.hid ((hw.out.alloc hwr (.cells #[] 3)).grown hgrow4 (by simp; omega) (fun g hg => by have := Option.some.inj hg; omega)); clear hown4 hgrow4 q0 q1 q2 q3; obtain ⟨q0, q1, q2, q3⟩ := HX4.out.cells; have q4 := HX4.out.free))
          all_goals
            obtain ⟨W5, hW5⟩ : ∃ W5, W5 = w4.setCell ⟨sv, 0, none⟩ (.slice ka S.items.length kc) := ⟨_, rfl⟩
            have HX5 := Lib.hid (HX4.out.set0 (.slice ka S.items.length kc))
            have HR5 := Lib.hid (HR4.out.other (show w.heap.size ≠ sv by omega) 0 (.slice ka S.items.length kc))
            have HO5 := Lib.hid (own_set_ne6 HO4.out (d := sv) (o := 0) (u := .slice ka S.items.length kc) (fun g hg => by have := (HO4.out.lt g hg).1; omega))
            have HOUT5 := Lib.hid (own_set_ne6 HOUT4.out (d := sv) (o := 0) (u := .slice ka S.items.length kc) HOX.out)
            have HB5 := Lib.hid (HB4.out.setCell (p := ⟨sv, 0, none⟩) (show w.heap.size ≤ sv by omega) (.slice ka S.items.length kc))
            rw [← hW5] at HX5 HR5 HO5 HOUT5 HB5 ⊢
            clear hW5 HX4 HR4 HO4 HOUT4 HB4 q0 q1 q2 q3 q4 hx hr ho hw hnm
            obtain ⟨q0, q1, q2, q3⟩ := HX5.out.cells
            obtain ⟨s0, s1, s2, s3⟩ := HR5.out.cells
            have s4 := HR5.out.free
            go_wp2_with fail
            refine bodyPost_ret (by simp [results, Tryz.results43, go_sem, *]; try rfl) rfl ?_
            have hbb := sets4 HB5.out (Nat.le_refl _) (.slice ka S.items.length kc) (.int .i64 S.agg.x) (.int .i64 S.agg.y) (.int .i64 S.agg.z)
            have hql : (Agg.qs k l).take j = Agg.qs k l := List.take_of_length_le (by simp [Agg.qs]; have := HLL.out; omega)
            rw [hql] at HOUT5
            have hSl : Agg.ivAt k l l.length = S := by rw [HLL.out]; exact HS.out.symm
            rw [hSl]
            refine ⟨_, _, j, rfl, ⟨_, rfl, OwnR.of6 (own_sets4 HO5.out (fun g hg => by have := (HO5.out.lt g hg).1; omega) _ _ _ _) (by omega) hbb.size⟩, OwnR.of6 (own_sets4 HOUT5.out (fun g hg => by have := (HOUT5.out.lt g hg).1; omega) _ _ _ _) (by omega) hbb.size, hbb⟩
end Go.Proofs.YtmlkdbmhekiniaaGreat

/-
  Arguments that are windows with an inverse, or deques, opened as the rows read them.
-/
namespace Go.Proofs.YtmlkdbmhekiniaaGreat
open Go.RowKit Go.ChangeShapes Go.WideShapes Go.Joins Go.Deep
set_option linter.unusedVariables false
set_option linter.unusedSimpArgs false
section
variable {H : Type} {enc : TypeId × Value → H} {w : World} {base : Nat} {spare : Nat → Bool} {held : Bool}
theorem fs_cellsI : Tryz.prog.cellsOf 3 = 1 := by kernel_rfl
theorem fs_cellsN : Tryz.prog.cellsOf 23 = 1 := by kernel_rfl
theorem fs_array4 {α : Type} {cs : Array α} (h : cs.size = 4) : ∃ c0 c1 c2 c3, cs = #[c0, c1, c2, c3] := by
  obtain ⟨l⟩ := cs
  match l, h with
  | [c0, c1, c2, c3], _ => exact ⟨c0, c1, c2, c3, rfl⟩
theorem fs_array5 {α : Type} {cs : Array α} (h : cs.size = 5) : ∃ c0 c1 c2 c3 c4, cs = #[c0, c1, c2, c3, c4] := by
  obtain ⟨l⟩ := cs
  match l, h with
  | [c0, c1, c2, c3, c4], _ => exact ⟨c0, c1, c2, c3, c4, rfl⟩
theorem fs_ints {fuel : Nat} {c : Value} {x : DataW H × List MemPlace} (h : DataW.trod enc Tryz.prog w base (fun _ => true) held fuel 23 [c] = some x) : ∃ ia m ic I, c = .slice ia m ic ∧ Nums .i64 w ia m ic I := by
  rcases open_ints Tryz.underlying23 Tryz.underlying3 (by kernel_rfl) h with ⟨hcs, _⟩ | ⟨x, l, c, zs, hcs, _, hl, hm, hz, _, hcell, hwz⟩
  · simp only [List.cons.injEq, and_true] at hcs
    exact ⟨none, 0, 0, _, hcs, Nums.of_row (.inl ⟨rfl, rfl, rfl, rfl⟩)⟩
  · simp only [List.cons.injEq, and_true] at hcs
    exact ⟨some x, l, c, _, hcs, Nums.of_row (.inr ⟨_, rfl, hl, hm, by simpa using hz, hcell, hwz⟩)⟩
end
end Go.Proofs.YtmlkdbmhekiniaaGreat

/-
  Kinds whose aggregates can be removed, and cases of InverseRun, as the model draws them.
-/
namespace Go.Proofs.YtmlkdbmhekiniaaGreat
set_option linter.unusedSimpArgs false
set_option linter.unusedVariables false
open Go.RowKit
set_option maxHeartbeats 1000000 in
theorem l6Kind_any (b lcap : Nat) (ll : List Int) (B c : Nat) (p : Int) (w : World) (h : Rd w B c p) (hp : p ≤ 900000) (hl : ListAt w b ll) (hbc : b ≠ c) (h0 : 0 < ll.length) (h1 : ll.length ≤ 1000) :
    Calls Tryz.prog 52 #[.pointer (some ⟨c, 0, none⟩), .slice (some ⟨b, 0, none⟩) ll.length lcap] w (Drawn (fun v => v ∈ ll ∨ v ∈ [9, 0, 5, 11]) 2 B c p w) := by
  have HR := Lib.hid h; clear h
  have HL := Lib.hid hl; clear hl
  go_enter Tryz.func52, Tryz.ntmps52
  go_wp2_with fail
  refine (pick_any _ B c p _ HR.out (by omega) (by omega)).mono ?_
  rintro e w1 ⟨v, rfl, hv0, hv1, -, hr, hg⟩
  have hlt := hr.2.1
  have HR1 := Lib.hid hr; clear hr
  have HL1 := Lib.hid (HL.out.kept hg hbc); clear HL
  have HG := Lib.hid hg; clear hg
  clear hv1
  by_cases hz : v = 0
  · subst hz
    go_wp2_with fail
    refine (num_any w1.heap.size 4 [9, 0, 5, 11] B c (p + 1) _ (HR1.out.kept (World.grownBy_alloc _ _ _)) (by omega) (ListAt.new w1 [9, 0, 5, 11] _) (by omega) (by decide) (by decide)).mono ?_
    rintro e w2 ⟨u, rfl, hu, hr2, hg2⟩
    have HR2 := Lib.hid hr2; clear hr2
    have HU := Lib.hid hu; clear hu
    have HG2 := Lib.hid (grown_trans (grown_alloc HG.out _) hg2); clear hg2
    go_wp2
    go_returns
    exact ⟨u, p + 1 + 1, rfl, .inr HU.out, by omega, by omega, HR2.out, HG2.out⟩
  · go_wp2_with fail
    refine (num_any b lcap ll B c (p + 1) _ HR1.out (by omega) HL1.out hbc h0 h1).mono ?_
    rintro e w2 ⟨u, rfl, hu, hr2, hg2⟩
    have HR2 := Lib.hid hr2; clear hr2
    have HU := Lib.hid hu; clear hu
    have HG2 := Lib.hid (grown_trans HG.out hg2); clear hg2
    go_wp2
    go_returns
    exact ⟨u, p + 1 + 1, rfl, .inl HU.out, by omega, by omega, HR2.out, HG2.out⟩
set_option maxRecDepth 8000 in
set_option maxHeartbeats 4000000 in
theorem drawInverseRun_any (a : Option Addr) (n cap : Nat) (l : List Int) (w : World) (h : Bytes w a n cap l) :
    Calls Tryz.prog 41 #[.slice a n cap] w (CaseDrawn w) := by
  have HH := Lib.hid h; clear h
  go_enter Tryz.func41, Tryz.ntmps41
  go_wp2_with fail
  refine (open_any _ _ _ l _ HH.out).mono ?_
  rintro e w1 ⟨c, rfl, hr1, hb1⟩
  have HR1 := Lib.hid hr1
  have HB1 := Lib.hid hb1
  have hc1 := hr1.1
  have hc2 := hr1.2.1
  clear hr1 hb1
  go_wp2_with fail
  refine (l6Kind_any w1.heap.size 4 [8, 1, 7, 2] _ c 0 _ (HR1.out.kept (World.grownBy_alloc _ _ _)) (by omega) (ListAt.new w1 [8, 1, 7, 2] _) (by omega) (by decide) (by decide)).mono ?_
  rintro e w3 ⟨k, p3, rfl, hk, hp3, hq3, hr3, hg3⟩
  have HR3 := Lib.hid hr3
  have HB3 := Lib.hid ((HB1.out.alloc HB1.out.size _).grown hg3 (by have := HB1.out.size; simp; omega) (fun j hj => by have := Option.some.inj hj; omega))
  have hk1 : -1 ≤ k ∧ k ≤ 11 := by
    simp only [List.mem_cons, List.not_mem_nil, or_false] at hk
    omega
  obtain ⟨hk1, hk2⟩ := hk1
  clear hr3 hg3 HR1 HB1 hk
  go_wp2_with fail
  refine (num_any w3.heap.size 3 [12, 20, 6] _ c p3 _ (HR3.out.kept (World.grownBy_alloc _ _ _)) (by omega) (ListAt.new w3 [12, 20, 6] _) (by have := HR3.out.2.1; omega) (by decide) (by decide)).mono ?_
  rintro e w4 ⟨m, rfl, hm, hr4, hg4⟩
  obtain ⟨mm, rfl, hmm⟩ : ∃ mm : Nat, m = (mm : Int) ∧ mm ≤ 30 := by
    simp at hm
    rcases hm with rfl | rfl | rfl
    · exact ⟨12, rfl, by omega⟩
    · exact ⟨20, rfl, by omega⟩
    · exact ⟨6, rfl, by omega⟩
  have HR4 := Lib.hid hr4
  have HB4 := Lib.hid ((HB3.out.alloc HB3.out.size _).grown hg4 (by have := HB3.out.size; simp; omega) (fun j hj => by have := Option.some.inj hj; omega))
  clear hr4 hg4 HR3 HB3 hm
  go_wp2_with fail
  refine (l2Draw_any mm _ c (p3 + 1) _ HR4.out (by omega) (by omega)).mono ?_
  rintro e w5 ⟨v5, n5, l5, p5, rfl, ho5, hn5, hp5, hq5, hr5, hg5⟩
  have HR5 := Lib.hid hr5
  have HO5 := Lib.hid ho5
  have HB5 := Lib.hid (HB4.out.grown hg5 HB4.out.size (fun j hj => by have := Option.some.inj hj; omega))
  clear hr5 hg5 ho5 HR4 HB4
  go_wp2_with fail
  refine (l2Wrong_any _ c p5 _ n5 v5 l5 _ HR5.out (by omega) HO5.out (by omega)).mono ?_
  rintro e w6 ⟨v6, n6, l6, p6, rfl, ho6, hn6, hp6, hq6, hr6, hg6⟩
  have HB6 := Lib.hid (HB5.out.grown hg6 HB5.out.size (fun j hj => by have := Option.some.inj hj; omega))
  have HO6 := Lib.hid ho6
  clear hr6 hg6 ho6
  go_wp2_with fail
  go_returns
  exact ⟨k, v6, n6, l6, rfl, ⟨owns_lower HO6.out HB5.out.size, HB6.out.size, Nat.le_refl _, fun g hg => (HO6.out.lt g hg).2⟩, hn6, hk1, hk2, HB6.out⟩
end Go.Proofs.YtmlkdbmhekiniaaGreat

/-
  Rows of numbers compared, as the laws do.
-/
namespace Go.Proofs.YtmlkdbmhekiniaaGreat
set_option linter.unusedSimpArgs false
set_option linter.unusedVariables false
open Go.RowKit
set_option maxHeartbeats 1000000 in
theorem waInts_w (a1 : Option Addr) (n1 cap1 : Nat) (a2 : Option Addr) (n2 cap2 : Nat) (l : List Int) (w : World) (h1 : Nums .i64 w a1 n1 cap1 l) (h2 : Nums .i64 w a2 n2 cap2 l) :
    Calls Tryz.prog 16 #[.slice a1 n1 cap1, .slice a2 n2 cap2] w fun e w' => e = .returned (.bool true) ∧ Below w.heap.size w w' := by
  obtain ⟨hl1, hcap1, hm1, h41⟩ := h1
  obtain ⟨hl2, hcap2, hm2, h42⟩ := h2
  obtain rfl : n1 = n2 := by omega
  unfold maxLen at hm1
  have HL := Lib.hid hl1; clear hl1 hl2 hm2 hcap2
  have H1 := Lib.hid h41; clear h41
  have H2 := Lib.hid h42; clear h42
  go_enter Tryz.func16, Tryz.ntmps16
  go_wp2
  go_loopw [5] (fun i wr => ∃ k : Nat, k ≤ n1 ∧ i = .int .i64 k ∧ Hid (Below w.heap.size w wr)) (fun i _ => n1 - (intOf i).toNat)
  case atStart => exact ⟨0, Nat.zero_le _, rfl, Below.refl _ _⟩
  case round =>
    obtain ⟨k, hk, rfl, HW⟩ := hrel
    by_cases hlt : k < n1
    · rcases H1.out with h4 | ⟨b, off, rfl, hb, hcs⟩
      · omega
      · rcases H2.out with h4 | ⟨b', off', rfl, hb', hcs'⟩
        · omega
        · have hck := (HW.out.cell (p := ⟨b, off + k, none⟩) hb).trans (hcs k hlt)
          have hck' := (HW.out.cell (p := ⟨b', off' + k, none⟩) hb').trans (hcs' k hlt)
          clear hcs hcs'
          obtain ⟨x, hx⟩ : ∃ x, x = l[k]?.getD 0 := ⟨_, rfl⟩
          rw [← hx] at hck hck'
          clear hx
          have hk0 : (0 : Int) ≤ (k : Int) := Int.natCast_nonneg _
          have hkn : (k : Int) < (n1 : Int) := by omega
          go_wp2
          go_quiet (fail)
          go_wp2
          go_roundw
          case rel => exact ⟨k + 1, by omega, by go_num, below_drewN HW.out _⟩
          case measure => simp [intOf]; omega
    · have hlt' : n1 ≤ k := by omega
      clear hlt
      go_wp2
      go_returns
      exact ⟨rfl, HW.out⟩
end Go.Proofs.YtmlkdbmhekiniaaGreat
