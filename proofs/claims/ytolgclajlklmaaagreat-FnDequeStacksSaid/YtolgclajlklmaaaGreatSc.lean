import Derived.RangeFuncNested
import Derived.RangeFuncBound
import Derived.RangeFuncCalls
import Derived.RangeFuncLeaves
import Derived.RangeFuncBox
import Derived.Shelf.Abstract
import Derived.Shelf.RegionOpen
import Derived.WalkKit
import Derived.OwnWalkIn
import Derived.TacticsInMore
import Derived.LoopNIn
import Derived.LoopIn
import Derived.Test.YtolgclajlklmaaaGreatSd
import Derived.Test.YtolgclajlklmaaaGreatTb
import Derived.Deep.DeepMust
import Derived.Sort.CutIn
import Derived.Maps.OwnIn
import Derived.OrdersHeld
import Derived.OrdersIn
import Derived.Deep.RegionHeld3
import Derived.Deep.Cut
namespace Go.Proofs.YtolgclajlklmaaaGreat
set_option linter.unusedSimpArgs false
set_option linter.unusedVariables false
open Go.RowKit Go.Shelf
theorem own_emptyV_new (w : World) : (w.alloc (.cells #[] 40)).ownsRow w.heap.size 40 3 (.slice (some ⟨w.heap.size, 0, none⟩) 0 0) 0 (valRow []) :=
  World.ownsRow_made (base := w.heap.size) (e := 40) (size := 3) w #[] 0 (Nat.le_refl _) (by simp [maxLen]) (by simp)
set_option maxRecDepth 8000 in
set_option maxHeartbeats 1000000 in
theorem cloneV_any (a : Option Addr) (n cap : Nat) (l : List Agg.V) (w : World) (h : Vals w a n cap l) (hn : n ≤ 1000) :
    Calls Tryz.prog 82 #[.slice a n cap] w (fun e w' => ∃ v, e = .returned v ∧ w'.ownsRow w.heap.size 40 3 v n (valRow l) ∧ Below w.heap.size w w') := by
  obtain ⟨i0, hi0, hz0, hz1, hz2⟩ := info_parts infoVal
  have hll : l.length = n := h.1
  have hnc := h.2.1
  have hcm : cap ≤ 9223372036854775807 := by have := h.2.2.1; unfold maxLen at this; omega
  cases a with
  | none =>
    have h0 : n = 0 := by
      rcases h.2.2.2 with h0 | ⟨b, off, ha, -⟩
      · exact h0
      · simp at ha
    subst h0
    obtain rfl := List.eq_nil_of_length_eq_zero hll
    clear h
    have q22 : ∀ (w : World) (a : Option Addr) (n c n' c' : Nat), (binOp .eql 38 (.slice a n c) (.slice none n' c')).run Tryz.prog w = .ok (.bool a.isNone) w := fun w a n c n' c' => Lib.run_eql_slice_nil w _ _ a n c n' c' Tryz.underlying38
    go_enter Tryz.func82, Tryz.ntmps82
    go_wp2
    go_returns
    exact ⟨_, rfl, World.ownsRow_nil _ _ _ _, Below.refl _ _⟩
  | some ad =>
    have hnews : ∀ j u, (valRow l)[j]? = some u → (w.alloc (.cells #[] 40)).cell? (ad.add j) = some u := by
      rcases h.2.2.2 with h0 | ⟨b, off, ha, -⟩
      · subst h0
        obtain rfl := List.eq_nil_of_length_eq_zero hll
        intro j u hj
        simp [valRow] at hj
      · obtain rfl := Option.some.inj ha
        exact vals_news (h.below ((Below.refl _ _).alloc (Nat.le_refl _) _))
    have HN := Lib.hid hnews
    have HE := Lib.hid (own_emptyV_new w)
    have hvl : (valRow l).length = n * 3 := by rw [valRow_length, hll]
    clear hnews h
    have q22 : ∀ (w : World) (a : Option Addr) (n c n' c' : Nat), (binOp .eql 38 (.slice a n c) (.slice none n' c')).run Tryz.prog w = .ok (.bool a.isNone) w := fun w a n c n' c' => Lib.run_eql_slice_nil w _ _ a n c n' c' Tryz.underlying38
    go_enter Tryz.func82, Tryz.ntmps82
    go_wp2_with (at_builtin; go_must (refine wpList_append_own _ rfl (.tmp 5) (.tmp 6) 38 rfl w.heap.size 40 i0 (.agg #[.int .i64 0, .int .i64 0, .int .i64 0]) 3 24 Tryz.underlying38 hi0 hz0 hz1 hz2 rfl (by decide) _ _ _ rfl HE.out ad n cap (valRow l) rfl hvl HN.out (valRow_oneCell _) (by unfold maxLen; omega) (by omega) (by simp) ?_); go_must (intro v' w' hown' hgrow' hnil'; have HO := Lib.hid hown'; have HB := Lib.hid (show Below w.heap.size w w' from Below.grown (((Below.refl _ _).alloc (Nat.le_refl _) _)) hgrow' (by simp) (fun k hk => Nat.le_of_eq (Option.some.inj hk))); clear hown' hgrow' hnil'))
    go_wp2
    go_returns
    exact ⟨v', rfl, by have := HO.out; simpa [valRow] using this, HB.out⟩
attribute [local go_sem] Oper.semAt_some
abbrev Agg.At := { x : Nat × Int // 0 ≤ x.2 ∧ x.2 ≤ 96 }
def Agg.upto {α : Type} (f : Nat → α) (k : Nat) : List α := (List.range k).map f
theorem Agg.upto_succ {α : Type} (f : Nat → α) (k : Nat) : Agg.upto f (k + 1) = Agg.upto f k ++ [f k] := by simp [Agg.upto, List.range_succ]
theorem Agg.upto_length {α : Type} (f : Nat → α) (k : Nat) : (Agg.upto f k).length = k := by simp [Agg.upto]
def KeepsTwo (p q : Nat) (W W' : World) : Prop := W'.heap[p]? = W.heap[p]? ∧ W'.heap[q]? = W.heap[q]?
theorem KeepsTwo.refl (p q : Nat) (W : World) : KeepsTwo p q W W := ⟨rfl, rfl⟩
theorem KeepsTwo.trans {p q : Nat} {A B C : World} (h : KeepsTwo p q A B) (k : KeepsTwo p q B C) : KeepsTwo p q A C := ⟨k.1.trans h.1, k.2.trans h.2⟩
theorem KeepsTwo.below {p q n : Nat} {A B : World} (h : Below n A B) (hp : p < n) (hq : q < n) : KeepsTwo p q A B := ⟨h.block p hp, h.block q hq⟩
theorem KeepsTwo.put {p q : Nat} {w : World} (hp : p < w.heap.size) (hq : q < w.heap.size) (W : World) (l : Nat) (o o' : Obj) (hl : w.heap.size ≤ l) (h : W.heap[l]? = some o) (h1 : o.isCells = false) (h2 : o.isWalk = false) : KeepsTwo p q W (W.putObj l o') :=
  KeepsTwo.below (belowK_b (w := w) (Nat.le_refl _) W l o o' hl h h1 h2) hp hq
theorem KeepsTwo.grown {p q : Nat} {A B : World} {row : Option Nat} (h : A.grownBy B row) (hp : p < A.heap.size) (hq : q < A.heap.size) (h1 : row ≠ some p) (h2 : row ≠ some q) : KeepsTwo p q A B := ⟨h.block p hp (fun e => h1 e.symm), h.block q hq (fun e => h2 e.symm)⟩
theorem KeepsTwo.set {p q c : Nat} (A : World) (o : Nat) (v : Value) (h1 : p ≠ c) (h2 : q ≠ c) : KeepsTwo p q A (A.setCell ⟨c, o, none⟩ v) := ⟨Below.heap_setCell _ _ _ _ (by simpa using h1), Below.heap_setCell _ _ _ _ (by simpa using h2)⟩
set_option maxRecDepth 100000 in
set_option maxHeartbeats 2000000 in
theorem back1_in (F : Fence) (n : Nat) (h8 : F.fn 101) (hro : F.round = none) (hn : 1 ≤ n) (l Bs b off len cap : Nat) (a : Option Addr) (f : Nat → Agg.At) (hreach : len ≤ 1000) (ha : len = 0 ∨ a = some ⟨b, off, none⟩) (J Jx : List Agg.At → World → Prop)
    (hY : ∀ pre x W, J pre W → pre.length < len → YieldAt F (n - 1) Tryz.prog l #[.int .i64 (x.1.1 : Int), .int .i64 x.1.2] W fun e W' =>
      (e = .returned (.bool true) ∧ J (pre ++ [x]) W' ∧ KeepsTwo Bs b W W') ∨ (e = .returned (.bool false) ∧ Jx (pre ++ [x]) W'))
    (W : World) (hBs : W.cell? ⟨Bs, 0, none⟩ = some (.slice a len cap)) (hcap : len ≤ cap) (hcap2 : cap ≤ 9223372036854775807) (hf : ∀ r k, r + 1 + k = len → (f k).1.1 = r ∧ W.cell? ⟨b, off + r, none⟩ = some (.int .i64 (f k).1.2)) (h0 : J [] W) :
    CallsIn F n Tryz.prog 101 #[.func (.yield l) #[] #[], .pointer (some ⟨Bs, 0, none⟩)] W fun e W' => (∃ v, e = .returned v) ∧
      ((∃ ys, ys = Agg.upto f len ∧ J ys W') ∨ (∃ pre, (∃ k, k ≤ len ∧ pre = Agg.upto f k) ∧ Jx pre W')) := by
  refine callsIn_of_wp Tryz.func101 rfl h8 ?_ hro
  simp only [Tryz.ntmps101, List.size_toArray, List.length_cons, List.length_nil, Nat.reduceAdd, Nat.reduceSub, Array.replicate_succ, Array.replicate_zero, List.push_toArray, List.append_toArray, List.nil_append, List.cons_append]
  gi_wp2
  gi_loopw [3] (fun i wr => ∃ k r : Nat, r + k = len ∧ i = .int .i64 ((r : Int) - 1) ∧ J (Agg.upto f k) wr ∧ KeepsTwo Bs b W wr)
    (fun i _ => ((intOf i) + 1).toNat)
  case atStart => exact ⟨0, len, by omega, by simp, h0, KeepsTwo.refl _ _ _⟩
  case round =>
    obtain ⟨k, r, hkr, rfl, hJs, hnx⟩ := hrel
    have hBs' : wr.cell? ⟨Bs, 0, none⟩ = some (.slice a len cap) := (World.cell?_of_block (a := ⟨Bs, 0, none⟩) hnx.1).trans hBs
    cases r with
    | zero =>
      have hkl : k = len := by omega
      subst hkl
      gi_wp2
      go_end0
      exact ⟨⟨_, rfl⟩, .inl ⟨_, rfl, hJs⟩⟩
    | succ r =>
      rcases ha with ha | rfl
      · omega
      · have e : (((r + 1 : Nat) : Int) - 1) = (r : Int) := by omega
        rw [e]
        obtain ⟨hi, hcell⟩ := hf r k (by omega)
        obtain ⟨fn, tmps, assign, body, hy, hR⟩ := hY _ (f k) wr hJs (by rw [Agg.upto_length]; omega)
        obtain ⟨x, hx⟩ : ∃ x, x = (f k).1.2 := ⟨_, rfl⟩
        rw [hi, ← hx] at hy
        have hcx : wr.cell? ⟨b, off + r, none⟩ = some (.int .i64 x) := by rw [hx]; exact (World.cell?_of_block (a := ⟨b, off + r, none⟩) hnx.2).trans hcell
        have hr0 : (0 : Int) ≤ (r : Int) := by omega
        have hrl : (r : Int) < (len : Int) := by omega
        clear hcell hi hx
        gi_wp2
        refine hR.mono ?_
        rintro e W3 (⟨rfl, hJ3, hk3⟩ | ⟨rfl, hJx3⟩)
        · gi_wp2
          go_roundw
          case rel => exact ⟨k + 1, r, by omega, rfl, by rw [Agg.upto_succ]; exact hJ3, hnx.trans hk3⟩
          case measure => simp [intOf]
        · gi_wp2
          refine bodyPost_ret (results_none rfl _ _ _) rfl ?_
          exact ⟨⟨_, rfl⟩, .inr ⟨_, ⟨k + 1, by omega, (Agg.upto_succ _ _).symm⟩, hJx3⟩⟩
set_option maxHeartbeats 1000000 in
theorem backward_in (F : Fence) (n : Nat) (h5 : F.fn 93) (hro : F.round = none) (a : Option Addr) (len cap : Nat) (w : World) :
    CallsIn F n Tryz.prog 93 #[.slice a len cap] w fun e w' => e = .returned (.func (.func 101) #[] #[.pointer (some ⟨w.heap.size, 0, none⟩)]) ∧ w' = w.alloc (.cells #[.slice a len cap] 26) := by
  refine callsIn_of_wp Tryz.func93 rfl h5 ?_ hro
  simp only [Tryz.ntmps93, List.size_toArray, List.length_cons, List.length_nil, Nat.reduceAdd, Nat.reduceSub, Array.replicate_succ, Array.replicate_zero, List.push_toArray, List.append_toArray, List.nil_append, List.cons_append]
  gi_wp2
  go_ret
  exact ⟨rfl, rfl⟩
def Agg.itemAt (zs : List Int) (h : Agg.itemsOk zs = true) (k : Nat) : Agg.At := ⟨(zs.length - 1 - k, zs[zs.length - 1 - k]?.getD 0), by
  by_cases hi : zs.length - 1 - k < zs.length
  · have := Agg.item_at h hi
    simpa [Agg.isItem] using this
  · simp [List.getElem?_eq_none (by omega : zs.length ≤ zs.length - 1 - k)]⟩
theorem back_stops (F : Fence) (n : Nat) (h8 : F.fn 101) (hro : F.round = none) (hn : 1 ≤ n) (Bs : Nat) (a : Option Addr) (len cap : Nat) (zs : List Int) (hz : Agg.itemsOk zs = true) (w : World) (hBs : Bs < w.heap.size)
    (hc : w.cell? ⟨Bs, 0, none⟩ = some (.slice a len cap)) (hI : Nums .i64 w a len cap zs) (b : Nat) (hb : ∀ x, a = some x → x.block = b) :
    SeqStopsK F n Tryz.prog 101 #[.pointer (some ⟨Bs, 0, none⟩)] (fun x : Agg.At => #[Value.int .i64 (x.1.1 : Int), Value.int .i64 x.1.2]) (KeepsTwo Bs b) (fun ys => ys = Agg.upto (Agg.itemAt zs hz) len)
      (fun pre => ∃ k, k ≤ len ∧ pre = Agg.upto (Agg.itemAt zs hz) k) len w := fun l J Jx W hW _ _ hY h0 => by
  have hc' := (hW.cell (p := ⟨Bs, 0, none⟩) hBs).trans hc
  obtain ⟨h1, h2, h3, h4⟩ := hI.below hW
  have hl60 := Agg.items_len hz
  unfold maxLen at h3
  rcases h4 with h4 | ⟨b', off, rfl, hlt, hcs⟩
  · exact back1_in F n h8 hro hn l Bs b 0 len cap a (Agg.itemAt zs hz) (by omega) (.inl h4) J Jx hY W hc' h2 (by omega) (fun r k e => by omega) h0
  · obtain rfl := hb _ rfl
    refine back1_in F n h8 hro hn l Bs b' off len cap _ (Agg.itemAt zs hz) (by omega) (.inr rfl) J Jx hY W hc' h2 (by omega) (fun r k e => ?_) h0
    have hr : zs.length - 1 - k = r := by omega
    refine ⟨hr, ?_⟩
    rw [hcs r (by omega)]
    show _ = some (Value.int .i64 (zs[zs.length - 1 - k]?.getD 0))
    rw [hr]
end Go.Proofs.YtolgclajlklmaaaGreat

namespace Go.Proofs.YtolgclajlklmaaaGreat
set_option linter.unusedSimpArgs false
set_option linter.unusedVariables false
open Go.RowKit Go.Shelf
attribute [local go_sem] Oper.semAt_some
def Agg.its (pre : List Agg.At) : List Int := pre.map fun x => x.1.2
def Agg.whole (k : Int) (pre : List Agg.At) : Agg.V := Agg.fold k (Agg.its pre).reverse
def Agg.fronts (k : Int) (pre : List Agg.At) : List Agg.V := (List.range pre.length).map fun i => Agg.fold k ((Agg.its pre).take (i + 1)).reverse
theorem Agg.its_ok (pre : List Agg.At) (h : pre.length ≤ 60) : Agg.itemsOk (Agg.its pre) = true :=
  Agg.items_of (by simpa [Agg.its] using h) (fun x hx => by
    simp only [Agg.its, List.mem_map] at hx
    obtain ⟨y, -, rfl⟩ := hx
    have := y.2
    simp [Agg.isItem, this.1, this.2])
theorem Agg.its_snoc (pre : List Agg.At) (x : Agg.At) : Agg.its (pre ++ [x]) = Agg.its pre ++ [x.1.2] := by simp [Agg.its]
theorem Agg.whole_ok {k : Int} (hk : Agg.isKind k = true) (pre : List Agg.At) (h : pre.length ≤ 60) : Agg.ok k (Agg.whole k pre) = true :=
  Agg.ok_fold_all hk (Agg.items_rev (Agg.its_ok pre h))
theorem Agg.whole_snoc {k : Int} (hk : Agg.isKind k = true) (pre : List Agg.At) (x : Agg.At) (h : pre.length < 60) : Agg.comb k (Agg.lift k x.1.2) (Agg.whole k pre) = Agg.whole k (pre ++ [x]) := by
  have hx : Agg.isItem x.1.2 = true := by have := x.2; simp [Agg.isItem, this.1, this.2]
  have e : (Agg.its (pre ++ [x])).reverse = [x.1.2] ++ (Agg.its pre).reverse := by rw [Agg.its_snoc]; simp
  unfold Agg.whole
  rw [e, Agg.fold_append hk _ _ (by rw [← e]; exact Agg.items_rev (Agg.its_ok _ (by simp; omega))), Agg.fold_one hk hx]
theorem Agg.fronts_len (k : Int) (pre : List Agg.At) : (Agg.fronts k pre).length = pre.length := by simp [Agg.fronts]
theorem Agg.fronts_snoc (k : Int) (pre : List Agg.At) (x : Agg.At) : Agg.fronts k (pre ++ [x]) = Agg.fronts k pre ++ [Agg.whole k (pre ++ [x])] := by
  have hl : (Agg.its pre).length = pre.length := by simp [Agg.its]
  unfold Agg.fronts
  rw [List.length_append, List.length_singleton, List.range_succ, List.map_append]
  congr 1
  · apply List.map_congr_left
    intro i hi
    have := List.mem_range.1 hi
    rw [Agg.its_snoc, List.take_append_of_le_length (by omega)]
  · simp only [List.map_cons, List.map_nil, Agg.whole]
    rw [List.take_of_length_le (by rw [Agg.its_snoc]; simp [hl])]
theorem Agg.its_all (zs : List Int) (hz : Agg.itemsOk zs = true) : Agg.its (Agg.upto (Agg.itemAt zs hz) zs.length) = zs.reverse := by
  apply List.ext_getElem
  · simp [Agg.its, Agg.upto]
  · intro i h1 h2
    have hi : i < zs.length := by simpa using h2
    simp only [Agg.its, Agg.upto, List.map_map, List.getElem_map, List.getElem_range, Function.comp, List.getElem_reverse]
    show zs[zs.length - 1 - i]?.getD 0 = _
    rw [List.getElem?_eq_getElem (by omega)]
    rfl
theorem Agg.whole_all (k : Int) (zs : List Int) (hz : Agg.itemsOk zs = true) : Agg.fronts k (Agg.upto (Agg.itemAt zs hz) zs.length) = Agg.sufs k zs zs.length := by
  unfold Agg.fronts Agg.sufs
  rw [Agg.upto_length]
  apply List.map_congr_left
  intro i hi
  have := List.mem_range.1 hi
  rw [Agg.its_all, List.take_reverse, List.reverse_reverse]
  rfl
theorem nums_of_row3 {w : World} {base m ic : Nat} {ia : Option Addr} {I : List Int} (h : w.ownsRow base 3 1 (.slice ia m ic) m (I.map (Value.int .i64))) : Nums .i64 w ia m ic I := by
  have h2 : OwnR w (min base w.heap.size) w.heap.size (.slice ia m ic) m I := ⟨owns_lower h (Nat.min_le_left _ _), Nat.min_le_right _ _, Nat.le_refl _, fun g hg => (h.lt g hg).2⟩
  obtain ⟨a', c', e, hv, -⟩ := h2.nums
  simp only [Value.slice.injEq, true_and] at e
  obtain ⟨rfl, rfl⟩ := e
  exact hv
structure FlipI (w : World) (base mb sb rb wb Bs : Nat) (T : TypeId) (ia : Option Addr) (m ic : Nat) (bx by' bz fl : Int) (I : List Int) (V : Agg.V) (c : Int) (n : Nat) (L : List Agg.V) (fv : Value) (W : World) : Prop where
  mo : W.heap[mb]? = some (.cells #[.iface T (.agg #[])] 121 (0, 0))
  s : Box7 W sb 42 fv (.slice ia m ic) (.int .i64 bx) (.int .i64 by') (.int .i64 bz) (.int .i64 fl) (.int .i64 c)
  r : Box7 W rb 42 (.slice none 0 0) (.slice none 0 0) (.int .i64 0) (.int .i64 0) (.int .i64 0) (.int .i64 0) (.int .i64 0)
  v : Box W wb 40 V.x V.y V.z
  f : W.ownsRow base 40 3 fv n (valRow L)
  i : W.ownsRow base 3 1 (.slice ia m ic) m (I.map (Value.int .i64))
  q : W.heap[Bs]? = some (.cells #[.slice ia m ic] 26 (0, 0))
  b : Below base w W
  a : fv.ownBlock ≠ some wb
theorem FlipI.kept {w : World} {base mb sb rb wb Bs : Nat} {T : TypeId} {ia : Option Addr} {m ic : Nat} {bx by' bz fl : Int} {I : List Int} {V : Agg.V} {c : Int} {n : Nat} {L : List Agg.V} {fv : Value} {X Y : World} {row : Option Nat}
    (h : FlipI w base mb sb rb wb Bs T ia m ic bx by' bz fl I V c n L fv X) (hw : base ≤ w.heap.size) (hg : X.grownBy Y row) (n1 : row ≠ some mb) (n2 : row ≠ some sb) (n3 : row ≠ some rb) (n4 : row ≠ some wb) (n5 : row ≠ some Bs)
    (n6 : fv.ownBlock = none ∨ fv.ownBlock ≠ row) (n7 : (Value.slice ia m ic).ownBlock = none ∨ (Value.slice ia m ic).ownBlock ≠ row) (n8 : ∀ r, row = some r → base ≤ r) :
    FlipI w base mb sb rb wb Bs T ia m ic bx by' bz fl I V c n L fv Y :=
  ⟨(hg.block mb (Array.getElem?_eq_some_iff.1 h.mo).1 (fun e => n1 e.symm)).trans h.mo, h.s.grown hg n2, h.r.grown hg n3, h.v.grew hg n4, h.f.kept hg n6, h.i.kept hg n7, (hg.block Bs (Array.getElem?_eq_some_iff.1 h.q).1 (fun e => n5 e.symm)).trans h.q, h.b.grown hg (Nat.le_trans hw h.b.size) n8, h.a⟩
theorem FlipI.turn {w : World} {base mb sb rb wb Bs : Nat} {T : TypeId} {ia : Option Addr} {m ic : Nat} {bx by' bz fl : Int} {I : List Int} {V : Agg.V} {c : Int} {n : Nat} {L : List Agg.V} {fv : Value} {X Y : World} {row : Option Nat} {B : Nat}
    (h : FlipI w base mb sb rb wb Bs T ia m ic bx by' bz fl I V c n L fv X) (hw : base ≤ w.heap.size) (hB : base ≤ B) (hg : X.grownBy Y row) (hr : ∀ r, row = some r → B ≤ r ∧ ∃ o : Obj, X.heap[r]? = some o ∧ o.isCells = false) :
    FlipI w base mb sb rb wb Bs T ia m ic bx by' bz fl I V c n L fv Y := by
  have ne : ∀ (p : Nat) (cs : Array Value) (t : TypeId) (z : Nat × Nat), X.heap[p]? = some (.cells cs t z) → row ≠ some p := by
    intro p cs t z hp e
    obtain ⟨-, o, ho, hc⟩ := hr p e
    rw [hp] at ho
    cases ho
    cases hc
  have own : ∀ {e sz k : Nat} {v : Value} {xs : List Value}, X.ownsRow base e sz v k xs → v.ownBlock = none ∨ v.ownBlock ≠ row := by
    intro e sz k v xs ho
    cases hv : v.ownBlock with
    | none => exact .inl rfl
    | some g =>
      obtain ⟨cur, hc⟩ := row_block ho hv
      exact .inr (fun e2 => ne g _ _ _ hc e2.symm)
  exact h.kept hw hg (ne _ _ _ _ h.mo) (ne _ _ _ _ h.s) (ne _ _ _ _ h.r) (ne _ _ _ _ h.v) (ne _ _ _ _ h.q) (own h.f) (own h.i) (fun r e => Nat.le_trans hB (hr r e).1)
theorem FlipI.call {w : World} {base mb sb rb wb Bs : Nat} {T : TypeId} {ia : Option Addr} {m ic : Nat} {bx by' bz fl : Int} {I : List Int} {V : Agg.V} {c : Int} {n : Nat} {L : List Agg.V} {fv : Value} {X Y : World}
    (h : FlipI w base mb sb rb wb Bs T ia m ic bx by' bz fl I V c n L fv X) (hw : base ≤ w.heap.size) (hb : Below X.heap.size X Y) : FlipI w base mb sb rb wb Bs T ia m ic bx by' bz fl I V c n L fv Y :=
  h.kept hw (row := none) (Below.grownNone hb none) (by simp) (by simp) (by simp) (by simp) (by simp) (Classical.em _) (Classical.em _) (fun r e => by cases e)
theorem FlipI.drew {w : World} {base mb sb rb wb Bs : Nat} {T : TypeId} {ia : Option Addr} {m ic : Nat} {bx by' bz fl : Int} {I : List Int} {V : Agg.V} {c : Int} {n : Nat} {L : List Agg.V} {fv : Value} {X : World}
    (h : FlipI w base mb sb rb wb Bs T ia m ic bx by' bz fl I V c n L fv X) : FlipI w base mb sb rb wb Bs T ia m ic bx by' bz fl I V c n L fv X.drew := ⟨h.mo, h.s, h.r, h.v, h.f, h.i, h.q, h.b.drew, h.a⟩
theorem grown_set3 (w : World) (b : Nat) (u0 u1 u2 : Value) : w.grownBy (((w.setCell ⟨b, 0, none⟩ u0).setCell ⟨b, 1, none⟩ u1).setCell ⟨b, 2, none⟩ u2) (some b) :=
  ⟨rfl, rfl, rfl, by simp [World.setCell], fun k hk hne => by
    have e : k ≠ b := fun e => hne (by rw [e])
    rw [Below.heap_setCell _ _ _ _ (by simpa using e), Below.heap_setCell _ _ _ _ (by simpa using e), Below.heap_setCell _ _ _ _ (by simpa using e)]⟩
theorem cells_ne {W : World} {p q : Nat} {c d : Array Value} {s t : TypeId} {z y : Nat × Nat} (h : W.heap[p]? = some (.cells c s z)) (k : W.heap[q]? = some (.cells d t y)) (n : s ≠ t) : p ≠ q := by
  rintro rfl
  rw [h] at k
  simp only [Option.some.injEq, Obj.cells.injEq] at k
  exact n k.2.1
theorem FlipI.setv {w : World} {base mb sb rb wb Bs : Nat} {T : TypeId} {ia : Option Addr} {m ic : Nat} {bx by' bz fl : Int} {I : List Int} {V : Agg.V} {c : Int} {n : Nat} {L : List Agg.V} {fv : Value} {X : World}
    (h : FlipI w base mb sb rb wb Bs T ia m ic bx by' bz fl I V c n L fv X) (hw : base ≤ w.heap.size) (hwb : base ≤ wb) (x y z : Int) :
    FlipI w base mb sb rb wb Bs T ia m ic bx by' bz fl I ⟨x, y, z⟩ c n L fv (((X.setCell ⟨wb, 0, none⟩ (.int .i64 x)).setCell ⟨wb, 1, none⟩ (.int .i64 y)).setCell ⟨wb, 2, none⟩ (.int .i64 z)) := by
  have hg := grown_set3 X wb (.int .i64 x) (.int .i64 y) (.int .i64 z)
  have n1 : mb ≠ wb := cells_ne h.mo h.v (by decide)
  have n2 : sb ≠ wb := cells_ne h.s h.v (by decide)
  have n3 : rb ≠ wb := cells_ne h.r h.v (by decide)
  have n5 : Bs ≠ wb := cells_ne h.q h.v (by decide)
  refine ⟨(hg.block mb (Array.getElem?_eq_some_iff.1 h.mo).1 (fun e => n1 (Option.some.inj e))).trans h.mo, h.s.grown hg (fun e => n2 (Option.some.inj e).symm), h.r.grown hg (fun e => n3 (Option.some.inj e).symm), h.v.set _ _ _, h.f.kept hg (.inr h.a), h.i.kept hg ?_, (hg.block Bs (Array.getElem?_eq_some_iff.1 h.q).1 (fun e => n5 (Option.some.inj e))).trans h.q, h.b.grown hg (Nat.le_trans hw h.b.size) (fun r e => by cases e; exact hwb), h.a⟩
  cases hv : (Value.slice ia m ic).ownBlock with
  | none => exact .inl rfl
  | some g =>
    obtain ⟨cur, hc⟩ := row_block h.i hv
    exact .inr (fun e => cells_ne hc h.v (by decide) (Option.some.inj e))
theorem grown_set1_ (w : World) (b o : Nat) (u : Value) : w.grownBy (w.setCell ⟨b, o, none⟩ u) (some b) :=
  ⟨rfl, rfl, rfl, by simp [World.setCell], fun k hk hne => Below.heap_setCell _ _ _ _ (by simpa using fun e => hne (by rw [e]))⟩
theorem FlipI.apart {w : World} {base mb sb rb wb Bs : Nat} {T : TypeId} {ia : Option Addr} {m ic : Nat} {bx by' bz fl : Int} {I : List Int} {V : Agg.V} {c : Int} {n : Nat} {L : List Agg.V} {fv : Value} {X : World}
    (h : FlipI w base mb sb rb wb Bs T ia m ic bx by' bz fl I V c n L fv X) : fv.ownBlock ≠ some mb ∧ fv.ownBlock ≠ some sb ∧ fv.ownBlock ≠ some rb ∧ fv.ownBlock ≠ some Bs ∧ ∀ g, (Value.slice ia m ic).ownBlock = some g → fv.ownBlock ≠ some g := by
  refine ⟨fun e => ?_, fun e => ?_, fun e => ?_, fun e => ?_, fun g hg e => ?_⟩ <;> obtain ⟨cur, hc⟩ := row_block h.f e
  · exact cells_ne hc h.mo (by decide) rfl
  · exact cells_ne hc h.s (by decide) rfl
  · exact cells_ne hc h.r (by decide) rfl
  · exact cells_ne hc h.q (by decide) rfl
  · obtain ⟨cur', hc'⟩ := row_block h.i hg
    exact cells_ne hc hc' (by decide) rfl
theorem FlipI.push {w : World} {base mb sb rb wb Bs : Nat} {T : TypeId} {ia : Option Addr} {m ic : Nat} {bx by' bz fl : Int} {I : List Int} {V : Agg.V} {c : Int} {n : Nat} {L : List Agg.V} {fv v' : Value} {X Y : World} {o : Obj}
    (h : FlipI w base mb sb rb wb Bs T ia m ic bx by' bz fl I V c n L fv X) (hw : base ≤ w.heap.size) (hsb : base ≤ sb) (hrs : rb ≠ sb) (hg : (X.alloc o).grownBy Y fv.ownBlock) (hown : Y.ownsRow base 40 3 v' (n + 1) (valRow (L ++ [V])))
    (hat : v'.ownBlock = fv.ownBlock ∨ v'.ownBlock = some (X.alloc o).heap.size) (c' : Int) :
    FlipI w base mb sb rb wb Bs T ia m ic bx by' bz fl I V c' (n + 1) (L ++ [V]) v' ((Y.setCell ⟨sb, 0, none⟩ v').setCell ⟨sb, 6, none⟩ (.int .i64 c')) ∧ Box7 Y sb 42 fv (.slice ia m ic) (.int .i64 bx) (.int .i64 by') (.int .i64 bz) (.int .i64 fl) (.int .i64 c) := by
  have h1 := h.call hw ((Below.refl X.heap.size X).alloc (Nat.le_refl _) o)
  obtain ⟨a1, a2, a3, a4, a5⟩ := h1.apart
  have hs : Box7 Y sb 42 fv (.slice ia m ic) (.int .i64 bx) (.int .i64 by') (.int .i64 bz) (.int .i64 fl) (.int .i64 c) := h1.s.grown hg a2
  refine ⟨?_, hs⟩
  have n1 : mb ≠ sb := cells_ne h.mo h.s (by decide)
  have n5 : Bs ≠ sb := cells_ne h.q h.s (by decide)
  have n4 : sb ≠ wb := cells_ne h.s h.v (by decide)
  have hS : Y.grownBy ((Y.setCell ⟨sb, 0, none⟩ v').setCell ⟨sb, 6, none⟩ (.int .i64 c')) (some sb) := ⟨rfl, rfl, rfl, by simp [World.setCell], fun k hk hne => ((grown_set1_ _ sb 6 _).block k (by simpa [World.setCell] using hk) hne).trans ((grown_set1_ _ sb 0 _).block k hk hne)⟩
  have hY := h1.b.grown hg (Nat.le_trans hw h1.b.size) (fun r e => (h1.f.lt r e).1)
  have own : ∀ {e sz k : Nat} {v : Value} {xs : List Value}, Y.ownsRow base e sz v k xs → e ≠ 42 → v.ownBlock = none ∨ v.ownBlock ≠ some sb := by
    intro e sz k v xs ho hne
    cases hv : v.ownBlock with
    | none => exact .inl rfl
    | some g =>
      obtain ⟨cur, hc⟩ := row_block ho hv
      exact .inr (fun e => cells_ne hc hs hne (Option.some.inj e))
  have hi := h1.i.kept hg (by
    cases hv : (Value.slice ia m ic).ownBlock with
    | none => exact .inl rfl
    | some g => exact .inr (fun e => a5 g hv e.symm))
  refine ⟨?_, (hs.set0 v').set6 _, ?_, (h1.v.grew hg h1.a).grew hS (fun e => n4 (Option.some.inj e)), hown.kept hS (own hown (by decide)), hi.kept hS (own hi (by decide)), ?_, hY.grown hS (Nat.le_trans hw hY.size) (fun r e => by cases e; exact hsb), ?_⟩
  · have hm := (hg.block mb (Array.getElem?_eq_some_iff.1 h1.mo).1 (fun e => a1 e.symm)).trans h1.mo
    exact (hS.block mb (Array.getElem?_eq_some_iff.1 hm).1 (fun e => n1 (Option.some.inj e))).trans hm
  · exact (h1.r.grown hg a3).grown hS (fun e => by
      exact hrs (Option.some.inj e).symm)
  · have hm := (hg.block Bs (Array.getElem?_eq_some_iff.1 h1.q).1 (fun e => a4 e.symm)).trans h1.q
    exact (hS.block Bs (Array.getElem?_eq_some_iff.1 hm).1 (fun e => n5 (Option.some.inj e))).trans hm
  · rcases hat with e | e
    · rw [e]; exact h.a
    · rw [e]; intro e2
      have := h1.v.lt
      have := Option.some.inj e2
      omega
def FlipK (p q B : Nat) (W X : World) : Prop := KeepsTwo p q W X ∧ KeepsFrom B W X
theorem FlipK.refl (p q B : Nat) (W : World) : FlipK p q B W W := ⟨KeepsTwo.refl _ _ _, KeepsFrom.refl _ _⟩
theorem FlipK.grow {p q B : Nat} {W X Y : World} {row : Option Nat} (h : FlipK p q B W X) (hg : X.grownBy Y row) (hp : p < W.heap.size) (hq : q < W.heap.size) (n1 : row ≠ some p) (n2 : row ≠ some q)
    (hc : ∀ r, row = some r → ∃ cs t z, X.heap[r]? = some (.cells cs t z)) : FlipK p q B W Y :=
  ⟨h.1.trans (KeepsTwo.grown hg (Nat.lt_of_lt_of_le hp h.2.size) (Nat.lt_of_lt_of_le hq h.2.size) n1 n2), h.2.trans ⟨hg.size, fun k o hB hk ho => by
    by_cases e : row = some k
    · obtain ⟨cs, t, z, hr⟩ := hc k e
      rw [hr] at hk
      cases hk
      cases ho
    · rw [hg.block k (Array.getElem?_eq_some_iff.1 hk).1 (fun e2 => e e2.symm)]; exact hk⟩⟩
theorem FlipK.call {p q B : Nat} {W X Y : World} (h : FlipK p q B W X) (hb : Below X.heap.size X Y) (hp : p < W.heap.size) (hq : q < W.heap.size) : FlipK p q B W Y :=
  h.grow (row := none) (Below.grownNone hb none) hp hq (by simp) (by simp) (fun r e => by cases e)
theorem FlipK.drew {p q B : Nat} {W X : World} (h : FlipK p q B W X) : FlipK p q B W X.drew := ⟨h.1, ⟨h.2.size, h.2.same⟩⟩
theorem FlipK.setv {p q B : Nat} {W w : World} {base mb sb rb wb Bs : Nat} {T : TypeId} {ia : Option Addr} {m ic : Nat} {bx by' bz fl : Int} {I : List Int} {V : Agg.V} {c : Int} {n : Nat} {L : List Agg.V} {fv : Value} {X : World}
    (h : FlipK p q B W X) (H : FlipI w base mb sb rb wb Bs T ia m ic bx by' bz fl I V c n L fv X) (hp : p < W.heap.size) (hq : q < W.heap.size) (n1 : p ≠ wb) (n2 : q ≠ wb) (u0 u1 u2 : Value) :
    FlipK p q B W (((X.setCell ⟨wb, 0, none⟩ u0).setCell ⟨wb, 1, none⟩ u1).setCell ⟨wb, 2, none⟩ u2) :=
  h.grow (grown_set3 X wb u0 u1 u2) hp hq (fun e => n1 (Option.some.inj e).symm) (fun e => n2 (Option.some.inj e).symm) (fun r e => by cases e; exact ⟨_, _, _, H.v⟩)
theorem FlipK.push {p q B : Nat} {W w : World} {base mb sb rb wb Bs : Nat} {T : TypeId} {ia : Option Addr} {m ic : Nat} {bx by' bz fl : Int} {I : List Int} {V : Agg.V} {c : Int} {n : Nat} {L : List Agg.V} {fv : Value} {X Y : World} {o : Obj}
    (h : FlipK p q B W X) (H : FlipI w base mb sb rb wb Bs T ia m ic bx by' bz fl I V c n L fv X) (hg : (X.alloc o).grownBy Y fv.ownBlock) (hp : p < W.heap.size) (hq : q < W.heap.size) (n1 : p ≠ sb) (n2 : q ≠ sb) (m1 : fv.ownBlock ≠ some p) (m2 : fv.ownBlock ≠ some q) (u v : Value) :
    FlipK p q B W ((Y.setCell ⟨sb, 0, none⟩ u).setCell ⟨sb, 6, none⟩ v) := by
  have hb : Below X.heap.size X (X.alloc o) := (Below.refl X.heap.size X).alloc (Nat.le_refl _) o
  have h1 := h.call hb hp hq
  have hs0 : (X.alloc o).heap[sb]? = _ := (hb.block sb (Array.getElem?_eq_some_iff.1 H.s).1).trans H.s
  have h2 := h1.grow hg hp hq m1 m2 (fun r e => by
    obtain ⟨cur, hc⟩ := row_block H.f e
    exact ⟨_, _, _, (hb.block r (Array.getElem?_eq_some_iff.1 hc).1).trans hc⟩)
  have hs1 : Y.heap[sb]? = _ := (hg.block sb (Array.getElem?_eq_some_iff.1 hs0).1 (fun e => H.apart.2.1 e.symm)).trans hs0
  have h3 := h2.grow (grown_set1_ Y sb 0 u) hp hq (fun e => n1 (Option.some.inj e).symm) (fun e => n2 (Option.some.inj e).symm) (fun r e => by cases e; exact ⟨_, _, _, hs1⟩)
  exact h3.grow (grown_set1_ _ sb 6 v) hp hq (fun e => n1 (Option.some.inj e).symm) (fun e => n2 (Option.some.inj e).symm) (fun r e => by cases e; exact ⟨_, _, _, (Box7.set0 hs1 u)⟩)
end Go.Proofs.YtolgclajlklmaaaGreat

namespace Go.Proofs.YtolgclajlklmaaaGreat
set_option linter.unusedSimpArgs false
set_option linter.unusedVariables false
def noDefer (ops : Array Oper) : Bool := ops.all fun o => match o.op with | .defer _ => false | _ => true
theorem noDefer_at {ops : Array Oper} (h : noDefer ops = true) {i : Nat} {o : Oper} (ho : ops[i]? = some o) : ∀ c, o.op ≠ .defer c := by
  intro c e
  have h1 := Array.all_eq_true_iff_forall_mem.1 h o (Array.mem_of_getElem? ho)
  rw [e] at h1
  cases h1
theorem wpOpIn_round {l n : Nat} {P : Program} {ops : Array Oper} {Q : Exit → Act → World → Prop} {i : Nat} {K : Act → World → Prop} {a : Act} {w : World} (hn : noDefer ops = true) (hQ : ¬ LetsOut Q)
    (h : wpOp P ops Q i K a w) : wpOpIn (Fence.wide.inRound l) n P ops Q i K a w := by
  unfold wpOp at h
  unfold wpOpIn
  cases ho : ops[i]? with
  | none => simpa [ho] using h
  | some o =>
    simp only [ho] at h ⊢
    split
    · rename_i hw
      simp only [hw, if_true] at h
      rcases h with h | ⟨-, h⟩
      · refine ⟨fun _ _ => trivial, ?_⟩
        rw [Oper.semAt_eq _ _ _ (noDefer_at hn ho)]
        unfold Oper.wp at h
        generalize (execOp a.eval o).run P w = r at *
        cases r with
        | ok x w' =>
          cases x <;> simp only [Oper.upon, Oper.uponIn] at h ⊢
          case value u => exact h
          case skip => exact h
          case defer d => exact h
          case enter f args => exact ⟨(fun e => by cases e), CallsIn.inRound l (callsIn_wide.2 h)⟩
          case row row args =>
            refine ⟨(fun e => by cases e), fun c cs _ => ?_⟩
            obtain ⟨v, w2, hR, hs⟩ := h c cs
            exact ⟨v, w2, hR, stepsIn_wide.2 hs⟩
        | halt x w' =>
          cases x <;> simp only [Oper.upon, Oper.uponIn] at h ⊢
          case panic u => exact h
      · exact absurd h hQ
    · rename_i hw
      simp only [hw] at h
      exact ⟨fun _ _ => trivial, h⟩
theorem wpAnyIn_round {l n : Nat} {P : Program} {md : Region.Mode} {ops : Array Oper} {Q : Exit → Act → World → Prop} (hn : noDefer ops = true) (hQ : ¬ LetsOut Q) :
    ∀ (fuel : Nat) (listed : Array Bool) (a : Act) (w : World), wpAny P md ops Q fuel listed a w → wpAnyIn (Fence.wide.inRound l) n P md ops Q fuel listed a w
  | 0, _, _, _, h => h
  | fuel + 1, _, _, _, h => ⟨h.1, fun i hi => wpOpIn_round hn hQ (wpOp_mono (fun a' w' h' => wpAnyIn_round hn hQ fuel _ a' w' h') (h.2 i hi))⟩
theorem region_round {l n : Nat} {P : Program} {id : Nat} {ops : Array Oper} {K : Act → World → Prop} {Q' : Exit → Act → World → Prop} {a : Act} {w : World} (S : World → Prop) (hm : P.follows .mixedOrders = true) (hn : noDefer ops = true) (hS : S w.drew)
    (h : S w.drew → wpAnyH P .any ops (fun e a w => e = .normal ∧ K a w) S ops.size (Array.replicate ops.size false) a w.drew) : (Code.region id ops true).wpIn (Fence.wide.inRound l) n P (Exit.then K Q') a w := by
  refine wpIn_mono (Q := fun e a w => e = .normal ∧ K a w) (wpIn_region_any hm (wpAnyIn_round hn ?_ _ _ _ _ (wpAny_of_held _ _ _ _ (h hS)))) ?_
  · intro hL
    obtain ⟨_, _, h, _⟩ := hL
    cases h
  · rintro e a w ⟨rfl, hk⟩
    exact hk
end Go.Proofs.YtolgclajlklmaaaGreat

namespace Go.Proofs.YtolgclajlklmaaaGreat
set_option linter.unusedSimpArgs false
set_option linter.unusedVariables false
open Go.RowKit Go.Shelf
attribute [local go_sem] Oper.semAt_some
theorem own_slice {w : World} {base e size n : Nat} {v : Value} {xs : List Value} (h : w.ownsRow base e size v n xs) : ∃ a k c, v = .slice a k c := by
  rcases h.2 with ⟨rfl, -⟩ | ⟨g, c, cur, rfl, -⟩
  · exact ⟨_, _, _, rfl⟩
  · exact ⟨_, _, _, rfl⟩
set_option maxRecDepth 100000 in
set_option maxHeartbeats 8000000 in
theorem flip_any {k : Int} {T fu fl fc : Nat} (hk : Agg.isKind k = true) (K : KindAt k T fu fl fc) (base : Nat) (fv : Value) (ia : Option Addr) (m ic : Nat) (bx by' bz fp co : Int) (I : List Int) (w : World)
    (hb : base ≤ w.heap.size) (hf : w.ownsRow base 40 3 fv 0 (valRow [])) (hI : w.ownsRow base 3 1 (.slice ia m ic) m (I.map (Value.int .i64))) (hi : Agg.itemsOk I = true) (h0 : 0 ≤ co ∧ co ≤ 1000000) (h1 : 0 ≤ fp ∧ fp ≤ 1000000) :
    Calls Tryz.prog 84 #[.iface T (.agg #[]), .agg #[fv, .slice ia m ic, .int .i64 bx, .int .i64 by', .int .i64 bz, .int .i64 fp, .int .i64 co]] w fun e w' =>
      ∃ fv', e = .returned (.agg #[fv', .slice none 0 0, .int .i64 (Agg.unit k).x, .int .i64 (Agg.unit k).y, .int .i64 (Agg.unit k).z, .int .i64 (fp + 1), .int .i64 (co + m)]) ∧ w'.ownsRow base 40 3 fv' m (valRow (Agg.sufs k I I.length)) ∧ Below base w w' := by
  have hmu := K.mu
  have hml := K.ml
  have hmc := K.mc
  have hau := K.au
  have hal := K.al
  have hac := K.ac
  have hcu := K.cu
  have hcl := K.cl
  have hcc := K.cc
  obtain ⟨fa, fn, fcap, rfl⟩ : ∃ a n c, fv = .slice a n c := by
    rcases hf.2 with ⟨rfl, -⟩ | ⟨g, c, cur, rfl, -⟩
    · exact ⟨_, _, _, rfl⟩
    · exact ⟨_, _, _, rfl⟩
  have HF := Lib.hid hf
  have HI := Lib.hid hI
  clear hf hI
  refine (callsIn_wide (n := 5)).1 ?_
  refine callsIn_of_wp_marks Tryz.func84 rfl trivial ?_ rfl
  simp only [Tryz.ntmps84, List.size_toArray, List.length_cons, List.length_nil, Nat.reduceAdd, Nat.reduceSub, Array.replicate_succ, Array.replicate_zero, List.push_toArray, List.append_toArray, List.nil_append, List.cons_append]
  obtain ⟨W, hW⟩ : ∃ W, W = (((w.alloc (.cells #[.iface T (.agg #[])] 121)).alloc (.cells #[.slice fa fn fcap, .slice ia m ic, .int .i64 bx, .int .i64 by', .int .i64 bz, .int .i64 fp, .int .i64 co] 42)).alloc (.cells #[.slice none 0 0, .slice none 0 0, .int .i64 0, .int .i64 0, .int .i64 0, .int .i64 0, .int .i64 0] 42)) := ⟨_, rfl⟩
  have hmo : W.heap[w.heap.size]? = some (.cells #[.iface T (.agg #[])] 121 (0, 0)) := by
    rw [hW]; exact (Below.heap_alloc _ _ w.heap.size (by simp; omega)).trans ((Below.heap_alloc _ _ w.heap.size (by simp)).trans (heap_alloc_new w _))
  have hs : Box7 W (w.heap.size + 1) 42 (.slice fa fn fcap) (.slice ia m ic) (.int .i64 bx) (.int .i64 by') (.int .i64 bz) (.int .i64 fp) (.int .i64 co) := by
    rw [hW]; exact (Box7.new1 _ _ _ _ _ _ _ _ (by simp)).alloc _
  have hr : Box7 W (w.heap.size + 1 + 1) 42 (.slice none 0 0) (.slice none 0 0) (.int .i64 0) (.int .i64 0) (.int .i64 0) (.int .i64 0) (.int .i64 0) := by
    rw [hW]; exact Box7.new1 _ _ _ _ _ _ _ _ (by simp)
  have hB : Below w.heap.size w W := by rw [hW]; exact (((Below.refl _ w).alloc (Nat.le_refl _) _).alloc (by simp) _).alloc (by simp; omega) _
  have HMO := Lib.hid hmo
  have HS := Lib.hid hs
  have HR := Lib.hid hr
  have HB := Lib.hid hB
  have hWs : W.heap.size = w.heap.size + 3 := by rw [hW]; simp
  clear hmo hs hr hB
  gi_wp2_with fail
  rw [← hW]
  clear hW
  refine ⟨trivial, ?_⟩
  refine (callsIn_wide.2 (K.unit W)).mono ?_
  rintro e w1 ⟨rfl, hb1⟩
  have hs1 := hb1.size
  obtain ⟨⟨ux, uy, uz⟩, hu⟩ : ∃ u, u = Agg.unit k := ⟨_, rfl⟩
  rw [← hu]
  have HUV := Lib.hid hu
  have HMO1 := Lib.hid ((hb1.block w.heap.size (by omega)).trans HMO.out)
  have HS1 := Lib.hid (HS.out.call hb1)
  have HR1 := Lib.hid (HR.out.call hb1)
  have HB1 := Lib.hid (HB.out.trans (hb1.mono (by omega)))
  clear hb1 HMO HS HR HB hu
  obtain ⟨q0, q1, q2, q3, q4, q5, q6⟩ := HS1.out.cells
  have hlt1 : w.heap.size + 1 < w1.heap.size := by omega
  gi_wp2_with fail
  refine ⟨trivial, ?_⟩
  refine (backward_in Fence.wide _ trivial rfl _ _ _ _).mono ?_
  rintro e w2 ⟨rfl, rfl⟩
  obtain ⟨W2, hW2⟩ : ∃ W2, W2 = (w1.alloc (.cells #[.int .i64 ux, .int .i64 uy, .int .i64 uz] 40)).alloc (.cells #[.slice ia m ic] 26) := ⟨_, rfl⟩
  have hb2 : Below w1.heap.size w1 W2 := by rw [hW2]; exact ((Below.refl _ _).alloc (Nat.le_refl _) _).alloc (by simp) _
  have hBs : W2.heap[w1.heap.size + 1]? = some (.cells #[.slice ia m ic] 26 (0, 0)) := by
    rw [hW2]; have := heap_alloc_new (w1.alloc (.cells #[.int .i64 ux, .int .i64 uy, .int .i64 uz] 40)) (.cells #[.slice ia m ic] 26); simpa using this
  have hwb : Box W2 w1.heap.size 40 ux uy uz := by rw [hW2]; exact (Box.new w1 _ _ _ _).alloc _
  have hW2s : W2.heap.size = w1.heap.size + 1 + 1 := by rw [hW2]; simp
  have hbw : Below w.heap.size w W2 := HB1.out.trans (hb2.mono (by omega))
  have hst : FlipI w base w.heap.size (w.heap.size + 1) (w.heap.size + 1 + 1) w1.heap.size (w1.heap.size + 1) T ia m ic bx by' bz fp I ⟨ux, uy, uz⟩ co 0 [] (.slice fa fn fcap) W2 :=
    ⟨(hb2.block _ (by omega)).trans HMO1.out, HS1.out.call hb2, HR1.out.call hb2, hwb, HF.out.kept (Below.grownNone hbw none) (Classical.em _), HI.out.kept (Below.grownNone hbw none) (Classical.em _), hBs, hbw.mono hb, fun e => by obtain ⟨cur, hc⟩ := row_block HF.out e; have := (Array.getElem?_eq_some_iff.1 hc).1; omega⟩
  have HST := Lib.hid hst
  obtain ⟨bI, hbI, hbl, hbs, hbv, hbn⟩ : ∃ bI, (∀ x, ia = some x → x.block = bI) ∧ bI < W2.heap.size ∧ bI ≠ w.heap.size + 1 ∧ bI ≠ w1.heap.size ∧ (ia = none → bI = w.heap.size) := by
    cases hia : ia with
    | none => exact ⟨w.heap.size, by simp, by omega, by omega, by omega, fun _ => rfl⟩
    | some x =>
      have hv : (Value.slice ia m ic).ownBlock = some x.block := by rw [hia]; rfl
      obtain ⟨cur, hc⟩ := row_block HST.out.i hv
      refine ⟨x.block, by simp, (Array.getElem?_eq_some_iff.1 hc).1, fun e => ?_, fun e => ?_, fun e => by cases e⟩
      · have h2 : W2.heap[w.heap.size + 1]? = _ := HST.out.s
        rw [← e, hc] at h2
        simp only [Option.some.injEq, Obj.cells.injEq] at h2
        exact absurd h2.2.1 (by decide)
      · have h2 : W2.heap[w1.heap.size]? = _ := HST.out.v
        rw [← e, hc] at h2
        simp only [Option.some.injEq, Obj.cells.injEq] at h2
        exact absurd h2.2.1 (by decide)
  gi_wp2_with fail
  rw [← hW2]
  clear hW2 HMO1 HS1 HR1 HB1 q0 q1 q2 q3 q4 q5 q6 hst hb2 hwb hbw
  have hNI := nums_of_row3 HST.out.i
  have hm60 : m ≤ 60 := by have := hNI.1; have := Agg.items_len hi; omega
  have HML := Lib.hid hNI.1.symm
  refine wpIn_rangeFunc_ownG rfl (by omega) (gf := 101) (lb := #[.pointer (some ⟨w1.heap.size + 1, 0, none⟩)]) rfl trivial (enters_of Tryz.func101 (by kernel_rfl) rfl)
    (back_stops Fence.wide _ trivial rfl (by omega) (w1.heap.size + 1) ia m ic I hi W2 (by omega) (by simp [World.cell?, hBs]) hNI bI hbI) (fun h k => KeepsTwo.trans h k) (fun W l o o' h1 h2 h3 h4 => KeepsTwo.put (w := W2) (by omega) hbl W l o o' h1 h2 h3 h4) (Below.refl _ _) (fun _ => rfl)
    (fun pre W' => ∃ fv, FlipI w base w.heap.size (w.heap.size + 1) (w.heap.size + 1 + 1) w1.heap.size (w1.heap.size + 1) T ia m ic bx by' bz fp I (Agg.whole k pre) (co + pre.length) pre.length (Agg.fronts k pre) fv W')
    (fun _ _ _ => False)
    (fun pre X Y row hs hg hr => by obtain ⟨fv, h⟩ := hs; exact ⟨fv, h.turn hb (by omega) hg hr⟩)
    (fun _ _ _ _ _ hs _ _ => hs)
    ⟨_, by have := HST.out; rw [HUV.out] at this; simpa [Agg.whole, Agg.its, Agg.fold_nil, Agg.fronts, valRow] using this⟩
    (fun x => { tmps := #[.iface T (.agg #[]), .agg #[.slice fa fn fcap, .slice ia m ic, .int .i64 bx, .int .i64 by', .int .i64 bz, .int .i64 fp, .int .i64 co], .pointer (some ⟨w.heap.size, 0, none⟩), .pointer (some ⟨w.heap.size + 1, 0, none⟩), .pointer (some ⟨w.heap.size + 1 + 1, 0, none⟩), .pointer (some ⟨w1.heap.size, 0, none⟩), undef, .int .i64 x.1.2, .iface T (.agg #[]), .agg #[.int .i64 ux, .int .i64 uy, .int .i64 uz], .pointer (some ⟨w.heap.size + 1, 1, none⟩), .slice ia m ic, .func (.func 101) #[] #[.pointer (some ⟨w1.heap.size + 1, 0, none⟩)], .int .i64 (x.1.1 : Int), .int .i64 x.1.2, undef, undef, undef, undef, undef, undef, undef, undef, undef, undef, undef, undef, undef, undef, undef, undef, undef, undef, undef, undef, undef, undef, undef, undef, undef, undef, undef, undef], defers := [] }) ?assign ?body ?done ?stop
  case assign =>
    intro l x W' K' hK
    gi_wp2
    exact hK
  case body =>
    rintro l pre x W' ⟨fv, h⟩ hlt
    have hx := x.2
    have hp60 : pre.length < 60 := by omega
    have hwo := Agg.whole_ok hk pre (by omega)
    have hlo := Agg.ok_lift (n := x.1.2) hk (by simp [Agg.isItem, hx.1, hx.2])
    have hsn := Agg.whole_snoc hk pre x hp60
    obtain ⟨⟨ax, ay, az⟩, hA⟩ : ∃ V, V = Agg.whole k pre := ⟨_, rfl⟩
    obtain ⟨⟨lx, ly, lz⟩, hL⟩ : ∃ V, V = Agg.lift k x.1.2 := ⟨_, rfl⟩
    obtain ⟨⟨rx, ry, rz⟩, hR⟩ : ∃ V, V = Agg.whole k (pre ++ [x]) := ⟨_, rfl⟩
    rw [← hA] at h hwo hsn
    rw [← hL] at hlo hsn
    rw [← hR] at hsn
    have hLI := fun w => K.lift x.1.2 w hx.1 hx.2
    rw [← hL] at hLI
    have hCO := fun w => K.comb lx ly lz ax ay az w hlo hwo
    rw [hsn] at hCO
    have HLI := Lib.hid hLI
    have HCO := Lib.hid hCO
    have HRR := Lib.hid hR
    have H := Lib.hid h
    have c0 : W'.cell? ⟨w.heap.size, 0, none⟩ = some (.iface T (.agg #[])) := by simp [World.cell?, h.mo]
    obtain ⟨v0, v1, v2⟩ := h.v.cells
    have f0 := h.v.free 0
    have f1 := h.v.free 1
    have f2 := h.v.free 2
    have hpB : w1.heap.size + 1 < W'.heap.size := (Array.getElem?_eq_some_iff.1 h.q).1
    have hqB : bI < W'.heap.size := by omega
    have hmx : Tryz.prog.follows .mixedOrders = true := by kernel_rfl
    clear h hwo hlo hsn hA hL hR hLI hCO
    dsimp only
    gi_upto_region 4 with (fail)
    try dsimp only
    gi_cut [] from 43 (fun W4 => FlipI w base w.heap.size (w.heap.size + 1) (w.heap.size + 1 + 1) w1.heap.size (w1.heap.size + 1) T ia m ic bx by' bz fp I ⟨rx, ry, rz⟩ (co + pre.length) pre.length (Agg.fronts k pre) fv W4 ∧ FlipK (w1.heap.size + 1) bI W2.heap.size W' W4)
    case first =>
      rename_i Jm Km hJm hKm
      refine region_round (fun X => X.cell? ⟨w.heap.size, 0, none⟩ = some (.iface T (.agg #[]))) (by kernel_rfl) (by kernel_rfl) c0 (fun hH => ?_)
      refine wpAnyH_take (i := 0) (v := ?_) rfl (by kernel_rfl) (by kernel_rfl) (by kernel_rfl) (fun _ _ _ h => by cases h.1) (Or.inl ⟨by rfl, ?_⟩) (by assumption) ?_
      rotate_left
      · intro X hSw; (try dsimp only at hSw); go_simp; (try with_reducible rfl)
      try simp only [Act.put, zq1, zq2, zq3, zq4, zq5, zq6]
      refine wpAnyH_take (i := 1) (v := ?_) rfl (by kernel_rfl) (by kernel_rfl) (by kernel_rfl) (fun _ _ _ h => by cases h.1) (Or.inl ⟨by rfl, ?_⟩) (by assumption) ?_
      rotate_left
      · intro X hSw; (try dsimp only at hSw); go_simp; (try with_reducible rfl)
      try simp only [Act.put, zq1, zq2, zq3, zq4, zq5, zq6]
      refine wpAnyH_take (i := 2) (v := ?_) rfl (by kernel_rfl) (by kernel_rfl) (by kernel_rfl) (fun _ _ _ h => by cases h.1) (Or.inl ⟨by rfl, ?_⟩) (by assumption) ?_
      rotate_left
      · intro X hSw; (try dsimp only at hSw); go_simp; (try with_reducible rfl)
      try simp only [Act.put, zq1, zq2, zq3, zq4, zq5, zq6]
      refine wpAnyH_take (i := 5) (v := ?_) rfl (by kernel_rfl) (by kernel_rfl) (by kernel_rfl) (fun _ _ _ h => by cases h.1) (Or.inl ⟨by rfl, ?_⟩) (by assumption) ?_
      rotate_left
      · intro X hSw; (try dsimp only at hSw); go_simp; (try with_reducible rfl)
      try simp only [Act.put, zq1, zq2, zq3, zq4, zq5, zq6]
      refine wpAnyH_take (i := 6) (v := ?_) rfl (by kernel_rfl) (by kernel_rfl) (by kernel_rfl) (fun _ _ _ h => by cases h.1) (Or.inl ⟨by rfl, ?_⟩) (by assumption) ?_
      rotate_left
      · intro X hSw; (try dsimp only at hSw); go_simp; (try with_reducible rfl)
      try simp only [Act.put, zq1, zq2, zq3, zq4, zq5, zq6]
      refine wpAnyH_take (i := 7) (v := ?_) rfl (by kernel_rfl) (by kernel_rfl) (by kernel_rfl) (fun _ _ _ h => by cases h.1) (Or.inl ⟨by rfl, ?_⟩) (by assumption) ?_
      rotate_left
      · intro X hSw; (try dsimp only at hSw); go_simp; (try with_reducible rfl)
      try simp only [Act.put, zq1, zq2, zq3, zq4, zq5, zq6]
      refine wpAnyH_ready (rs := [3, 4]) (by kernel_rfl) (by simp) ?_
      refine AllReadyH.cons rfl (fun K hK => ?_) (AllReadyH.cons rfl (fun K hK => ?_) AllReadyH.nil)
      · go_simp
        refine (HLI.out _).mono ?_
        rintro e w3 ⟨rfl, hb3⟩
        have H3 := Lib.hid (H.out.drew.call hb hb3)
        have HK3 := Lib.hid ((FlipK.refl (w1.heap.size + 1) bI W2.heap.size W').drew.call hb3 hpB hqB)
        have d0 : w3.cell? ⟨w.heap.size, 0, none⟩ = some (.iface T (.agg #[])) := by simp [World.cell?, H3.out.mo]
        obtain ⟨y0, y1, y2⟩ := H3.out.v.cells
        clear hb3 HLI
        dsimp only
        refine hK.out _ _ (d0) (fun hHeld => ?_)
        clear hK K
        try simp only [Act.put, zq1, zq2, zq3, zq4, zq5, zq6]
        refine wpAnyH_ready (rs := [4]) (by kernel_rfl) (by simp) ?_
        refine AllReadyH.cons rfl (fun K hK => ?_) AllReadyH.nil
        go_simp
        refine hK.out _ _ (d0) (fun hHeld => ?_)
        clear hK K
        try simp only [Act.put, zq1, zq2, zq3, zq4, zq5, zq6]
        refine wpAnyH_ready (rs := [8]) (by kernel_rfl) (by simp) ?_
        refine AllReadyH.cons rfl (fun K hK => ?_) AllReadyH.nil
        go_simp
        refine (HCO.out _).mono ?_
        rintro e w4 ⟨rfl, hb4⟩
        have H4 := Lib.hid (H3.out.call hb hb4)
        have HK4 := Lib.hid (HK3.out.call hb4 hpB hqB)
        have d4 : w4.cell? ⟨w.heap.size, 0, none⟩ = some (.iface T (.agg #[])) := by simp [World.cell?, H4.out.mo]
        obtain ⟨z0, z1, z2⟩ := H4.out.v.cells
        have g0 := H4.out.v.free 0
        have g1 := H4.out.v.free 1
        have g2 := H4.out.v.free 2
        clear hb4
        dsimp only
        refine hK.out _ _ (d4) (fun hHeld => ?_)
        clear hK K
        try simp only [Act.put, zq1, zq2, zq3, zq4, zq5, zq6]
        refine wpAnyH_ready (rs := [9]) (by kernel_rfl) (by simp) ?_
        refine AllReadyH.cons rfl (fun K hK => ?_) AllReadyH.nil
        have H5 := Lib.hid (H4.out.setv hb (by omega) rx ry rz)
        have HK5 := Lib.hid (HK4.out.setv H4.out hpB hqB (by omega) hbv (.int .i64 rx) (.int .i64 ry) (.int .i64 rz))
        have d5 := H5.out.mo
        go_simp
        refine hK.out _ _ (by simp [World.cell?, H5.out.mo]) (fun hHeld => ?_)
        clear hK K
        try simp only [Act.put, zq1, zq2, zq3, zq4, zq5, zq6]
        refine wpAnyH_done (by kernel_rfl) ?_ _
        refine ⟨rfl, ?_⟩
        refine hKm _ _ (Met.intro (hJm _ _ ?_))
        (repeat apply Exists.intro)
        exact ⟨⟨H5.out, HK5.out⟩, rfl⟩
      · go_simp
        refine hK.out _ _ (hH) (fun hHeld => ?_)
        clear hK K
        try simp only [Act.put, zq1, zq2, zq3, zq4, zq5, zq6]
        refine wpAnyH_ready (rs := [3]) (by kernel_rfl) (by simp) ?_
        refine AllReadyH.cons rfl (fun K hK => ?_) AllReadyH.nil
        go_simp
        refine (HLI.out _).mono ?_
        rintro e w3 ⟨rfl, hb3⟩
        have H3 := Lib.hid (H.out.drew.call hb hb3)
        have HK3 := Lib.hid ((FlipK.refl (w1.heap.size + 1) bI W2.heap.size W').drew.call hb3 hpB hqB)
        have d0 : w3.cell? ⟨w.heap.size, 0, none⟩ = some (.iface T (.agg #[])) := by simp [World.cell?, H3.out.mo]
        obtain ⟨y0, y1, y2⟩ := H3.out.v.cells
        clear hb3 HLI
        dsimp only
        refine hK.out _ _ (d0) (fun hHeld => ?_)
        clear hK K
        try simp only [Act.put, zq1, zq2, zq3, zq4, zq5, zq6]
        refine wpAnyH_ready (rs := [8]) (by kernel_rfl) (by simp) ?_
        refine AllReadyH.cons rfl (fun K hK => ?_) AllReadyH.nil
        go_simp
        refine (HCO.out _).mono ?_
        rintro e w4 ⟨rfl, hb4⟩
        have H4 := Lib.hid (H3.out.call hb hb4)
        have HK4 := Lib.hid (HK3.out.call hb4 hpB hqB)
        have d4 : w4.cell? ⟨w.heap.size, 0, none⟩ = some (.iface T (.agg #[])) := by simp [World.cell?, H4.out.mo]
        obtain ⟨z0, z1, z2⟩ := H4.out.v.cells
        have g0 := H4.out.v.free 0
        have g1 := H4.out.v.free 1
        have g2 := H4.out.v.free 2
        clear hb4
        dsimp only
        refine hK.out _ _ (d4) (fun hHeld => ?_)
        clear hK K
        try simp only [Act.put, zq1, zq2, zq3, zq4, zq5, zq6]
        refine wpAnyH_ready (rs := [9]) (by kernel_rfl) (by simp) ?_
        refine AllReadyH.cons rfl (fun K hK => ?_) AllReadyH.nil
        have H5 := Lib.hid (H4.out.setv hb (by omega) rx ry rz)
        have HK5 := Lib.hid (HK4.out.setv H4.out hpB hqB (by omega) hbv (.int .i64 rx) (.int .i64 ry) (.int .i64 rz))
        have d5 := H5.out.mo
        go_simp
        refine hK.out _ _ (by simp [World.cell?, H5.out.mo]) (fun hHeld => ?_)
        clear hK K
        try simp only [Act.put, zq1, zq2, zq3, zq4, zq5, zq6]
        refine wpAnyH_done (by kernel_rfl) ?_ _
        refine ⟨rfl, ?_⟩
        refine hKm _ _ (Met.intro (hJm _ _ ?_))
        (repeat apply Exists.intro)
        exact ⟨⟨H5.out, HK5.out⟩, rfl⟩
    case rest =>
      obtain ⟨h4, hk4⟩ := hcut
      obtain ⟨i0, hi0, hz0, hz1, hz2⟩ := info_parts infoVal
      obtain ⟨p0, p1, p2, p3, p4, p5, p6⟩ := h4.s.cells
      obtain ⟨y0, y1, y2⟩ := h4.v.cells
      have hap := h4.apart
      have hsz := h4.b.size
      have hBI : fv.ownBlock ≠ some bI := by
        cases hia : ia with
        | none => rw [hbn hia]; exact hap.1
        | some x => rw [← hbI x hia]; exact hap.2.2.2.2 x.block (by rw [hia]; rfl)
      have hm1 := hap.2.2.2.1
      have k0 := h0.1; have k1 := h0.2
      have e6 : IntKind.i64.wrap (co + (pre.length : Int) + 1) = co + (pre.length : Int) + 1 := IntWalk.i64_in _ ⟨by omega, by omega⟩
      have H4 := Lib.hid h4
      have HK4 := Lib.hid hk4
      have n1 : w.heap.size + 1 + 1 ≠ w.heap.size + 1 := by omega
      have n2 : w1.heap.size + 1 ≠ w.heap.size + 1 := by omega
      have b1 : base ≤ w.heap.size + 1 := by omega
      have b2 : base ≤ (wc.alloc (.cells #[.int .i64 rx, .int .i64 ry, .int .i64 rz] 40)).heap.size := by simp; omega
      have B2 := Lib.hid b2
      have HBI := Lib.hid hBI
      have HM1 := Lib.hid hm1
      have HN := Lib.hid (show w1.heap.size + 1 < W'.heap.size ∧ bI < W'.heap.size ∧ w.heap.size + 1 + 1 ≠ w.heap.size + 1 ∧ w1.heap.size + 1 ≠ w.heap.size + 1 ∧ base ≤ w.heap.size + 1 from ⟨hpB, hqB, n1, n2, b1⟩)
      clear h4 hk4 hap hsz hBI hm1 n1 n2 b1 b2 H c0 v0 v1 v2 f0 f1 f2
      gi_wp2_with (gi_at_builtin; go_must (refine wpListIn_append_own_at _ rfl (.tmp 25) (.tmp 27) 38 rfl base 40 i0 (.agg #[.int .i64 0, .int .i64 0, .int .i64 0]) 3 24 Tryz.underlying38 hi0 hz0 hz1 hz2 rfl (by decide) _ _ _ rfl (H4.out.f.alloc _) ⟨wc.heap.size, 0, none⟩ 1 1 [.int .i64 rx, .int .i64 ry, .int .i64 rz] rfl rfl (cell_three_new _ _ _ _ _) (three_oneCell rx ry rz) (by unfold maxLen; omega) (by omega) B2.out ?_); intro v' w5 hown5 hgrow5 hnil5 hat5; obtain ⟨va, vn, vc, rfl⟩ := own_slice hown5; have HP := Lib.hid (H4.out.push hb HN.out.2.2.2.2 HN.out.2.2.1 hgrow5 (by rw [valRow_snoc]; exact hown5) hat5 (co + (pre.length : Int) + 1)); have HKP := Lib.hid (HK4.out.push H4.out hgrow5 HN.out.1 HN.out.2.1 HN.out.2.2.2.1 hbs HM1.out HBI.out (.slice va vn vc) (.int .i64 (co + (pre.length : Int) + 1))); obtain ⟨q0, q1, q2, q3, q4, q5, q6⟩ := HP.out.2.cells; have g0 := HP.out.2.free 0; have g6 := HP.out.2.free 6; clear hown5 hgrow5 hnil5 hat5)
      refine ⟨(by have hh := HKP.out.2; rw [hW2s] at hh; exact hh), HKP.out.1, .slice va vn vc, ?_⟩
      have hfin := HP.out.1
      rw [HRR.out, ← Agg.fronts_snoc] at hfin
      have e1 : (pre ++ [x]).length = pre.length + 1 := by simp
      have e2 : co + ((pre.length + 1 : Nat) : Int) = co + (pre.length : Int) + 1 := by omega
      rw [e1, e2]
      exact hfin
  case done =>
    rintro D ys W3 hD rfl ⟨fv3, h3⟩ hK
    have hyl : (Agg.upto (Agg.itemAt I hi) m).length = m := Agg.upto_length _ _
    obtain ⟨fa3, fn3, fc3, rfl⟩ := own_slice h3.f
    obtain ⟨q0, q1, q2, q3, q4, q5, q6⟩ := h3.s.cells
    have g1 := h3.s.free 1
    have c0 : W3.cell? ⟨w.heap.size, 0, none⟩ = some (.iface T (.agg #[])) := by simp [World.cell?, h3.mo]
    have H3 := Lib.hid h3
    have HKD := Lib.hid hK
    have hDn : w.heap.size + 1 + 1 < D := by omega
    have HD := Lib.hid hDn
    have HYL := Lib.hid hyl
    clear h3 hK hDn hyl
    obtain ⟨W4, hW4⟩ : ∃ W4, W4 = W3.setCell ⟨w.heap.size + 1, 1, none⟩ (.slice none 0 0) := ⟨_, rfl⟩
    gi_wp2_with fail
    rw [← hW4]
    refine ⟨trivial, ?_⟩
    refine (callsIn_wide.2 (K.unit W4)).mono ?_
    rintro e w6 ⟨rfl, hb6⟩
    have hg4 : W3.grownBy W4 (some (w.heap.size + 1)) := by rw [hW4]; exact grown_set1_ _ _ _ _
    have hs6 : Box7 w6 (w.heap.size + 1) 42 (.slice fa3 fn3 fc3) (.slice none 0 0) (.int .i64 bx) (.int .i64 by') (.int .i64 bz) (.int .i64 fp) (.int .i64 (co + ((Agg.upto (Agg.itemAt I hi) m).length : Int))) := Box7.call (by rw [hW4]; exact H3.out.s.set1 _) hb6
    have hr6 : Box7 w6 (w.heap.size + 1 + 1) 42 (.slice none 0 0) (.slice none 0 0) (.int .i64 0) (.int .i64 0) (.int .i64 0) (.int .i64 0) (.int .i64 0) := Box7.call (H3.out.r.grown hg4 (fun e => by have := Option.some.inj e; omega)) hb6
    have hf6 := H3.out.f.kept hg4 (.inr H3.out.apart.2.1) |>.kept (Below.grownNone hb6 none) (Classical.em _)
    have hB6 : Below base w w6 := (H3.out.b.grown hg4 (Nat.le_trans hb H3.out.b.size) (fun r e => by cases e; omega)).trans (hb6.mono (by have := H3.out.b.size; have := hg4.size; omega))
    have hD6 : w6.heap[D]? = some (.deferred (some [])) := (hb6.block D (Array.getElem?_eq_some_iff.1 ((hg4.block D (Array.getElem?_eq_some_iff.1 HKD.out).1 (fun e => by have := Option.some.inj e; have := HD.out; omega)).trans HKD.out)).1).trans ((hg4.block D (Array.getElem?_eq_some_iff.1 HKD.out).1 (fun e => by have := Option.some.inj e; have := HD.out; omega)).trans HKD.out)
    clear hW4 hb6 hg4 q0 q1 q2 q3 q4 q5 q6 g1 c0
    rw [HYL.out] at hs6
    obtain ⟨q0, q1, q2, q3, q4, q5, q6⟩ := hs6.cells
    have k2 := hs6.free 2
    have k3 := hs6.free 3
    have k4 := hs6.free 4
    have k5 := hs6.free 5
    have r0 := hr6.free 0
    have r1 := hr6.free 1
    have r2 := hr6.free 2
    have r3 := hr6.free 3
    have r4 := hr6.free 4
    have r5 := hr6.free 5
    have r6 := hr6.free 6
    have e5 : IntKind.i64.wrap (fp + 1) = fp + 1 := IntWalk.i64_in _ ⟨by omega, by omega⟩
    have HS6 := Lib.hid hs6
    have HR6 := Lib.hid hr6
    have HF6 := Lib.hid hf6
    have HB6 := Lib.hid hB6
    have HD6 := Lib.hid hD6
    clear hs6 hr6 hf6 hB6 hD6
    gi_upto_region 9 with (fail)
    obtain ⟨W7, hW7⟩ : ∃ W7, W7 = (((w6.setCell ⟨w.heap.size + 1, 2, none⟩ (.int .i64 (Agg.unit k).x)).setCell ⟨w.heap.size + 1, 3, none⟩ (.int .i64 (Agg.unit k).y)).setCell ⟨w.heap.size + 1, 4, none⟩ (.int .i64 (Agg.unit k).z)) := ⟨_, rfl⟩
    rw [← hW7]
    have hs7 : Box7 W7 (w.heap.size + 1) 42 (.slice fa3 fn3 fc3) (.slice none 0 0) (.int .i64 (Agg.unit k).x) (.int .i64 (Agg.unit k).y) (.int .i64 (Agg.unit k).z) (.int .i64 fp) (.int .i64 (co + (m : Int))) := by rw [hW7]; exact ((HS6.out.set2 _).set3 _).set4 _
    have hg7 : w6.grownBy W7 (some (w.heap.size + 1)) := by
      rw [hW7]
      exact ⟨rfl, rfl, rfl, by simp [World.setCell], fun k hk hne => ((grown_set1_ _ _ 4 _).block k (by simpa [World.setCell] using hk) hne).trans (((grown_set1_ _ _ 3 _).block k (by simpa [World.setCell] using hk) hne).trans ((grown_set1_ _ _ 2 _).block k hk hne))⟩
    clear hW7 q0 q1 q2 q3 q4 q5 q6 k2 k3 k4 k5 r0 r1 r2 r3 r4 r5 r6
    obtain ⟨q0, q1, q2, q3, q4, q5, q6⟩ := hs7.cells
    have k5 := hs7.free 5
    have HS7 := Lib.hid hs7
    have HG7 := Lib.hid hg7
    clear hs7 hg7
    gi_upto_region 10 with (fail)
    obtain ⟨W8, hW8⟩ : ∃ W8, W8 = W7.setCell ⟨w.heap.size + 1, 5, none⟩ (.int .i64 (fp + 1)) := ⟨_, rfl⟩
    rw [← hW8]
    have hs8 : Box7 W8 (w.heap.size + 1) 42 (.slice fa3 fn3 fc3) (.slice none 0 0) (.int .i64 (Agg.unit k).x) (.int .i64 (Agg.unit k).y) (.int .i64 (Agg.unit k).z) (.int .i64 (fp + 1)) (.int .i64 (co + (m : Int))) := by rw [hW8]; exact HS7.out.set5 _
    have hg8 : w6.grownBy W8 (some (w.heap.size + 1)) := by
      have h7 := HG7.out
      have h8 := grown_set1_ W7 (w.heap.size + 1) 5 (.int .i64 (fp + 1))
      rw [hW8]
      exact ⟨h7.os, h7.tape, h7.output, Nat.le_trans h7.size h8.size, fun k hk hne => (h8.block k (Nat.lt_of_lt_of_le hk h7.size) hne).trans (h7.block k hk hne)⟩
    have hr8 : Box7 W8 (w.heap.size + 1 + 1) 42 (.slice none 0 0) (.slice none 0 0) (.int .i64 0) (.int .i64 0) (.int .i64 0) (.int .i64 0) (.int .i64 0) := HR6.out.grown hg8 (fun e => by have := Option.some.inj e; omega)
    have hf8 := HF6.out.kept hg8 (.inr H3.out.apart.2.1)
    have hB8 : Below base w W8 := HB6.out.grown hg8 (Nat.le_trans hb HB6.out.size) (fun r e => by cases e; omega)
    have hD8 : W8.heap[D]? = some (.deferred (some [])) := (hg8.block D (Array.getElem?_eq_some_iff.1 HD6.out).1 (fun e => by have := Option.some.inj e; have := HD.out; omega)).trans HD6.out
    clear hW8 q0 q1 q2 q3 q4 q5 q6 k5
    obtain ⟨q0, q1, q2, q3, q4, q5, q6⟩ := hs8.cells
    obtain ⟨z0, z1, z2, z3, z4, z5, z6⟩ := hr8.cells
    have r0 := hr8.free 0
    have r1 := hr8.free 1
    have r2 := hr8.free 2
    have r3 := hr8.free 3
    have r4 := hr8.free 4
    have r5 := hr8.free 5
    have r6 := hr8.free 6
    have HR8 := Lib.hid hr8
    have HF8 := Lib.hid hf8
    have HB8 := Lib.hid hB8
    have HD8 := Lib.hid hD8
    clear hs8 hg8 hr8 hf8 hB8 hD8
    gi_wp2_with fail
    obtain ⟨W9, hW9⟩ : ∃ W9, W9 = (((((((W8.setCell ⟨w.heap.size + 1 + 1, 0, none⟩ (.slice fa3 fn3 fc3)).setCell ⟨w.heap.size + 1 + 1, 1, none⟩ (.slice none 0 0)).setCell ⟨w.heap.size + 1 + 1, 2, none⟩ (.int .i64 (Agg.unit k).x)).setCell ⟨w.heap.size + 1 + 1, 3, none⟩ (.int .i64 (Agg.unit k).y)).setCell ⟨w.heap.size + 1 + 1, 4, none⟩ (.int .i64 (Agg.unit k).z)).setCell ⟨w.heap.size + 1 + 1, 5, none⟩ (.int .i64 (fp + 1))).setCell ⟨w.heap.size + 1 + 1, 6, none⟩ (.int .i64 (co + (m : Int)))) := ⟨_, rfl⟩
    rw [← hW9]
    have hb9 : Box7 W9 (w.heap.size + 1 + 1) 42 (.slice fa3 fn3 fc3) (.slice none 0 0) (.int .i64 (Agg.unit k).x) (.int .i64 (Agg.unit k).y) (.int .i64 (Agg.unit k).z) (.int .i64 (fp + 1)) (.int .i64 (co + (m : Int))) := by rw [hW9]; exact HR8.out.sets _ _ _ _ _ _ _
    have hf9 : W9.ownsRow base 40 3 (.slice fa3 fn3 fc3) (Agg.upto (Agg.itemAt I hi) m).length (valRow (Agg.fronts k (Agg.upto (Agg.itemAt I hi) m))) := by rw [hW9]; exact own_sets7 HF8.out (fun g hg e => H3.out.apart.2.2.1 (by rw [hg, e])) _ _ _ _ _ _ _
    have hB9 : Below base w W9 := by rw [hW9]; exact sets7 HB8.out (by omega) _ _ _ _ _ _ _
    have hDr : D ≠ w.heap.size + 1 + 1 := by have := HD.out; omega
    have hD9 : W9.heap[D]? = some (.deferred (some [])) := by
      rw [hW9, Below.heap_setCell _ _ _ _ (by simpa using hDr), Below.heap_setCell _ _ _ _ (by simpa using hDr), Below.heap_setCell _ _ _ _ (by simpa using hDr), Below.heap_setCell _ _ _ _ (by simpa using hDr), Below.heap_setCell _ _ _ _ (by simpa using hDr), Below.heap_setCell _ _ _ _ (by simpa using hDr), Below.heap_setCell _ _ _ _ (by simpa using hDr)]
      exact HD8.out
    clear hW9
    have hfr : Agg.fronts k (Agg.upto (Agg.itemAt I hi) m) = Agg.sufs k I I.length := by rw [HML.out]; exact Agg.whole_all k I hi
    rw [HYL.out, hfr] at hf9
    have hbP : Box7 (W9.putObj D (.deferred none)) (w.heap.size + 1 + 1) 42 (.slice fa3 fn3 fc3) (.slice none 0 0) (.int .i64 (Agg.unit k).x) (.int .i64 (Agg.unit k).y) (.int .i64 (Agg.unit k).z) (.int .i64 (fp + 1)) (.int .i64 (co + (m : Int))) :=
      ((belowK_b (w := W2) (Nat.le_refl _) W9 D _ (.deferred none) (by omega) hD9 rfl rfl).block (w.heap.size + 1 + 1) (by omega)).trans hb9
    refine ⟨by simp, .inl ⟨_, _, rfl, run_takeDeferred hD9, ?_⟩⟩
    exact ⟨_, results_cell_row rfl _ _ (w.heap.size + 1 + 1) 42 _ (0, 0) _ rfl hbP Tryz.underlying42 rfl (by kernel_rfl), .slice fa3 fn3 fc3, rfl, ownsRow_putObj hf9 _ hD9 rfl, hB9.trans ((belowK_b (w := w) (Nat.le_refl _) W9 D _ _ (by have := HD.out; omega) hD9 rfl rfl).mono hb)⟩
  case stop =>
    rintro D c pre W _ _ h _
    exact h.elim
end Go.Proofs.YtolgclajlklmaaaGreat

namespace Go.Proofs.YtolgclajlklmaaaGreat
set_option linter.unusedSimpArgs false
set_option linter.unusedVariables false
open Go.RowKit
theorem Agg.aStep_not {k : Int} {s : Agg.S} {o : Bool × Int} (h : Agg.stepOk k s o = false) : Agg.aStep k s o = Agg.zeroS := by simp [Agg.aStep, h]
theorem Agg.aStep_of {k : Int} {s : Agg.S} {o : Bool × Int} (h : Agg.stepOk k s o = true) : Agg.aStep k s o = Agg.stepS k s o := by simp [Agg.aStep, h]
structure StkI (w : World) (base sb rb : Nat) (fv iv : Value) (bx by' bz fl co : Int) (fn m : Nat) (F : List Agg.V) (I : List Int) (W : World) : Prop where
  s : Box7 W sb 42 fv iv (.int .i64 bx) (.int .i64 by') (.int .i64 bz) (.int .i64 fl) (.int .i64 co)
  r : Box7 W rb 42 (.slice none 0 0) (.slice none 0 0) (.int .i64 0) (.int .i64 0) (.int .i64 0) (.int .i64 0) (.int .i64 0)
  f : W.ownsRow base 40 3 fv fn (valRow F)
  i : W.ownsRow base 3 1 iv m (I.map (Value.int .i64))
  b : Below base w W
theorem StkI.call {w : World} {base sb rb : Nat} {fv iv : Value} {bx by' bz fl co : Int} {fn m : Nat} {F : List Agg.V} {I : List Int} {X Y : World} (h : StkI w base sb rb fv iv bx by' bz fl co fn m F I X) (hw : base ≤ w.heap.size) (hb : Below X.heap.size X Y) : StkI w base sb rb fv iv bx by' bz fl co fn m F I Y :=
  ⟨h.s.call hb, h.r.call hb, h.f.kept (Below.grownNone hb none) (Classical.em _), h.i.kept (Below.grownNone hb none) (Classical.em _), h.b.trans (hb.mono (Nat.le_trans hw h.b.size))⟩
theorem StkI.drew {w : World} {base sb rb : Nat} {fv iv : Value} {bx by' bz fl co : Int} {fn m : Nat} {F : List Agg.V} {I : List Int} {X : World} (h : StkI w base sb rb fv iv bx by' bz fl co fn m F I X) : StkI w base sb rb fv iv bx by' bz fl co fn m F I X.drew := ⟨h.s, h.r, h.f, h.i, h.b.drew⟩
theorem own_ne {W : World} {base e sz n b : Nat} {v : Value} {xs : List Value} {c : Array Value} {t : TypeId} {z : Nat × Nat} (h : W.ownsRow base e sz v n xs) (k : W.heap[b]? = some (.cells c t z)) (ne : e ≠ t) : v.ownBlock ≠ some b := fun e' => by
  obtain ⟨cur, hc⟩ := row_block h e'
  exact cells_ne hc k ne rfl
theorem own_kept_ne {W : World} {base e sz n b o : Nat} {v u : Value} {xs : List Value} {c : Array Value} {t : TypeId} {z : Nat × Nat} (h : W.ownsRow base e sz v n xs) (k : W.heap[b]? = some (.cells c t z)) (ne : e ≠ t) : (W.setCell ⟨b, o, none⟩ u).ownsRow base e sz v n xs :=
  h.kept (grown_set1_ W b o u) (.inr (own_ne h k ne))
theorem StkI.set {w : World} {base sb rb : Nat} {fv iv : Value} {bx by' bz fl co : Int} {fn m : Nat} {F : List Agg.V} {I : List Int} {X : World} (h : StkI w base sb rb fv iv bx by' bz fl co fn m F I X) (hsb : sb ≠ rb) (hb : base ≤ sb) (x y z : Int) :
    StkI w base sb rb fv iv x y z fl co fn m F I (((X.setCell ⟨sb, 2, none⟩ (.int .i64 x)).setCell ⟨sb, 3, none⟩ (.int .i64 y)).setCell ⟨sb, 4, none⟩ (.int .i64 z)) := by
  have h1 := h.s.set2 (.int .i64 x)
  have h2 := h1.set3 (.int .i64 y)
  refine ⟨h2.set4 (.int .i64 z), ((h.r.other (Ne.symm hsb) _ _).other (Ne.symm hsb) _ _).other (Ne.symm hsb) _ _, ?_, ?_, ((h.b.setCell hb _).setCell hb _).setCell hb _⟩
  · exact own_kept_ne (own_kept_ne (own_kept_ne h.f h.s (by decide)) h1 (by decide)) h2 (by decide)
  · exact own_kept_ne (own_kept_ne (own_kept_ne h.i h.s (by decide)) h1 (by decide)) h2 (by decide)
theorem StkI.count {w : World} {base sb rb : Nat} {fv iv : Value} {bx by' bz fl co : Int} {fn m : Nat} {F : List Agg.V} {I : List Int} {X : World} (h : StkI w base sb rb fv iv bx by' bz fl co fn m F I X) (hsb : sb ≠ rb) (hb : base ≤ sb) (c : Int) :
    StkI w base sb rb fv iv bx by' bz fl c fn m F I (X.setCell ⟨sb, 6, none⟩ (.int .i64 c)) :=
  ⟨h.s.set6 _, h.r.other (Ne.symm hsb) _ _, own_kept_ne h.f h.s (by decide), own_kept_ne h.i h.s (by decide), h.b.setCell hb _⟩
theorem StkI.out {w : World} {base sb rb : Nat} {fv iv : Value} {bx by' bz fl co : Int} {fn m : Nat} {F : List Agg.V} {I : List Int} {X : World} (h : StkI w base sb rb fv iv bx by' bz fl co fn m F I X) (hb : base ≤ rb) (u0 u1 u2 u3 u4 u5 u6 : Value) :
    (((((((X.setCell ⟨rb, 0, none⟩ u0).setCell ⟨rb, 1, none⟩ u1).setCell ⟨rb, 2, none⟩ u2).setCell ⟨rb, 3, none⟩ u3).setCell ⟨rb, 4, none⟩ u4).setCell ⟨rb, 5, none⟩ u5).setCell ⟨rb, 6, none⟩ u6).ownsRow base 40 3 fv fn (valRow F) ∧
    (((((((X.setCell ⟨rb, 0, none⟩ u0).setCell ⟨rb, 1, none⟩ u1).setCell ⟨rb, 2, none⟩ u2).setCell ⟨rb, 3, none⟩ u3).setCell ⟨rb, 4, none⟩ u4).setCell ⟨rb, 5, none⟩ u5).setCell ⟨rb, 6, none⟩ u6).ownsRow base 3 1 iv m (I.map (Value.int .i64)) ∧
    Below base w (((((((X.setCell ⟨rb, 0, none⟩ u0).setCell ⟨rb, 1, none⟩ u1).setCell ⟨rb, 2, none⟩ u2).setCell ⟨rb, 3, none⟩ u3).setCell ⟨rb, 4, none⟩ u4).setCell ⟨rb, 5, none⟩ u5).setCell ⟨rb, 6, none⟩ u6) := by
  have r0 := h.r
  have r1 := r0.set0 u0
  have r2 := r1.set1 u1
  have r3 := r2.set2 u2
  have r4 := r3.set3 u3
  have r5 := r4.set4 u4
  have r6 := r5.set5 u5
  refine ⟨?_, ?_, sets7 h.b hb _ _ _ _ _ _ _⟩
  · exact own_kept_ne (own_kept_ne (own_kept_ne (own_kept_ne (own_kept_ne (own_kept_ne (own_kept_ne h.f r0 (by decide)) r1 (by decide)) r2 (by decide)) r3 (by decide)) r4 (by decide)) r5 (by decide)) r6 (by decide)
  · exact own_kept_ne (own_kept_ne (own_kept_ne (own_kept_ne (own_kept_ne (own_kept_ne (own_kept_ne h.i r0 (by decide)) r1 (by decide)) r2 (by decide)) r3 (by decide)) r4 (by decide)) r5 (by decide)) r6 (by decide)
set_option maxRecDepth 8000 in
set_option maxHeartbeats 4000000 in
theorem pushBack_any {k : Int} {T fu fl fc : Nat} (K : KindAt k T fu fl fc) (base : Nat) (fv : Value) (fn : Nat) (F : List Agg.V) (ia : Option Addr) (m ic : Nat) (bx by' bz fp co : Int) (I : List Int) (x : Int) (w : World)
    (hb : base ≤ w.heap.size) (hf : w.ownsRow base 40 3 fv fn (valRow F)) (hI : w.ownsRow base 3 1 (.slice ia m ic) m (I.map (Value.int .i64))) (hm : m ≤ 60) (hx : Agg.isItem x = true)
    (hok : Agg.ok k ⟨bx, by', bz⟩ = true) (hlk : Agg.ok k (Agg.lift k x) = true) (h0 : 0 ≤ co ∧ co ≤ 1000000) :
    Calls Tryz.prog 83 #[.iface T (.agg #[]), .agg #[fv, .slice ia m ic, .int .i64 bx, .int .i64 by', .int .i64 bz, .int .i64 fp, .int .i64 co], .int .i64 x] w fun e w' =>
      ∃ iv', e = .returned (.agg #[fv, iv', .int .i64 (Agg.comb k ⟨bx, by', bz⟩ (Agg.lift k x)).x, .int .i64 (Agg.comb k ⟨bx, by', bz⟩ (Agg.lift k x)).y, .int .i64 (Agg.comb k ⟨bx, by', bz⟩ (Agg.lift k x)).z, .int .i64 fp, .int .i64 (co + 1)]) ∧ w'.ownsRow base 3 1 iv' (m + 1) ((I ++ [x]).map (Value.int .i64)) ∧ w'.ownsRow base 40 3 fv fn (valRow F) ∧ Below base w w' := by
  obtain ⟨i0, hi0, hz0, hz1, hz2⟩ := info_parts infoInt
  have hml := K.ml
  have hmc := K.mc
  have hal := K.al
  have hac := K.ac
  have hcl := K.cl
  have hcc := K.cc
  obtain ⟨fa, fn', fcap, rfl⟩ := own_slice hf
  have hxb : 0 ≤ x ∧ x ≤ 96 := by simpa [Agg.isItem] using hx
  have hLI := fun w => K.lift x w hxb.1 hxb.2
  obtain ⟨⟨lx, ly, lz⟩, hL⟩ : ∃ V, V = Agg.lift k x := ⟨_, rfl⟩
  rw [← hL] at hLI hlk ⊢
  have hCO := fun w => K.comb bx by' bz lx ly lz w hok hlk
  obtain ⟨⟨rx, ry, rz⟩, hR⟩ : ∃ V, V = Agg.comb k ⟨bx, by', bz⟩ ⟨lx, ly, lz⟩ := ⟨_, rfl⟩
  rw [← hR] at hCO ⊢
  have HLI := Lib.hid hLI
  have HCO := Lib.hid hCO
  clear hLI hCO hL hR hlk hok hx hxb
  obtain ⟨W, hW⟩ : ∃ W, W = ((w.alloc (.cells #[.slice fa fn' fcap, .slice ia m ic, .int .i64 bx, .int .i64 by', .int .i64 bz, .int .i64 fp, .int .i64 co] 42)).alloc (.cells #[.slice none 0 0, .slice none 0 0, .int .i64 0, .int .i64 0, .int .i64 0, .int .i64 0, .int .i64 0] 42)) := ⟨_, rfl⟩
  have hbW : Below w.heap.size w W := by rw [hW]; exact ((Below.refl _ w).alloc (Nat.le_refl _) _).alloc (by simp) _
  have hst : StkI w base w.heap.size (w.heap.size + 1) (.slice fa fn' fcap) (.slice ia m ic) bx by' bz fp co fn m F I W :=
    ⟨by rw [hW]; exact (Box7.new w _ _ _ _ _ _ _ _).alloc _, by rw [hW]; exact Box7.new1 _ _ _ _ _ _ _ _ (by simp), hf.kept (Below.grownNone hbW none) (Classical.em _), hI.kept (Below.grownNone hbW none) (Classical.em _), hbW.mono hb⟩
  have HST := Lib.hid hst
  have hWs : W.heap.size = w.heap.size + 2 := by rw [hW]; simp
  have HWS := Lib.hid hWs
  clear hf hI hst hbW hWs
  go_enter Tryz.func83, Tryz.ntmps83
  go_upto_region 1 with (fail)
  rw [← hW]
  clear hW
  obtain ⟨q0, q1, q2, q3, q4, q5, q6⟩ := HST.out.s.cells
  have f1 := HST.out.s.free 1
  go_upto_region 2 with (at_builtin; go_must (refine wpList_append_own _ rfl (.tmp 8) (.tmp 10) 26 rfl base 3 i0 (.int .i64 0) 1 8 Tryz.underlying26 hi0 hz0 hz1 hz2 rfl (by decide) _ _ _ rfl (HST.out.i.alloc _) ⟨W.heap.size, 0, none⟩ 1 1 [.int .i64 x] rfl rfl (cell_one_new _ _ _) (ints_oneCell .i64 [x]) (by unfold maxLen; omega) (by omega) (by have := HWS.out; simp; omega) ?_); intro v' w5 hown5 hgrow5 hnil5; obtain ⟨va, vn, vc, rfl⟩ := own_slice hown5; have HO5 := Lib.hid hown5; have h1 := HST.out.call hb ((Below.refl W.heap.size W).alloc (Nat.le_refl _) (.cells #[.int .i64 x] 3)); have hns := own_ne h1.i h1.s (by decide); have hnr := own_ne h1.i h1.r (by decide); have HS5 := Lib.hid (h1.s.grown hgrow5 hns); have HR5 := Lib.hid (h1.r.grown hgrow5 hnr); have HF5 := Lib.hid (h1.f.kept hgrow5 (rows_apart h1.f h1.i (by decide))); have HB5 := Lib.hid (h1.b.grown hgrow5 (Nat.le_trans hb h1.b.size) (fun k hk => (h1.i.lt k hk).1)); clear hown5 hgrow5 hnil5 h1 hns hnr; obtain ⟨q0, q1, q2, q3, q4, q5, q6⟩ := HS5.out.cells; have f1 := HS5.out.free 1)
  obtain ⟨W2, hW2⟩ : ∃ W2, W2 = w5.setCell ⟨w.heap.size, 1, none⟩ (.slice va vn vc) := ⟨_, rfl⟩
  have HST2 := Lib.hid (show StkI w base w.heap.size (w.heap.size + 1) (.slice fa fn' fcap) (.slice va vn vc) bx by' bz fp co fn (m + 1) F (I ++ [x]) W2 from by
    rw [hW2]
    exact ⟨HS5.out.set1 _, HR5.out.other (by omega) _ _, own_kept_ne HF5.out HS5.out (by decide), own_kept_ne (by have := HO5.out; simpa using this) HS5.out (by decide), HB5.out.setCell hb _⟩)
  rw [← hW2]
  clear hW2 HS5 HR5 HF5 HB5 HO5 q0 q1 q2 q3 q4 q5 q6 f1 HST
  obtain ⟨q0, q1, q2, q3, q4, q5, q6⟩ := HST2.out.s.cells
  have f2 := HST2.out.s.free 2
  have f3 := HST2.out.s.free 3
  have f4 := HST2.out.s.free 4
  go_region_with (first | (refine (HLI.out _).mono ?_; rintro e w6 ⟨rfl, hb6⟩; have HST6 := Lib.hid (HST2.out.drew.call hb hb6); obtain ⟨q0, q1, q2, q3, q4, q5, q6⟩ := HST6.out.s.cells; have f2 := HST6.out.s.free 2; have f3 := HST6.out.s.free 3; have f4 := HST6.out.s.free 4; clear hb6) | (refine (HCO.out _).mono ?_; rintro e w7 ⟨rfl, hb7⟩; have HST7 := Lib.hid (HST6.out.call hb hb7); obtain ⟨q0, q1, q2, q3, q4, q5, q6⟩ := HST7.out.s.cells; have f2 := HST7.out.s.free 2; have f3 := HST7.out.s.free 3; have f4 := HST7.out.s.free 4; clear hb7))
  all_goals
    obtain ⟨W8, hW8⟩ : ∃ W8, W8 = ((w7.setCell ⟨w.heap.size, 2, none⟩ (.int .i64 rx)).setCell ⟨w.heap.size, 3, none⟩ (.int .i64 ry)).setCell ⟨w.heap.size, 4, none⟩ (.int .i64 rz) := ⟨_, rfl⟩
    have HST8 := Lib.hid (show StkI w base w.heap.size (w.heap.size + 1) (.slice fa fn' fcap) (.slice va vn vc) rx ry rz fp co fn (m + 1) F (I ++ [x]) W8 from by rw [hW8]; exact HST7.out.set (by omega) hb rx ry rz)
    rw [← hW8]
    clear hW8 q0 q1 q2 q3 q4 q5 q6 f2 f3 f4 HST7 HST6 HST2
    obtain ⟨q0, q1, q2, q3, q4, q5, q6⟩ := HST8.out.s.cells
    have f6 := HST8.out.s.free 6
    have e6 : IntKind.i64.wrap (co + 1) = co + 1 := IntWalk.i64_in _ ⟨by omega, by omega⟩
    go_upto_region 4 with (fail)
    obtain ⟨W9, hW9⟩ : ∃ W9, W9 = W8.setCell ⟨w.heap.size, 6, none⟩ (.int .i64 (co + 1)) := ⟨_, rfl⟩
    have HST9 := Lib.hid (show StkI w base w.heap.size (w.heap.size + 1) (.slice fa fn' fcap) (.slice va vn vc) rx ry rz fp (co + 1) fn (m + 1) F (I ++ [x]) W9 from by rw [hW9]; exact HST8.out.count (by omega) hb (co + 1))
    rw [← hW9]
    clear hW9 q0 q1 q2 q3 q4 q5 q6 f6 e6 HST8
    obtain ⟨q0, q1, q2, q3, q4, q5, q6⟩ := HST9.out.s.cells
    obtain ⟨r0, r1, r2, r3, r4, r5, r6⟩ := HST9.out.r.cells
    have g0 := HST9.out.r.free
    go_wp2_with fail
    refine bodyPost_ret (by simp [results, Tryz.results83, go_sem, *]; try rfl) rfl ?_
    obtain ⟨o1, o2, o3⟩ := HST9.out.out (by omega) (.slice fa fn' fcap) (.slice va vn vc) (.int .i64 rx) (.int .i64 ry) (.int .i64 rz) (.int .i64 fp) (.int .i64 (co + 1))
    exact ⟨_, rfl, o2, o1, o3⟩
end Go.Proofs.YtolgclajlklmaaaGreat

namespace Go.Proofs.YtolgclajlklmaaaGreat
set_option linter.unusedSimpArgs false
set_option linter.unusedVariables false
open Go.RowKit
theorem own_short {w : World} {base e sz n k c : Nat} {a : Option Addr} {xs : List Value} (h : w.ownsRow base e sz (.slice a n c) n xs) (hk : k ≤ n) (hn : 0 < n) : w.ownsRow base e sz (.slice a k c) k (xs.take (k * sz)) := by
  obtain ⟨h1, h2⟩ := h
  rcases h2 with ⟨-, h0⟩ | ⟨g, cap, cur, hv, hlo, hg, h3, h4, h5, h6⟩
  · omega
  · simp only [Value.slice.injEq, true_and] at hv
    obtain ⟨rfl, rfl⟩ := hv
    have hle : k * sz ≤ n * sz := Nat.mul_le_mul_right sz hk
    refine ⟨by rw [List.length_take]; omega, .inr ⟨g, c, cur, rfl, hlo, hg, by omega, h4, h5, ?_⟩⟩
    rw [← h6, List.take_take, Nat.min_eq_left hle]
structure StkJ (w : World) (base : Nat) (fv iv : Value) (bx by' bz fl co : Int) (p : Bool) (x : Int) (fn m : Nat) (F : List Agg.V) (I : List Int) (W : World) : Prop where
  s : Box7 W w.heap.size 42 fv iv (.int .i64 bx) (.int .i64 by') (.int .i64 bz) (.int .i64 fl) (.int .i64 co)
  o : Box2 W (w.heap.size + 1) 76 (.bool p) (.int .i64 x)
  r : Box7 W (w.heap.size + 1 + 1) 42 (.slice none 0 0) (.slice none 0 0) (.int .i64 0) (.int .i64 0) (.int .i64 0) (.int .i64 0) (.int .i64 0)
  f : W.ownsRow base 40 3 fv fn (valRow F)
  i : W.ownsRow base 3 1 iv m (I.map (Value.int .i64))
  b : Below w.heap.size w W
  h : base ≤ W.heap.size
theorem ownS_set {w : World} {base e size n d o : Nat} {v u : Value} {xs : List Value} (h : w.ownsRow base e size v n xs) (hd : d < base) : (w.setCell ⟨d, o, none⟩ u).ownsRow base e size v n xs := ownsRow_setCell_below h hd u
theorem ownS_set7 {w : World} {base e size n d : Nat} {v : Value} {xs : List Value} (h : w.ownsRow base e size v n xs) (hd : d < base) (u0 u1 u2 u3 u4 u5 u6 : Value) :
    (((((((w.setCell ⟨d, 0, none⟩ u0).setCell ⟨d, 1, none⟩ u1).setCell ⟨d, 2, none⟩ u2).setCell ⟨d, 3, none⟩ u3).setCell ⟨d, 4, none⟩ u4).setCell ⟨d, 5, none⟩ u5).setCell ⟨d, 6, none⟩ u6).ownsRow base e size v n xs :=
  ownS_set (ownS_set (ownS_set (ownS_set (ownS_set (ownS_set (ownS_set h hd) hd) hd) hd) hd) hd) hd
theorem StkJ.set0 {w : World} {base : Nat} {fv iv fv' : Value} {bx by' bz fl co : Int} {p : Bool} {x : Int} {fn m fn' : Nat} {F F' : List Agg.V} {I : List Int} {W : World} (h : StkJ w base fv iv bx by' bz fl co p x fn m F I W) (hb : w.heap.size + 3 ≤ base) (hf : W.ownsRow base 40 3 fv' fn' (valRow F')) :
    StkJ w base fv' iv bx by' bz fl co p x fn' m F' I (W.setCell ⟨w.heap.size, 0, none⟩ fv') :=
  ⟨h.s.set0 _, h.o.other (by omega) _ _, h.r.other (by omega) _ _, ownS_set hf (by omega), ownS_set h.i (by omega), h.b.setCell (Nat.le_refl _) _, by rw [size_set]; exact h.h⟩
theorem StkJ.set1 {w : World} {base : Nat} {fv iv iv' : Value} {bx by' bz fl co : Int} {p : Bool} {x : Int} {fn m m' : Nat} {F : List Agg.V} {I I' : List Int} {W : World} (h : StkJ w base fv iv bx by' bz fl co p x fn m F I W) (hb : w.heap.size + 3 ≤ base) (hi : W.ownsRow base 3 1 iv' m' (I'.map (Value.int .i64))) :
    StkJ w base fv iv' bx by' bz fl co p x fn m' F I' (W.setCell ⟨w.heap.size, 1, none⟩ iv') :=
  ⟨h.s.set1 _, h.o.other (by omega) _ _, h.r.other (by omega) _ _, ownS_set h.f (by omega), ownS_set hi (by omega), h.b.setCell (Nat.le_refl _) _, by rw [size_set]; exact h.h⟩
theorem StkJ.call {w : World} {base : Nat} {fv iv : Value} {bx by' bz fl co : Int} {p : Bool} {x : Int} {fn m : Nat} {F : List Agg.V} {I : List Int} {X Y : World} (h : StkJ w base fv iv bx by' bz fl co p x fn m F I X) (hb : Below X.heap.size X Y) : StkJ w base fv iv bx by' bz fl co p x fn m F I Y :=
  ⟨h.s.call hb, h.o.call hb, h.r.call hb, h.f.kept (Below.grownNone hb none) (Classical.em _), h.i.kept (Below.grownNone hb none) (Classical.em _), h.b.trans (hb.mono h.b.size), Nat.le_trans h.h hb.size⟩
theorem StkJ.sets {w : World} {base : Nat} {fv iv fv' iv' : Value} {bx by' bz fl co : Int} {p : Bool} {x : Int} {fn m fn' m' : Nat} {F F' : List Agg.V} {I I' : List Int} {X Y : World} (h : StkJ w base fv iv bx by' bz fl co p x fn m F I X) (hb : w.heap.size + 3 ≤ base) (hB : Below base X Y)
    (hf : Y.ownsRow base 40 3 fv' fn' (valRow F')) (hi : Y.ownsRow base 3 1 iv' m' (I'.map (Value.int .i64))) (x' y' z' fl' co' : Int) :
    StkJ w base fv' iv' x' y' z' fl' co' p x fn' m' F' I' (((((((Y.setCell ⟨w.heap.size, 0, none⟩ fv').setCell ⟨w.heap.size, 1, none⟩ iv').setCell ⟨w.heap.size, 2, none⟩ (.int .i64 x')).setCell ⟨w.heap.size, 3, none⟩ (.int .i64 y')).setCell ⟨w.heap.size, 4, none⟩ (.int .i64 z')).setCell ⟨w.heap.size, 5, none⟩ (.int .i64 fl')).setCell ⟨w.heap.size, 6, none⟩ (.int .i64 co')) := by
  have hs : Box7 Y w.heap.size 42 fv iv (.int .i64 bx) (.int .i64 by') (.int .i64 bz) (.int .i64 fl) (.int .i64 co) := h.s.below hB (by omega)
  have ho : Box2 Y (w.heap.size + 1) 76 (.bool p) (.int .i64 x) := (hB.block _ (by omega)).trans h.o
  have hr : Box7 Y (w.heap.size + 1 + 1) 42 (.slice none 0 0) (.slice none 0 0) (.int .i64 0) (.int .i64 0) (.int .i64 0) (.int .i64 0) (.int .i64 0) := h.r.below hB (by omega)
  refine ⟨((((((hs.set0 _).set1 _).set2 _).set3 _).set4 _).set5 _).set6 _, ?_, ?_, ownS_set7 hf (by omega) _ _ _ _ _ _ _, ownS_set7 hi (by omega) _ _ _ _ _ _ _, sets7 (h.b.trans (hB.mono (by omega))) (Nat.le_refl _) _ _ _ _ _ _ _, ?_⟩
  · exact ((((((ho.other (by omega) _ _).other (by omega) _ _).other (by omega) _ _).other (by omega) _ _).other (by omega) _ _).other (by omega) _ _).other (by omega) _ _
  · exact ((((((hr.other (by omega) _ _).other (by omega) _ _).other (by omega) _ _).other (by omega) _ _).other (by omega) _ _).other (by omega) _ _).other (by omega) _ _
  · rw [size_sets7]; exact Nat.le_trans h.h hB.size
theorem stk_out {w Y : World} {base : Nat} {fv iv : Value} {s : Agg.S} (hb : w.heap.size + 3 ≤ base) (hB : Below w.heap.size w Y) (hf : Y.ownsRow base 40 3 fv s.front.length (valRow s.front)) (hi : Y.ownsRow base 3 1 iv s.items.length (s.items.map (Value.int .i64))) (u0 u1 u2 u3 u4 u5 u6 : Value) :
    StepOut true s w (.returned (.tuple #[.agg #[fv, iv, .int .i64 s.back.x, .int .i64 s.back.y, .int .i64 s.back.z, .int .i64 s.flips, .int .i64 s.cost], .bool true])) (((((((Y.setCell ⟨w.heap.size + 1 + 1, 0, none⟩ u0).setCell ⟨w.heap.size + 1 + 1, 1, none⟩ u1).setCell ⟨w.heap.size + 1 + 1, 2, none⟩ u2).setCell ⟨w.heap.size + 1 + 1, 3, none⟩ u3).setCell ⟨w.heap.size + 1 + 1, 4, none⟩ u4).setCell ⟨w.heap.size + 1 + 1, 5, none⟩ u5).setCell ⟨w.heap.size + 1 + 1, 6, none⟩ u6) := by
  have hB' := sets7 hB (c := w.heap.size + 1 + 1) (by omega) u0 u1 u2 u3 u4 u5 u6
  have h1 := ownS_set7 (d := w.heap.size + 1 + 1) hf (by omega) u0 u1 u2 u3 u4 u5 u6
  have h2 := ownS_set7 (d := w.heap.size + 1 + 1) hi (by omega) u0 u1 u2 u3 u4 u5 u6
  exact ⟨_, rfl, ⟨fv, iv, rfl, ⟨owns_lower h1 (by omega), hB'.size, Nat.le_refl _, fun g hg => (h1.lt g hg).2⟩, ⟨owns_lower h2 (by omega), hB'.size, Nat.le_refl _, fun g hg => (h2.lt g hg).2⟩⟩, hB'⟩
set_option maxRecDepth 8000 in
set_option maxHeartbeats 4000000 in
theorem stacksStep_not (k : Int) (fa : Option Addr) (fn fc : Nat) (ia : Option Addr) (m ic : Nat) (bx by' bz fl co : Int) (F : List Agg.V) (I : List Int) (p : Bool) (x : Int) (w : World) (hF : Vals w fa fn fc F) (hI : Nums .i64 w ia m ic I) (h1 : fn ≤ 4611686018427387) (h2 : m ≤ 4611686018427387) (hst : Agg.stepOk k ⟨F, I, ⟨bx, by', bz⟩, fl, co⟩ (p, x) = false) :
    Calls Tryz.prog 53 #[.int .i64 k, .agg #[.slice fa fn fc, .slice ia m ic, .int .i64 bx, .int .i64 by', .int .i64 bz, .int .i64 fl, .int .i64 co], .agg #[.bool p, .int .i64 x]] w (StepOut false Agg.zeroS w) := by
  obtain ⟨W, hW⟩ : ∃ W, W = ((w.alloc (.cells #[.slice fa fn fc, .slice ia m ic, .int .i64 bx, .int .i64 by', .int .i64 bz, .int .i64 fl, .int .i64 co] 42)).alloc (.cells #[.bool p, .int .i64 x] 76)).alloc (.cells #[.slice none 0 0, .slice none 0 0, .int .i64 0, .int .i64 0, .int .i64 0, .int .i64 0, .int .i64 0] 42) := ⟨_, rfl⟩
  have HA := Lib.hid (show Box7 W w.heap.size 42 (.slice fa fn fc) (.slice ia m ic) (.int .i64 bx) (.int .i64 by') (.int .i64 bz) (.int .i64 fl) (.int .i64 co) from by rw [hW]; exact ((Box7.new w _ _ _ _ _ _ _ _).alloc _).alloc _)
  have HP := Lib.hid (show Box2 W (w.heap.size + 1) 76 (.bool p) (.int .i64 x) from by rw [hW]; exact (Box2.new1 _ _ _ (by simp)).alloc _)
  have HR := Lib.hid (show Box7 W (w.heap.size + 1 + 1) 42 (.slice none 0 0) (.slice none 0 0) (.int .i64 0) (.int .i64 0) (.int .i64 0) (.int .i64 0) (.int .i64 0) from by rw [hW]; exact Box7.new1 _ _ _ _ _ _ _ _ (by simp))
  have HB := Lib.hid (show Below w.heap.size w W from by rw [hW]; exact (((Below.refl _ _).alloc (Nat.le_refl _) _).alloc (by simp) _).alloc (by simp; omega) _)
  have hFl : F.length = fn := hF.1
  have hIl : I.length = m := hI.1
  have hV := fun w hF hI => stacksValid_any k fa fn fc ia m ic bx by' bz fl co F I w hF hI h1 h2
  have HF := Lib.hid (hF.below HB.out)
  have HI := Lib.hid (hI.below HB.out)
  clear hF hI
  obtain ⟨q0, q1, q2, q3, q4, q5, q6⟩ := HA.out.cells
  obtain ⟨p0, p1⟩ := HP.out.cells
  cases hk : Agg.isKind k
  · have hk2 := Lib.hid (show ¬ (1 ≤ k ∧ k ≤ 10) by simpa [Agg.isKind] using hk)
    obtain ⟨s0, s1, s2, s3, s4, s5, s6⟩ := HR.out.cells
    have e0 := HR.out.free
    clear hV hst hk hFl hIl
    go_enter Tryz.func53, Tryz.ntmps53
    go_upto_region 1 with (fail)
    rw [← hW]
    clear hW
    go_wp2_with fail
    refine (kindOf_not _ _ hk2.out).mono ?_
    rintro e w1 ⟨rfl, rfl⟩
    go_wp2_with fail
    refine wp_region_held_drew (S := (fun X => (X.cell? ⟨w.heap.size, 0, none⟩ = some (.slice fa fn fc) ∧ X.cell? ⟨w.heap.size, 1, none⟩ = some (.slice ia m ic) ∧ X.cell? ⟨w.heap.size, 2, none⟩ = some (.int .i64 bx) ∧ X.cell? ⟨w.heap.size, 3, none⟩ = some (.int .i64 by') ∧ X.cell? ⟨w.heap.size, 4, none⟩ = some (.int .i64 bz) ∧ X.cell? ⟨w.heap.size, 5, none⟩ = some (.int .i64 fl) ∧ X.cell? ⟨w.heap.size, 6, none⟩ = some (.int .i64 co)) ∧ X.cell? ⟨w.heap.size + 1, 0, none⟩ = some (.bool p) ∧ X.cell? ⟨w.heap.size + 1, 1, none⟩ = some (.int .i64 x))) (by kernel_rfl) (by first | (refine ⟨⟨?_, ?_, ?_, ?_, ?_, ?_, ?_⟩, ?_, ?_⟩ <;> assumption)) (fun hHeld => ?_)
    refine zqt 0 ?_ ?_ (by assumption) ?_; rotate_left; (intro X hSw; (try dsimp only at hSw); go_simp; (try with_reducible rfl)); (try simp only [Act.put, zq1, zq2, zq3, zq4, zq5, zq6])
    refine zqt 1 ?_ ?_ (by assumption) ?_; rotate_left; (intro X hSw; (try dsimp only at hSw); go_simp; (try with_reducible rfl)); (try simp only [Act.put, zq1, zq2, zq3, zq4, zq5, zq6])
    refine zqt 2 ?_ ?_ (by assumption) ?_; rotate_left; (intro X hSw; (try dsimp only at hSw); go_simp; (try with_reducible rfl)); (try simp only [Act.put, zq1, zq2, zq3, zq4, zq5, zq6])
    first | (refine wpAnyH_take (i := 3) (v := undef) rfl (by kernel_rfl) (by kernel_rfl) (by kernel_rfl) (fun _ _ _ h => h) (Or.inr ⟨by rfl, rfl⟩) (by assumption) ?_; (try simp only [Act.put, zq1, zq2, zq3, zq4, zq5, zq6])) | fail "skip 3"
    first | (refine wpAnyH_take (i := 4) (v := undef) rfl (by kernel_rfl) (by kernel_rfl) (by kernel_rfl) (fun _ _ _ h => h) (Or.inr ⟨by rfl, rfl⟩) (by assumption) ?_; (try simp only [Act.put, zq1, zq2, zq3, zq4, zq5, zq6])) | fail "skip 4"
    first | (refine wpAnyH_take (i := 5) (v := undef) rfl (by kernel_rfl) (by kernel_rfl) (by kernel_rfl) (fun _ _ _ h => h) (Or.inr ⟨by rfl, rfl⟩) (by assumption) ?_; (try simp only [Act.put, zq1, zq2, zq3, zq4, zq5, zq6])) | fail "skip 5"
    first | (refine wpAnyH_take (i := 6) (v := undef) rfl (by kernel_rfl) (by kernel_rfl) (by kernel_rfl) (fun _ _ _ h => h) (Or.inr ⟨by rfl, rfl⟩) (by assumption) ?_; (try simp only [Act.put, zq1, zq2, zq3, zq4, zq5, zq6])) | fail "skip 6"
    refine zqt 7 ?_ ?_ (by assumption) ?_; rotate_left; (intro X hSw; (try dsimp only at hSw); go_simp; (try with_reducible rfl)); (try simp only [Act.put, zq1, zq2, zq3, zq4, zq5, zq6])
    refine zqt 8 ?_ ?_ (by assumption) ?_; rotate_left; (intro X hSw; (try dsimp only at hSw); go_simp; (try with_reducible rfl)); (try simp only [Act.put, zq1, zq2, zq3, zq4, zq5, zq6])
    first | (refine wpAnyH_take (i := 9) (v := undef) rfl (by kernel_rfl) (by kernel_rfl) (by kernel_rfl) (fun _ _ _ h => h) (Or.inr ⟨by rfl, rfl⟩) (by assumption) ?_; (try simp only [Act.put, zq1, zq2, zq3, zq4, zq5, zq6])) | fail "skip 9"
    first | (refine wpAnyH_take (i := 10) (v := undef) rfl (by kernel_rfl) (by kernel_rfl) (by kernel_rfl) (fun _ _ _ h => h) (Or.inr ⟨by rfl, rfl⟩) (by assumption) ?_; (try simp only [Act.put, zq1, zq2, zq3, zq4, zq5, zq6])) | fail "skip 10"
    first | (refine wpAnyH_take (i := 11) (v := undef) rfl (by kernel_rfl) (by kernel_rfl) (by kernel_rfl) (fun _ _ _ h => h) (Or.inr ⟨by rfl, rfl⟩) (by assumption) ?_; (try simp only [Act.put, zq1, zq2, zq3, zq4, zq5, zq6])) | fail "skip 11"
    first | (refine wpAnyH_take (i := 12) (v := undef) rfl (by kernel_rfl) (by kernel_rfl) (by kernel_rfl) (fun _ _ _ h => h) (Or.inr ⟨by rfl, rfl⟩) (by assumption) ?_; (try simp only [Act.put, zq1, zq2, zq3, zq4, zq5, zq6])) | fail "skip 12"
    first | (refine wpAnyH_take (i := 13) (v := undef) rfl (by kernel_rfl) (by kernel_rfl) (by kernel_rfl) (fun _ _ _ h => h) (Or.inr ⟨by rfl, rfl⟩) (by assumption) ?_; (try simp only [Act.put, zq1, zq2, zq3, zq4, zq5, zq6])) | fail "skip 13"
    first | (refine wpAnyH_take (i := 14) (v := undef) rfl (by kernel_rfl) (by kernel_rfl) (by kernel_rfl) (fun _ _ _ h => h) (Or.inr ⟨by rfl, rfl⟩) (by assumption) ?_; (try simp only [Act.put, zq1, zq2, zq3, zq4, zq5, zq6])) | fail "skip 14"
    refine zqt 15 ?_ ?_ (by assumption) ?_; rotate_left; (intro X hSw; (try dsimp only at hSw); go_simp; (try with_reducible rfl)); (try simp only [Act.put, zq1, zq2, zq3, zq4, zq5, zq6])
    refine zqt 16 ?_ ?_ (by assumption) ?_; rotate_left; (intro X hSw; (try dsimp only at hSw); go_simp; (try with_reducible rfl)); (try simp only [Act.put, zq1, zq2, zq3, zq4, zq5, zq6])
    first | (refine wpAnyH_take (i := 17) (v := undef) rfl (by kernel_rfl) (by kernel_rfl) (by kernel_rfl) (fun _ _ _ h => h) (Or.inr ⟨by rfl, rfl⟩) (by assumption) ?_; (try simp only [Act.put, zq1, zq2, zq3, zq4, zq5, zq6])) | fail "skip 17"
    first | (refine wpAnyH_take (i := 18) (v := undef) rfl (by kernel_rfl) (by kernel_rfl) (by kernel_rfl) (fun _ _ _ h => h) (Or.inr ⟨by rfl, rfl⟩) (by assumption) ?_; (try simp only [Act.put, zq1, zq2, zq3, zq4, zq5, zq6])) | fail "skip 18"
    first | (refine wpAnyH_take (i := 19) (v := undef) rfl (by kernel_rfl) (by kernel_rfl) (by kernel_rfl) (fun _ _ _ h => h) (Or.inr ⟨by rfl, rfl⟩) (by assumption) ?_; (try simp only [Act.put, zq1, zq2, zq3, zq4, zq5, zq6])) | fail "skip 19"
    first | (refine wpAnyH_take (i := 20) (v := undef) rfl (by kernel_rfl) (by kernel_rfl) (by kernel_rfl) (fun _ _ _ h => h) (Or.inr ⟨by rfl, rfl⟩) (by assumption) ?_; (try simp only [Act.put, zq1, zq2, zq3, zq4, zq5, zq6])) | fail "skip 20"
    first | (refine wpAnyH_take (i := 21) (v := undef) rfl (by kernel_rfl) (by kernel_rfl) (by kernel_rfl) (fun _ _ _ h => h) (Or.inr ⟨by rfl, rfl⟩) (by assumption) ?_; (try simp only [Act.put, zq1, zq2, zq3, zq4, zq5, zq6])) | fail "skip 21"
    refine zqt 22 ?_ ?_ (by assumption) ?_; rotate_left; (intro X hSw; (try dsimp only at hSw); go_simp; (try with_reducible rfl)); (try simp only [Act.put, zq1, zq2, zq3, zq4, zq5, zq6])
    refine wpAnyH_done (by kernel_rfl) ?_ _
    go_wp2_with fail
    refine bodyPost_ret (by simp [results, Tryz.results53, go_sem, *]; try rfl) rfl ?_
    exact StepOut.zero (sets7 HB.out (by omega) _ _ _ _ _ _ _).drew
  · obtain ⟨T, fu, fL, fC, K⟩ := kind_at hk
    have HKO := Lib.hid K.of
    clear K hk
    cases hok : Agg.sOk k ⟨F, I, ⟨bx, by', bz⟩, fl, co⟩
    · rw [hok] at hV
      have HV := Lib.hid hV
      clear hV hst hok hFl hIl
      go_enter Tryz.func53, Tryz.ntmps53
      go_upto_region 1 with (fail)
      rw [← hW]
      clear hW
      go_wp2_with fail
      refine (HKO.out _).mono ?_
      rintro e w1 ⟨rfl, rfl⟩
      go_wp2_with fail
      refine wp_region_held_drew (S := (fun X => (X.cell? ⟨w.heap.size, 0, none⟩ = some (.slice fa fn fc) ∧ X.cell? ⟨w.heap.size, 1, none⟩ = some (.slice ia m ic) ∧ X.cell? ⟨w.heap.size, 2, none⟩ = some (.int .i64 bx) ∧ X.cell? ⟨w.heap.size, 3, none⟩ = some (.int .i64 by') ∧ X.cell? ⟨w.heap.size, 4, none⟩ = some (.int .i64 bz) ∧ X.cell? ⟨w.heap.size, 5, none⟩ = some (.int .i64 fl) ∧ X.cell? ⟨w.heap.size, 6, none⟩ = some (.int .i64 co)) ∧ X.cell? ⟨w.heap.size + 1, 0, none⟩ = some (.bool p) ∧ X.cell? ⟨w.heap.size + 1, 1, none⟩ = some (.int .i64 x))) (by kernel_rfl) (by first | (refine ⟨⟨?_, ?_, ?_, ?_, ?_, ?_, ?_⟩, ?_, ?_⟩ <;> assumption)) (fun hHeld => ?_)
      refine zqt 0 ?_ ?_ (by assumption) ?_; rotate_left; (intro X hSw; (try dsimp only at hSw); go_simp; (try with_reducible rfl)); (try simp only [Act.put, zq1, zq2, zq3, zq4, zq5, zq6])
      refine zqt 1 ?_ ?_ (by assumption) ?_; rotate_left; (intro X hSw; (try dsimp only at hSw); go_simp; (try with_reducible rfl)); (try simp only [Act.put, zq1, zq2, zq3, zq4, zq5, zq6])
      refine zqt 2 ?_ ?_ (by assumption) ?_; rotate_left; (intro X hSw; (try dsimp only at hSw); go_simp; (try with_reducible rfl)); (try simp only [Act.put, zq1, zq2, zq3, zq4, zq5, zq6])
      refine zqt 3 ?_ ?_ (by assumption) ?_; rotate_left; (intro X hSw; (try dsimp only at hSw); go_simp; (try with_reducible rfl)); (try simp only [Act.put, zq1, zq2, zq3, zq4, zq5, zq6])
      refine zqt 4 ?_ ?_ (by assumption) ?_; rotate_left; (intro X hSw; (try dsimp only at hSw); go_simp; (try with_reducible rfl)); (try simp only [Act.put, zq1, zq2, zq3, zq4, zq5, zq6])
      refine wpAnyH_ready (rs := [5]) (by kernel_rfl) (by simp) ?_
      refine AllReadyH.cons rfl (fun K hK => ?_) AllReadyH.nil
      go_simp
      refine (HV.out _ (show Vals W.drew _ _ _ _ from HF.out) (show Nums .i64 W.drew _ _ _ _ from HI.out)).mono ?_
      rintro e w1 ⟨rfl, hb1⟩
      have HA1 := Lib.hid (HA.out.callD hb1)
      have HP1 := Lib.hid (Box2.call (w := W.drew) HP.out hb1)
      have HR1 := Lib.hid (HR.out.callD hb1)
      have HF1 := Lib.hid (Vals.below (w := W.drew) HF.out hb1)
      have HI1 := Lib.hid (Nums.below (w := W.drew) HI.out hb1)
      have HB1 := Lib.hid (v_below_callD HB.out hb1)
      obtain ⟨q0, q1, q2, q3, q4, q5, q6⟩ := HA1.out.cells
      obtain ⟨p0, p1⟩ := HP1.out.cells
      clear hb1
      (try dsimp only)
      refine hK.out _ _ (by first | (refine ⟨⟨?_, ?_, ?_, ?_, ?_, ?_, ?_⟩, ?_, ?_⟩ <;> assumption)) (fun hHeld => ?_)
      clear hK K
      (try simp only [Act.put, zq1, zq2, zq3, zq4, zq5, zq6])
      refine zqt 6 ?_ ?_ (by assumption) ?_; rotate_left; (intro X hSw; (try dsimp only at hSw); go_simp; (try with_reducible rfl)); (try simp only [Act.put, zq1, zq2, zq3, zq4, zq5, zq6])
      refine zqt 7 ?_ ?_ (by assumption) ?_; rotate_left; (intro X hSw; (try dsimp only at hSw); go_simp; (try with_reducible rfl)); (try simp only [Act.put, zq1, zq2, zq3, zq4, zq5, zq6])
      refine zqt 8 ?_ ?_ (by assumption) ?_; rotate_left; (intro X hSw; (try dsimp only at hSw); go_simp; (try with_reducible rfl)); (try simp only [Act.put, zq1, zq2, zq3, zq4, zq5, zq6])
      first | (refine wpAnyH_take (i := 9) (v := undef) rfl (by kernel_rfl) (by kernel_rfl) (by kernel_rfl) (fun _ _ _ h => h) (Or.inr ⟨by rfl, rfl⟩) (by assumption) ?_; (try simp only [Act.put, zq1, zq2, zq3, zq4, zq5, zq6])) | fail "skip 9"
      first | (refine wpAnyH_take (i := 10) (v := undef) rfl (by kernel_rfl) (by kernel_rfl) (by kernel_rfl) (fun _ _ _ h => h) (Or.inr ⟨by rfl, rfl⟩) (by assumption) ?_; (try simp only [Act.put, zq1, zq2, zq3, zq4, zq5, zq6])) | fail "skip 10"
      first | (refine wpAnyH_take (i := 11) (v := undef) rfl (by kernel_rfl) (by kernel_rfl) (by kernel_rfl) (fun _ _ _ h => h) (Or.inr ⟨by rfl, rfl⟩) (by assumption) ?_; (try simp only [Act.put, zq1, zq2, zq3, zq4, zq5, zq6])) | fail "skip 11"
      first | (refine wpAnyH_take (i := 12) (v := undef) rfl (by kernel_rfl) (by kernel_rfl) (by kernel_rfl) (fun _ _ _ h => h) (Or.inr ⟨by rfl, rfl⟩) (by assumption) ?_; (try simp only [Act.put, zq1, zq2, zq3, zq4, zq5, zq6])) | fail "skip 12"
      first | (refine wpAnyH_take (i := 13) (v := undef) rfl (by kernel_rfl) (by kernel_rfl) (by kernel_rfl) (fun _ _ _ h => h) (Or.inr ⟨by rfl, rfl⟩) (by assumption) ?_; (try simp only [Act.put, zq1, zq2, zq3, zq4, zq5, zq6])) | fail "skip 13"
      first | (refine wpAnyH_take (i := 14) (v := undef) rfl (by kernel_rfl) (by kernel_rfl) (by kernel_rfl) (fun _ _ _ h => h) (Or.inr ⟨by rfl, rfl⟩) (by assumption) ?_; (try simp only [Act.put, zq1, zq2, zq3, zq4, zq5, zq6])) | fail "skip 14"
      refine zqt 15 ?_ ?_ (by assumption) ?_; rotate_left; (intro X hSw; (try dsimp only at hSw); go_simp; (try with_reducible rfl)); (try simp only [Act.put, zq1, zq2, zq3, zq4, zq5, zq6])
      refine zqt 16 ?_ ?_ (by assumption) ?_; rotate_left; (intro X hSw; (try dsimp only at hSw); go_simp; (try with_reducible rfl)); (try simp only [Act.put, zq1, zq2, zq3, zq4, zq5, zq6])
      first | (refine wpAnyH_take (i := 17) (v := undef) rfl (by kernel_rfl) (by kernel_rfl) (by kernel_rfl) (fun _ _ _ h => h) (Or.inr ⟨by rfl, rfl⟩) (by assumption) ?_; (try simp only [Act.put, zq1, zq2, zq3, zq4, zq5, zq6])) | fail "skip 17"
      first | (refine wpAnyH_take (i := 18) (v := undef) rfl (by kernel_rfl) (by kernel_rfl) (by kernel_rfl) (fun _ _ _ h => h) (Or.inr ⟨by rfl, rfl⟩) (by assumption) ?_; (try simp only [Act.put, zq1, zq2, zq3, zq4, zq5, zq6])) | fail "skip 18"
      first | (refine wpAnyH_take (i := 19) (v := undef) rfl (by kernel_rfl) (by kernel_rfl) (by kernel_rfl) (fun _ _ _ h => h) (Or.inr ⟨by rfl, rfl⟩) (by assumption) ?_; (try simp only [Act.put, zq1, zq2, zq3, zq4, zq5, zq6])) | fail "skip 19"
      first | (refine wpAnyH_take (i := 20) (v := undef) rfl (by kernel_rfl) (by kernel_rfl) (by kernel_rfl) (fun _ _ _ h => h) (Or.inr ⟨by rfl, rfl⟩) (by assumption) ?_; (try simp only [Act.put, zq1, zq2, zq3, zq4, zq5, zq6])) | fail "skip 20"
      first | (refine wpAnyH_take (i := 21) (v := undef) rfl (by kernel_rfl) (by kernel_rfl) (by kernel_rfl) (fun _ _ _ h => h) (Or.inr ⟨by rfl, rfl⟩) (by assumption) ?_; (try simp only [Act.put, zq1, zq2, zq3, zq4, zq5, zq6])) | fail "skip 21"
      refine zqt 22 ?_ ?_ (by assumption) ?_; rotate_left; (intro X hSw; (try dsimp only at hSw); go_simp; (try with_reducible rfl)); (try simp only [Act.put, zq1, zq2, zq3, zq4, zq5, zq6])
      refine wpAnyH_done (by kernel_rfl) ?_ _
      obtain ⟨s0, s1, s2, s3, s4, s5, s6⟩ := HR1.out.cells
      have e0 := HR1.out.free
      go_wp2_with fail
      refine bodyPost_ret (by simp [results, Tryz.results53, go_sem, *]; try rfl) rfl ?_
      exact StepOut.zero (sets7 HB1.out (by omega) _ _ _ _ _ _ _)
    · rw [hok] at hV
      have HV := Lib.hid hV
      have hbd := Agg.sOk_bounds hok
      simp only at hbd
      obtain ⟨hf0, hf1, hc0, hc1⟩ := hbd
      clear hV
      obtain ⟨mx, hme⟩ : ∃ mx, (if fl < co then co else fl) = mx := ⟨_, rfl⟩
      by_cases hmx : 900000 < mx
      · clear hst hok hFl hIl
        go_enter Tryz.func53, Tryz.ntmps53
        go_upto_region 1 with (fail)
        rw [← hW]
        clear hW
        go_wp2_with fail
        refine (HKO.out _).mono ?_
        rintro e w1 ⟨rfl, rfl⟩
        go_wp2_with fail
        refine wp_region_held_drew (S := (fun X => (X.cell? ⟨w.heap.size, 0, none⟩ = some (.slice fa fn fc) ∧ X.cell? ⟨w.heap.size, 1, none⟩ = some (.slice ia m ic) ∧ X.cell? ⟨w.heap.size, 2, none⟩ = some (.int .i64 bx) ∧ X.cell? ⟨w.heap.size, 3, none⟩ = some (.int .i64 by') ∧ X.cell? ⟨w.heap.size, 4, none⟩ = some (.int .i64 bz) ∧ X.cell? ⟨w.heap.size, 5, none⟩ = some (.int .i64 fl) ∧ X.cell? ⟨w.heap.size, 6, none⟩ = some (.int .i64 co)) ∧ X.cell? ⟨w.heap.size + 1, 0, none⟩ = some (.bool p) ∧ X.cell? ⟨w.heap.size + 1, 1, none⟩ = some (.int .i64 x))) (by kernel_rfl) (by first | (refine ⟨⟨?_, ?_, ?_, ?_, ?_, ?_, ?_⟩, ?_, ?_⟩ <;> assumption)) (fun hHeld => ?_)
        refine zqt 0 ?_ ?_ (by assumption) ?_; rotate_left; (intro X hSw; (try dsimp only at hSw); go_simp; (try with_reducible rfl)); (try simp only [Act.put, zq1, zq2, zq3, zq4, zq5, zq6])
        refine zqt 1 ?_ ?_ (by assumption) ?_; rotate_left; (intro X hSw; (try dsimp only at hSw); go_simp; (try with_reducible rfl)); (try simp only [Act.put, zq1, zq2, zq3, zq4, zq5, zq6])
        refine zqt 2 ?_ ?_ (by assumption) ?_; rotate_left; (intro X hSw; (try dsimp only at hSw); go_simp; (try with_reducible rfl)); (try simp only [Act.put, zq1, zq2, zq3, zq4, zq5, zq6])
        refine zqt 3 ?_ ?_ (by assumption) ?_; rotate_left; (intro X hSw; (try dsimp only at hSw); go_simp; (try with_reducible rfl)); (try simp only [Act.put, zq1, zq2, zq3, zq4, zq5, zq6])
        refine zqt 4 ?_ ?_ (by assumption) ?_; rotate_left; (intro X hSw; (try dsimp only at hSw); go_simp; (try with_reducible rfl)); (try simp only [Act.put, zq1, zq2, zq3, zq4, zq5, zq6])
        refine wpAnyH_ready (rs := [5]) (by kernel_rfl) (by simp) ?_
        refine AllReadyH.cons rfl (fun K hK => ?_) AllReadyH.nil
        go_simp
        refine (HV.out _ (show Vals W.drew _ _ _ _ from HF.out) (show Nums .i64 W.drew _ _ _ _ from HI.out)).mono ?_
        rintro e w1 ⟨rfl, hb1⟩
        have HA1 := Lib.hid (HA.out.callD hb1)
        have HP1 := Lib.hid (Box2.call (w := W.drew) HP.out hb1)
        have HR1 := Lib.hid (HR.out.callD hb1)
        have HF1 := Lib.hid (Vals.below (w := W.drew) HF.out hb1)
        have HI1 := Lib.hid (Nums.below (w := W.drew) HI.out hb1)
        have HB1 := Lib.hid (v_below_callD HB.out hb1)
        obtain ⟨q0, q1, q2, q3, q4, q5, q6⟩ := HA1.out.cells
        obtain ⟨p0, p1⟩ := HP1.out.cells
        clear hb1
        (try dsimp only)
        refine hK.out _ _ (by first | (refine ⟨⟨?_, ?_, ?_, ?_, ?_, ?_, ?_⟩, ?_, ?_⟩ <;> assumption)) (fun hHeld => ?_)
        clear hK K
        (try simp only [Act.put, zq1, zq2, zq3, zq4, zq5, zq6])
        refine zqt 6 ?_ ?_ (by assumption) ?_; rotate_left; (intro X hSw; (try dsimp only at hSw); go_simp; (try with_reducible rfl)); (try simp only [Act.put, zq1, zq2, zq3, zq4, zq5, zq6])
        refine zqt 7 ?_ ?_ (by assumption) ?_; rotate_left; (intro X hSw; (try dsimp only at hSw); go_simp; (try with_reducible rfl)); (try simp only [Act.put, zq1, zq2, zq3, zq4, zq5, zq6])
        refine zqt 8 ?_ ?_ (by assumption) ?_; rotate_left; (intro X hSw; (try dsimp only at hSw); go_simp; (try with_reducible rfl)); (try simp only [Act.put, zq1, zq2, zq3, zq4, zq5, zq6])
        refine zqt 9 ?_ ?_ (by assumption) ?_; rotate_left; (intro X hSw; (try dsimp only at hSw); go_simp; (try with_reducible rfl)); (try simp only [Act.put, zq1, zq2, zq3, zq4, zq5, zq6])
        refine zqt 10 ?_ ?_ (by assumption) ?_; rotate_left; (intro X hSw; (try dsimp only at hSw); go_simp; (try with_reducible rfl)); (try simp only [Act.put, zq1, zq2, zq3, zq4, zq5, zq6])
        refine zqt 11 ?_ ?_ (by assumption) ?_; rotate_left; (intro X hSw; (try dsimp only at hSw); go_simp; (try with_reducible rfl)); (try simp only [Act.put, zq1, zq2, zq3, zq4, zq5, zq6])
        refine zqt 12 ?_ ?_ (by assumption) ?_; rotate_left; (intro X hSw; (try dsimp only at hSw); go_simp; (try with_reducible rfl)); (try simp only [Act.put, zq1, zq2, zq3, zq4, zq5, zq6])
        refine zqt 13 ?_ ?_ (by assumption) ?_; rotate_left; (intro X hSw; (try dsimp only at hSw); go_simp; (try with_reducible rfl)); (try simp only [Act.put, zq1, zq2, zq3, zq4, zq5, zq6])
        refine zqt 14 ?_ ?_ (by assumption) ?_; rotate_left; (intro X hSw; (try dsimp only at hSw); go_simp; (try with_reducible rfl)); (try simp only [Act.put, zq1, zq2, zq3, zq4, zq5, zq6])
        refine zqt 15 ?_ ?_ (by assumption) ?_; rotate_left; (intro X hSw; (try dsimp only at hSw); go_simp; (try with_reducible rfl)); (try simp only [Act.put, zq1, zq2, zq3, zq4, zq5, zq6])
        refine zqt 16 ?_ ?_ (by assumption) ?_; rotate_left; (intro X hSw; (try dsimp only at hSw); go_simp; (try with_reducible rfl)); (try simp only [Act.put, zq1, zq2, zq3, zq4, zq5, zq6])
        first | (refine wpAnyH_take (i := 17) (v := undef) rfl (by kernel_rfl) (by kernel_rfl) (by kernel_rfl) (fun _ _ _ h => h) (Or.inr ⟨by rfl, rfl⟩) (by assumption) ?_; (try simp only [Act.put, zq1, zq2, zq3, zq4, zq5, zq6])) | fail "skip 17"
        first | (refine wpAnyH_take (i := 18) (v := undef) rfl (by kernel_rfl) (by kernel_rfl) (by kernel_rfl) (fun _ _ _ h => h) (Or.inr ⟨by rfl, rfl⟩) (by assumption) ?_; (try simp only [Act.put, zq1, zq2, zq3, zq4, zq5, zq6])) | fail "skip 18"
        first | (refine wpAnyH_take (i := 19) (v := undef) rfl (by kernel_rfl) (by kernel_rfl) (by kernel_rfl) (fun _ _ _ h => h) (Or.inr ⟨by rfl, rfl⟩) (by assumption) ?_; (try simp only [Act.put, zq1, zq2, zq3, zq4, zq5, zq6])) | fail "skip 19"
        first | (refine wpAnyH_take (i := 20) (v := undef) rfl (by kernel_rfl) (by kernel_rfl) (by kernel_rfl) (fun _ _ _ h => h) (Or.inr ⟨by rfl, rfl⟩) (by assumption) ?_; (try simp only [Act.put, zq1, zq2, zq3, zq4, zq5, zq6])) | fail "skip 20"
        first | (refine wpAnyH_take (i := 21) (v := undef) rfl (by kernel_rfl) (by kernel_rfl) (by kernel_rfl) (fun _ _ _ h => h) (Or.inr ⟨by rfl, rfl⟩) (by assumption) ?_; (try simp only [Act.put, zq1, zq2, zq3, zq4, zq5, zq6])) | fail "skip 21"
        refine zqt 22 ?_ ?_ (by assumption) ?_; rotate_left; (intro X hSw; (try dsimp only at hSw); go_simp; (try with_reducible rfl)); (try simp only [Act.put, zq1, zq2, zq3, zq4, zq5, zq6])
        refine wpAnyH_done (by kernel_rfl) ?_ _
        obtain ⟨s0, s1, s2, s3, s4, s5, s6⟩ := HR1.out.cells
        have e0 := HR1.out.free
        go_wp2_with fail
        refine bodyPost_ret (by simp [results, Tryz.results53, go_sem, *]; try rfl) rfl ?_
        exact StepOut.zero (sets7 HB1.out (by omega) _ _ _ _ _ _ _)
      · have hmd := decide_eq_false hmx
        obtain ⟨hx1, hx2⟩ : fl ≤ 900000 ∧ co ≤ 900000 := by split at hme <;> omega
        have hcan : Agg.can (p, x) ((fn : Int) + (m : Int)) = false := by
          simp only [Agg.stepOk, hok, Bool.true_and] at hst
          rw [decide_eq_true (show fl ≤ 900000 by omega), decide_eq_true (show co ≤ 900000 by omega)] at hst
          simp only [Bool.true_and, Agg.S.size, hFl, hIl] at hst
          rw [← hst]; push_cast; rfl
        have hC := fun w => canChange_any p x ((fn : Int) + (m : Int)) w
        rw [hcan] at hC
        have HC := Lib.hid hC
        clear hst hok hC hcan hFl hIl hx1 hx2 hmx
        go_enter Tryz.func53, Tryz.ntmps53
        go_upto_region 1 with (fail)
        rw [← hW]
        clear hW
        go_wp2_with fail
        refine (HKO.out _).mono ?_
        rintro e w1 ⟨rfl, rfl⟩
        go_wp2_with fail
        refine wp_region_held_drew (S := (fun X => (X.cell? ⟨w.heap.size, 0, none⟩ = some (.slice fa fn fc) ∧ X.cell? ⟨w.heap.size, 1, none⟩ = some (.slice ia m ic) ∧ X.cell? ⟨w.heap.size, 2, none⟩ = some (.int .i64 bx) ∧ X.cell? ⟨w.heap.size, 3, none⟩ = some (.int .i64 by') ∧ X.cell? ⟨w.heap.size, 4, none⟩ = some (.int .i64 bz) ∧ X.cell? ⟨w.heap.size, 5, none⟩ = some (.int .i64 fl) ∧ X.cell? ⟨w.heap.size, 6, none⟩ = some (.int .i64 co)) ∧ X.cell? ⟨w.heap.size + 1, 0, none⟩ = some (.bool p) ∧ X.cell? ⟨w.heap.size + 1, 1, none⟩ = some (.int .i64 x))) (by kernel_rfl) (by first | (refine ⟨⟨?_, ?_, ?_, ?_, ?_, ?_, ?_⟩, ?_, ?_⟩ <;> assumption)) (fun hHeld => ?_)
        refine zqt 0 ?_ ?_ (by assumption) ?_; rotate_left; (intro X hSw; (try dsimp only at hSw); go_simp; (try with_reducible rfl)); (try simp only [Act.put, zq1, zq2, zq3, zq4, zq5, zq6])
        refine zqt 1 ?_ ?_ (by assumption) ?_; rotate_left; (intro X hSw; (try dsimp only at hSw); go_simp; (try with_reducible rfl)); (try simp only [Act.put, zq1, zq2, zq3, zq4, zq5, zq6])
        refine zqt 2 ?_ ?_ (by assumption) ?_; rotate_left; (intro X hSw; (try dsimp only at hSw); go_simp; (try with_reducible rfl)); (try simp only [Act.put, zq1, zq2, zq3, zq4, zq5, zq6])
        refine zqt 3 ?_ ?_ (by assumption) ?_; rotate_left; (intro X hSw; (try dsimp only at hSw); go_simp; (try with_reducible rfl)); (try simp only [Act.put, zq1, zq2, zq3, zq4, zq5, zq6])
        refine zqt 4 ?_ ?_ (by assumption) ?_; rotate_left; (intro X hSw; (try dsimp only at hSw); go_simp; (try with_reducible rfl)); (try simp only [Act.put, zq1, zq2, zq3, zq4, zq5, zq6])
        refine wpAnyH_ready (rs := [5]) (by kernel_rfl) (by simp) ?_
        refine AllReadyH.cons rfl (fun K hK => ?_) AllReadyH.nil
        go_simp
        refine (HV.out _ (show Vals W.drew _ _ _ _ from HF.out) (show Nums .i64 W.drew _ _ _ _ from HI.out)).mono ?_
        rintro e w1 ⟨rfl, hb1⟩
        have HA1 := Lib.hid (HA.out.callD hb1)
        have HP1 := Lib.hid (Box2.call (w := W.drew) HP.out hb1)
        have HR1 := Lib.hid (HR.out.callD hb1)
        have HF1 := Lib.hid (Vals.below (w := W.drew) HF.out hb1)
        have HI1 := Lib.hid (Nums.below (w := W.drew) HI.out hb1)
        have HB1 := Lib.hid (v_below_callD HB.out hb1)
        obtain ⟨q0, q1, q2, q3, q4, q5, q6⟩ := HA1.out.cells
        obtain ⟨p0, p1⟩ := HP1.out.cells
        clear hb1
        (try dsimp only)
        refine hK.out _ _ (by first | (refine ⟨⟨?_, ?_, ?_, ?_, ?_, ?_, ?_⟩, ?_, ?_⟩ <;> assumption)) (fun hHeld => ?_)
        clear hK K
        (try simp only [Act.put, zq1, zq2, zq3, zq4, zq5, zq6])
        refine zqt 6 ?_ ?_ (by assumption) ?_; rotate_left; (intro X hSw; (try dsimp only at hSw); go_simp; (try with_reducible rfl)); (try simp only [Act.put, zq1, zq2, zq3, zq4, zq5, zq6])
        refine zqt 7 ?_ ?_ (by assumption) ?_; rotate_left; (intro X hSw; (try dsimp only at hSw); go_simp; (try with_reducible rfl)); (try simp only [Act.put, zq1, zq2, zq3, zq4, zq5, zq6])
        refine zqt 8 ?_ ?_ (by assumption) ?_; rotate_left; (intro X hSw; (try dsimp only at hSw); go_simp; (try with_reducible rfl)); (try simp only [Act.put, zq1, zq2, zq3, zq4, zq5, zq6])
        refine zqt 9 ?_ ?_ (by assumption) ?_; rotate_left; (intro X hSw; (try dsimp only at hSw); go_simp; (try with_reducible rfl)); (try simp only [Act.put, zq1, zq2, zq3, zq4, zq5, zq6])
        refine zqt 10 ?_ ?_ (by assumption) ?_; rotate_left; (intro X hSw; (try dsimp only at hSw); go_simp; (try with_reducible rfl)); (try simp only [Act.put, zq1, zq2, zq3, zq4, zq5, zq6])
        refine zqt 11 ?_ ?_ (by assumption) ?_; rotate_left; (intro X hSw; (try dsimp only at hSw); go_simp; (try with_reducible rfl)); (try simp only [Act.put, zq1, zq2, zq3, zq4, zq5, zq6])
        refine zqt 12 ?_ ?_ (by assumption) ?_; rotate_left; (intro X hSw; (try dsimp only at hSw); go_simp; (try with_reducible rfl)); (try simp only [Act.put, zq1, zq2, zq3, zq4, zq5, zq6])
        refine zqt 13 ?_ ?_ (by assumption) ?_; rotate_left; (intro X hSw; (try dsimp only at hSw); go_simp; (try with_reducible rfl)); (try simp only [Act.put, zq1, zq2, zq3, zq4, zq5, zq6])
        refine zqt 14 ?_ ?_ (by assumption) ?_; rotate_left; (intro X hSw; (try dsimp only at hSw); go_simp; (try with_reducible rfl)); (try simp only [Act.put, zq1, zq2, zq3, zq4, zq5, zq6])
        refine zqt 15 ?_ ?_ (by assumption) ?_; rotate_left; (intro X hSw; (try dsimp only at hSw); go_simp; (try with_reducible rfl)); (try simp only [Act.put, zq1, zq2, zq3, zq4, zq5, zq6])
        refine zqt 16 ?_ ?_ (by assumption) ?_; rotate_left; (intro X hSw; (try dsimp only at hSw); go_simp; (try with_reducible rfl)); (try simp only [Act.put, zq1, zq2, zq3, zq4, zq5, zq6])
        refine zqt 17 ?_ ?_ (by assumption) ?_; rotate_left; (intro X hSw; (try dsimp only at hSw); go_simp; (try with_reducible rfl)); (try simp only [Act.put, zq1, zq2, zq3, zq4, zq5, zq6])
        refine zqt 18 ?_ ?_ (by assumption) ?_; rotate_left; (intro X hSw; (try dsimp only at hSw); go_simp; (try with_reducible rfl)); (try simp only [Act.put, zq1, zq2, zq3, zq4, zq5, zq6])
        refine wpAnyH_ready (rs := [19]) (by kernel_rfl) (by simp) ?_
        refine AllReadyH.cons rfl (fun K hK => ?_) AllReadyH.nil
        go_simp
        refine (stacksSize_any fa fn fc ia m ic bx by' bz fl co _ h1 h2).mono ?_
        rintro e w2 ⟨rfl, hb2⟩
        have HA2 := Lib.hid (HA1.out.call hb2)
        have HP2 := Lib.hid (HP1.out.call hb2)
        have HR2 := Lib.hid (HR1.out.call hb2)
        have HF2 := Lib.hid (HF1.out.below hb2)
        have HI2 := Lib.hid (HI1.out.below hb2)
        have HB2 := Lib.hid (HB1.out.trans (hb2.mono HB1.out.size))
        obtain ⟨q0, q1, q2, q3, q4, q5, q6⟩ := HA2.out.cells
        obtain ⟨p0, p1⟩ := HP2.out.cells
        clear hb2
        (try dsimp only)
        refine hK.out _ _ (by first | (refine ⟨⟨?_, ?_, ?_, ?_, ?_, ?_, ?_⟩, ?_, ?_⟩ <;> assumption)) (fun hHeld => ?_)
        clear hK K
        (try simp only [Act.put, zq1, zq2, zq3, zq4, zq5, zq6])
        refine wpAnyH_ready (rs := [20]) (by kernel_rfl) (by simp) ?_
        refine AllReadyH.cons rfl (fun K hK => ?_) AllReadyH.nil
        go_simp
        refine (HC.out _).mono ?_
        rintro e w3 ⟨rfl, hb3⟩
        have HA3 := Lib.hid (HA2.out.call hb3)
        have HP3 := Lib.hid (HP2.out.call hb3)
        have HR3 := Lib.hid (HR2.out.call hb3)
        have HF3 := Lib.hid (HF2.out.below hb3)
        have HI3 := Lib.hid (HI2.out.below hb3)
        have HB3 := Lib.hid (HB2.out.trans (hb3.mono HB2.out.size))
        obtain ⟨q0, q1, q2, q3, q4, q5, q6⟩ := HA3.out.cells
        obtain ⟨p0, p1⟩ := HP3.out.cells
        clear hb3
        (try dsimp only)
        refine hK.out _ _ (by first | (refine ⟨⟨?_, ?_, ?_, ?_, ?_, ?_, ?_⟩, ?_, ?_⟩ <;> assumption)) (fun hHeld => ?_)
        clear hK K
        (try simp only [Act.put, zq1, zq2, zq3, zq4, zq5, zq6])
        refine zqt 21 ?_ ?_ (by assumption) ?_; rotate_left; (intro X hSw; (try dsimp only at hSw); go_simp; (try with_reducible rfl)); (try simp only [Act.put, zq1, zq2, zq3, zq4, zq5, zq6])
        refine zqt 22 ?_ ?_ (by assumption) ?_; rotate_left; (intro X hSw; (try dsimp only at hSw); go_simp; (try with_reducible rfl)); (try simp only [Act.put, zq1, zq2, zq3, zq4, zq5, zq6])
        refine wpAnyH_done (by kernel_rfl) ?_ _
        obtain ⟨s0, s1, s2, s3, s4, s5, s6⟩ := HR3.out.cells
        have e0 := HR3.out.free
        go_wp2_with fail
        refine bodyPost_ret (by simp [results, Tryz.results53, go_sem, *]; try rfl) rfl ?_
        exact StepOut.zero (sets7 HB3.out (by omega) _ _ _ _ _ _ _)
end Go.Proofs.YtolgclajlklmaaaGreat

namespace Go.Proofs.YtolgclajlklmaaaGreat
set_option linter.unusedSimpArgs false
set_option linter.unusedVariables false
open Go.RowKit
theorem Agg.can_push3 {x n : Int} (h : Agg.can (true, x) n = true) : Agg.isItem x = true ∧ n < 60 := by simpa [Agg.can, Agg.opOk] using h
set_option maxRecDepth 8000 in
set_option maxHeartbeats 8000000 in
theorem stacksStep_push (k : Int) (fa : Option Addr) (fn fc : Nat) (ia : Option Addr) (m ic : Nat) (bx by' bz fl co : Int) (F : List Agg.V) (I : List Int) (x : Int) (w : World) (hF : Vals w fa fn fc F) (hI : Nums .i64 w ia m ic I) (h1 : fn ≤ 4611686018427387) (h2 : m ≤ 4611686018427387) (hst : Agg.stepOk k ⟨F, I, ⟨bx, by', bz⟩, fl, co⟩ (true, x) = true) :
    Calls Tryz.prog 53 #[.int .i64 k, .agg #[.slice fa fn fc, .slice ia m ic, .int .i64 bx, .int .i64 by', .int .i64 bz, .int .i64 fl, .int .i64 co], .agg #[.bool true, .int .i64 x]] w (StepOut true (Agg.stepS k ⟨F, I, ⟨bx, by', bz⟩, fl, co⟩ (true, x)) w) := by
  obtain ⟨W, hW⟩ : ∃ W, W = ((w.alloc (.cells #[.slice fa fn fc, .slice ia m ic, .int .i64 bx, .int .i64 by', .int .i64 bz, .int .i64 fl, .int .i64 co] 42)).alloc (.cells #[.bool true, .int .i64 x] 76)).alloc (.cells #[.slice none 0 0, .slice none 0 0, .int .i64 0, .int .i64 0, .int .i64 0, .int .i64 0, .int .i64 0] 42) := ⟨_, rfl⟩
  have HA := Lib.hid (show Box7 W w.heap.size 42 (.slice fa fn fc) (.slice ia m ic) (.int .i64 bx) (.int .i64 by') (.int .i64 bz) (.int .i64 fl) (.int .i64 co) from by rw [hW]; exact ((Box7.new w _ _ _ _ _ _ _ _).alloc _).alloc _)
  have HP := Lib.hid (show Box2 W (w.heap.size + 1) 76 (.bool true) (.int .i64 x) from by rw [hW]; exact (Box2.new1 _ _ _ (by simp)).alloc _)
  have HR := Lib.hid (show Box7 W (w.heap.size + 1 + 1) 42 (.slice none 0 0) (.slice none 0 0) (.int .i64 0) (.int .i64 0) (.int .i64 0) (.int .i64 0) (.int .i64 0) from by rw [hW]; exact Box7.new1 _ _ _ _ _ _ _ _ (by simp))
  have HB := Lib.hid (show Below w.heap.size w W from by rw [hW]; exact (((Below.refl _ _).alloc (Nat.le_refl _) _).alloc (by simp) _).alloc (by simp; omega) _)
  have hWs : W.heap.size = w.heap.size + 3 := by rw [hW]; simp
  have HFL := Lib.hid (show F.length = fn from hF.1)
  have HIL := Lib.hid (show I.length = m from hI.1)
  have hsplit : Agg.sOk k ⟨F, I, ⟨bx, by', bz⟩, fl, co⟩ = true ∧ (fl ≤ 900000 ∧ co ≤ 900000) ∧ Agg.can (true, x) ((fn : Int) + (m : Int)) = true := by
    simp only [Agg.stepOk, Bool.and_eq_true, decide_eq_true_eq] at hst
    refine ⟨hst.1.1.1, ⟨hst.1.1.2, hst.1.2⟩, ?_⟩
    have := hst.2
    simp only [Agg.S.size, HFL.out, HIL.out] at this
    push_cast at this
    exact this
  obtain ⟨hok, ⟨hx1, hx2⟩, hcan⟩ := hsplit
  obtain ⟨hk, hsz, -, hit, hbk, hbo, -, -⟩ := Agg.sOk_parts hok
  simp only [Agg.S.size, HFL.out, HIL.out] at hsz hit hbk hbo
  have hbd := Agg.sOk_bounds hok
  simp only at hbd
  obtain ⟨hf0, hf1, hc0, hc1⟩ := hbd
  obtain ⟨T, fu, fL, fC, K⟩ := kind_at hk
  have HKO := Lib.hid K.of
  have HK := Lib.hid K
  have hV := fun w hF hI => stacksValid_any k fa fn fc ia m ic bx by' bz fl co F I w hF hI h1 h2
  have hC := fun w => canChange_any true x ((fn : Int) + (m : Int)) w
  rw [hok] at hV
  rw [hcan] at hC
  have HV := Lib.hid hV
  have HC := Lib.hid hC
  have HF0 := Lib.hid hF
  have HI0 := Lib.hid hI
  have HF := Lib.hid (hF.below HB.out)
  have HI := Lib.hid (hI.below HB.out)
  have HKK := Lib.hid (show Agg.isKind k = true ∧ Agg.itemsOk I = true ∧ Agg.ok k ⟨bx, by', bz⟩ = true from ⟨hk, hit, hbo⟩)
  have HCAN := Lib.hid hcan
  obtain ⟨mx, hme⟩ : ∃ mx, (if fl < co then co else fl) = mx := ⟨_, rfl⟩
  have hmx : ¬ 900000 < mx := by split at hme <;> omega
  have hmd := decide_eq_false hmx
  have HWS := Lib.hid hWs
  clear hF hI K hV hC hst hok hx1 hx2 hcan hk hit hbk hbo hmx hWs
  obtain ⟨q0, q1, q2, q3, q4, q5, q6⟩ := HA.out.cells
  obtain ⟨p0, p1⟩ := HP.out.cells
  go_enter Tryz.func53, Tryz.ntmps53
  go_upto_region 1 with (fail)
  rw [← hW]
  clear hW
  go_wp2_with fail
  refine (HKO.out _).mono ?_
  rintro e w1 ⟨rfl, rfl⟩
  go_wp2_with fail
  refine wp_region_held_drew (S := (fun X => (X.cell? ⟨w.heap.size, 0, none⟩ = some (.slice fa fn fc) ∧ X.cell? ⟨w.heap.size, 1, none⟩ = some (.slice ia m ic) ∧ X.cell? ⟨w.heap.size, 2, none⟩ = some (.int .i64 bx) ∧ X.cell? ⟨w.heap.size, 3, none⟩ = some (.int .i64 by') ∧ X.cell? ⟨w.heap.size, 4, none⟩ = some (.int .i64 bz) ∧ X.cell? ⟨w.heap.size, 5, none⟩ = some (.int .i64 fl) ∧ X.cell? ⟨w.heap.size, 6, none⟩ = some (.int .i64 co)) ∧ X.cell? ⟨w.heap.size + 1, 0, none⟩ = some (.bool true) ∧ X.cell? ⟨w.heap.size + 1, 1, none⟩ = some (.int .i64 x))) (by kernel_rfl) (by first | (refine ⟨⟨?_, ?_, ?_, ?_, ?_, ?_, ?_⟩, ?_, ?_⟩ <;> assumption)) (fun hHeld => ?_)
  refine zqt 0 ?_ ?_ (by assumption) ?_; rotate_left; (intro X hSw; (try dsimp only at hSw); go_simp; (try with_reducible rfl)); (try simp only [Act.put, zq1, zq2, zq3, zq4, zq5, zq6])
  refine zqt 1 ?_ ?_ (by assumption) ?_; rotate_left; (intro X hSw; (try dsimp only at hSw); go_simp; (try with_reducible rfl)); (try simp only [Act.put, zq1, zq2, zq3, zq4, zq5, zq6])
  refine zqt 2 ?_ ?_ (by assumption) ?_; rotate_left; (intro X hSw; (try dsimp only at hSw); go_simp; (try with_reducible rfl)); (try simp only [Act.put, zq1, zq2, zq3, zq4, zq5, zq6])
  refine zqt 3 ?_ ?_ (by assumption) ?_; rotate_left; (intro X hSw; (try dsimp only at hSw); go_simp; (try with_reducible rfl)); (try simp only [Act.put, zq1, zq2, zq3, zq4, zq5, zq6])
  refine zqt 4 ?_ ?_ (by assumption) ?_; rotate_left; (intro X hSw; (try dsimp only at hSw); go_simp; (try with_reducible rfl)); (try simp only [Act.put, zq1, zq2, zq3, zq4, zq5, zq6])
  refine wpAnyH_ready (rs := [5]) (by kernel_rfl) (by simp) ?_
  refine AllReadyH.cons rfl (fun K hK => ?_) AllReadyH.nil
  go_simp
  refine (HV.out _ (show Vals W.drew _ _ _ _ from HF.out) (show Nums .i64 W.drew _ _ _ _ from HI.out)).mono ?_
  rintro e w1 ⟨rfl, hb1⟩
  have HA1 := Lib.hid (HA.out.callD hb1)
  have HP1 := Lib.hid (Box2.call (w := W.drew) HP.out hb1)
  have HR1 := Lib.hid (HR.out.callD hb1)
  have HF1 := Lib.hid (Vals.below (w := W.drew) HF.out hb1)
  have HI1 := Lib.hid (Nums.below (w := W.drew) HI.out hb1)
  have HB1 := Lib.hid (v_below_callD HB.out hb1)
  obtain ⟨q0, q1, q2, q3, q4, q5, q6⟩ := HA1.out.cells
  obtain ⟨p0, p1⟩ := HP1.out.cells
  clear hb1
  (try dsimp only)
  refine hK.out _ _ (by first | (refine ⟨⟨?_, ?_, ?_, ?_, ?_, ?_, ?_⟩, ?_, ?_⟩ <;> assumption)) (fun hHeld => ?_)
  clear hK K
  (try simp only [Act.put, zq1, zq2, zq3, zq4, zq5, zq6])
  refine zqt 6 ?_ ?_ (by assumption) ?_; rotate_left; (intro X hSw; (try dsimp only at hSw); go_simp; (try with_reducible rfl)); (try simp only [Act.put, zq1, zq2, zq3, zq4, zq5, zq6])
  refine zqt 7 ?_ ?_ (by assumption) ?_; rotate_left; (intro X hSw; (try dsimp only at hSw); go_simp; (try with_reducible rfl)); (try simp only [Act.put, zq1, zq2, zq3, zq4, zq5, zq6])
  refine zqt 8 ?_ ?_ (by assumption) ?_; rotate_left; (intro X hSw; (try dsimp only at hSw); go_simp; (try with_reducible rfl)); (try simp only [Act.put, zq1, zq2, zq3, zq4, zq5, zq6])
  refine zqt 9 ?_ ?_ (by assumption) ?_; rotate_left; (intro X hSw; (try dsimp only at hSw); go_simp; (try with_reducible rfl)); (try simp only [Act.put, zq1, zq2, zq3, zq4, zq5, zq6])
  refine zqt 10 ?_ ?_ (by assumption) ?_; rotate_left; (intro X hSw; (try dsimp only at hSw); go_simp; (try with_reducible rfl)); (try simp only [Act.put, zq1, zq2, zq3, zq4, zq5, zq6])
  refine zqt 11 ?_ ?_ (by assumption) ?_; rotate_left; (intro X hSw; (try dsimp only at hSw); go_simp; (try with_reducible rfl)); (try simp only [Act.put, zq1, zq2, zq3, zq4, zq5, zq6])
  refine zqt 12 ?_ ?_ (by assumption) ?_; rotate_left; (intro X hSw; (try dsimp only at hSw); go_simp; (try with_reducible rfl)); (try simp only [Act.put, zq1, zq2, zq3, zq4, zq5, zq6])
  refine zqt 13 ?_ ?_ (by assumption) ?_; rotate_left; (intro X hSw; (try dsimp only at hSw); go_simp; (try with_reducible rfl)); (try simp only [Act.put, zq1, zq2, zq3, zq4, zq5, zq6])
  refine zqt 14 ?_ ?_ (by assumption) ?_; rotate_left; (intro X hSw; (try dsimp only at hSw); go_simp; (try with_reducible rfl)); (try simp only [Act.put, zq1, zq2, zq3, zq4, zq5, zq6])
  refine zqt 15 ?_ ?_ (by assumption) ?_; rotate_left; (intro X hSw; (try dsimp only at hSw); go_simp; (try with_reducible rfl)); (try simp only [Act.put, zq1, zq2, zq3, zq4, zq5, zq6])
  refine zqt 16 ?_ ?_ (by assumption) ?_; rotate_left; (intro X hSw; (try dsimp only at hSw); go_simp; (try with_reducible rfl)); (try simp only [Act.put, zq1, zq2, zq3, zq4, zq5, zq6])
  refine zqt 17 ?_ ?_ (by assumption) ?_; rotate_left; (intro X hSw; (try dsimp only at hSw); go_simp; (try with_reducible rfl)); (try simp only [Act.put, zq1, zq2, zq3, zq4, zq5, zq6])
  refine zqt 18 ?_ ?_ (by assumption) ?_; rotate_left; (intro X hSw; (try dsimp only at hSw); go_simp; (try with_reducible rfl)); (try simp only [Act.put, zq1, zq2, zq3, zq4, zq5, zq6])
  refine wpAnyH_ready (rs := [19]) (by kernel_rfl) (by simp) ?_
  refine AllReadyH.cons rfl (fun K hK => ?_) AllReadyH.nil
  go_simp
  refine (stacksSize_any fa fn fc ia m ic bx by' bz fl co _ h1 h2).mono ?_
  rintro e w2 ⟨rfl, hb2⟩
  have HA2 := Lib.hid (HA1.out.call hb2)
  have HP2 := Lib.hid (HP1.out.call hb2)
  have HR2 := Lib.hid (HR1.out.call hb2)
  have HF2 := Lib.hid (HF1.out.below hb2)
  have HI2 := Lib.hid (HI1.out.below hb2)
  have HB2 := Lib.hid (HB1.out.trans (hb2.mono HB1.out.size))
  obtain ⟨q0, q1, q2, q3, q4, q5, q6⟩ := HA2.out.cells
  obtain ⟨p0, p1⟩ := HP2.out.cells
  clear hb2
  (try dsimp only)
  refine hK.out _ _ (by first | (refine ⟨⟨?_, ?_, ?_, ?_, ?_, ?_, ?_⟩, ?_, ?_⟩ <;> assumption)) (fun hHeld => ?_)
  clear hK K
  (try simp only [Act.put, zq1, zq2, zq3, zq4, zq5, zq6])
  refine wpAnyH_ready (rs := [20]) (by kernel_rfl) (by simp) ?_
  refine AllReadyH.cons rfl (fun K hK => ?_) AllReadyH.nil
  go_simp
  refine (HC.out _).mono ?_
  rintro e w3 ⟨rfl, hb3⟩
  have HA3 := Lib.hid (HA2.out.call hb3)
  have HP3 := Lib.hid (HP2.out.call hb3)
  have HR3 := Lib.hid (HR2.out.call hb3)
  have HF3 := Lib.hid (HF2.out.below hb3)
  have HI3 := Lib.hid (HI2.out.below hb3)
  have HB3 := Lib.hid (HB2.out.trans (hb3.mono HB2.out.size))
  obtain ⟨q0, q1, q2, q3, q4, q5, q6⟩ := HA3.out.cells
  obtain ⟨p0, p1⟩ := HP3.out.cells
  clear hb3
  (try dsimp only)
  refine hK.out _ _ (by first | (refine ⟨⟨?_, ?_, ?_, ?_, ?_, ?_, ?_⟩, ?_, ?_⟩ <;> assumption)) (fun hHeld => ?_)
  clear hK K
  (try simp only [Act.put, zq1, zq2, zq3, zq4, zq5, zq6])
  refine zqt 21 ?_ ?_ (by assumption) ?_; rotate_left; (intro X hSw; (try dsimp only at hSw); go_simp; (try with_reducible rfl)); (try simp only [Act.put, zq1, zq2, zq3, zq4, zq5, zq6])
  refine zqt 22 ?_ ?_ (by assumption) ?_; rotate_left; (intro X hSw; (try dsimp only at hSw); go_simp; (try with_reducible rfl)); (try simp only [Act.put, zq1, zq2, zq3, zq4, zq5, zq6])
  refine wpAnyH_done (by kernel_rfl) ?_ _
  clear hme hmd
  have hs3 : W.heap.size ≤ w3.heap.size := by
    have := HR3.out.lt
    have := HWS.out
    omega
  have HS3 := Lib.hid hs3
  clear hs3
  clear HA HP HR HB HF HI HA1 HP1 HR1 HB1 HF1 HI1 HA2 HP2 HR2 HB2 HF2 HI2
  have f0 := HA3.out.free 0
  go_wp2_with fail
  refine (cloneV_any fa fn fc F _ HF3.out (by omega)).mono ?_
  rintro e w4 ⟨v4, rfl, ho4, hb4⟩
  obtain ⟨ga, gc, rfl⟩ := e_ownsRow_slice ho4
  have HA4 := Lib.hid (HA3.out.call hb4)
  have HP4 := Lib.hid (HP3.out.call hb4)
  have HR4 := Lib.hid (HR3.out.call hb4)
  have HB4 := Lib.hid (HB3.out.trans (hb4.mono HB3.out.size))
  have HO4 := Lib.hid (owns_lower ho4 HS3.out)
  have HS4 := Lib.hid (Nat.le_trans HS3.out hb4.size)
  clear hb4 ho4 f0 q0 q1 q2 q3 q4 q5 q6 p0 p1 HA3 HP3 HR3 HB3 HF3 HI3
  obtain ⟨q0, q1, q2, q3, q4, q5, q6⟩ := HA4.out.cells
  obtain ⟨p0, p1⟩ := HP4.out.cells
  have f0 := HA4.out.free 0
  go_upto_region 5 with (fail)
  obtain ⟨X4, hX4⟩ : ∃ X4, X4 = w4.setCell ⟨w.heap.size, 0, none⟩ (.slice ga fn gc) := ⟨_, rfl⟩
  have HA5 := Lib.hid (show Box7 X4 w.heap.size 42 (.slice ga fn gc) (.slice ia m ic) (.int .i64 bx) (.int .i64 by') (.int .i64 bz) (.int .i64 fl) (.int .i64 co) from by rw [hX4]; exact HA4.out.set0 _)
  have HP5 := Lib.hid (show Box2 X4 (w.heap.size + 1) 76 (.bool true) (.int .i64 x) from by rw [hX4]; exact HP4.out.other (by omega) _ _)
  have HR5 := Lib.hid (show Box7 X4 (w.heap.size + 1 + 1) 42 (.slice none 0 0) (.slice none 0 0) (.int .i64 0) (.int .i64 0) (.int .i64 0) (.int .i64 0) (.int .i64 0) from by rw [hX4]; exact HR4.out.other (by omega) _ _)
  have HB5 := Lib.hid (show Below w.heap.size w X4 from by rw [hX4]; exact HB4.out.setCell (Nat.le_refl _) _)
  have HO5 := Lib.hid (show X4.ownsRow W.heap.size 40 3 (.slice ga fn gc) fn (valRow F) from by rw [hX4]; exact ownS_set HO4.out (by have := HWS.out; omega))
  have HS5 := Lib.hid (show W.heap.size ≤ X4.heap.size from by rw [hX4, size_set]; exact HS4.out)
  rw [← hX4]
  clear hX4 f0 q0 q1 q2 q3 q4 q5 q6 p0 p1 HA4 HP4 HR4 HB4 HO4 HS4
  obtain ⟨q0, q1, q2, q3, q4, q5, q6⟩ := HA5.out.cells
  go_wp2_with fail
  refine (clone_any ia m ic I _ (HI0.out.below HB5.out) (by omega)).mono ?_
  rintro e w6 ⟨v6, m6, rfl, ho6, hb6⟩
  obtain rfl : m6 = m := by have h := ho6.1; have := HIL.out; simp at h; omega
  obtain ⟨ja, jc, rfl⟩ := e_ownsRow_slice ho6
  have HA6 := Lib.hid (HA5.out.call hb6)
  have HP6 := Lib.hid (HP5.out.call hb6)
  have HR6 := Lib.hid (HR5.out.call hb6)
  have HB6 := Lib.hid (HB5.out.trans (hb6.mono HB5.out.size))
  have HO6 := Lib.hid (HO5.out.kept (Below.grownNone hb6 none) (Classical.em _))
  have HI6 := Lib.hid (owns_lower ho6 HS5.out)
  have HS6 := Lib.hid (Nat.le_trans HS5.out hb6.size)
  clear hb6 ho6 q0 q1 q2 q3 q4 q5 q6 HA5 HP5 HR5 HB5 HO5 HS5
  obtain ⟨q0, q1, q2, q3, q4, q5, q6⟩ := HA6.out.cells
  have f1 := HA6.out.free 1
  go_upto_region 6 with (fail)
  obtain ⟨X6, hX6⟩ : ∃ X6, X6 = w6.setCell ⟨w.heap.size, 1, none⟩ (.slice ja m6 jc) := ⟨_, rfl⟩
  have HJ := Lib.hid (show StkJ w W.heap.size (.slice ga fn gc) (.slice ja m6 jc) bx by' bz fl co true x fn m6 F I X6 from by
    have := HWS.out
    rw [hX6]
    exact ⟨HA6.out.set1 _, HP6.out.other (by omega) _ _, HR6.out.other (by omega) _ _, ownS_set HO6.out (by omega), ownS_set HI6.out (by omega), HB6.out.setCell (Nat.le_refl _) _, by rw [size_set]; exact HS6.out⟩)
  rw [← hX6]
  clear hX6 q0 q1 q2 q3 q4 q5 q6 f1 HA6 HP6 HR6 HB6 HO6 HI6 HS6
  have HB3' := Lib.hid (show w.heap.size + 3 ≤ W.heap.size from by have := HWS.out; omega)
  obtain ⟨q0, q1, q2, q3, q4, q5, q6⟩ := HJ.out.s.cells
  obtain ⟨p0, p1⟩ := HJ.out.o.cells
  obtain ⟨hx, -⟩ := Agg.can_push3 HCAN.out
  have hlk := Agg.ok_lift HKK.out.1 hx
  go_wp2_with fail
  refine (pushBack_any HK.out W.heap.size (.slice ga fn gc) fn F ja m6 jc bx by' bz fl co I x _ HJ.out.h HJ.out.f HJ.out.i (by omega) hx HKK.out.2.2 hlk ⟨hc0, hc1⟩).mono ?_
  rintro e w7 ⟨iv7, rfl, hi7, hf7, hb7⟩
  obtain ⟨ja7, jc7, rfl⟩ := e_ownsRow_slice hi7
  have hr7 : Box7 w7 (w.heap.size + 1 + 1) 42 (.slice none 0 0) (.slice none 0 0) (.int .i64 0) (.int .i64 0) (.int .i64 0) (.int .i64 0) (.int .i64 0) := HJ.out.r.below hb7 (by have := HB3'.out; omega)
  have HB7 := Lib.hid (HJ.out.b.trans (hb7.mono (by have := HB3'.out; omega)))
  have HI7 := Lib.hid hi7
  have HF7 := Lib.hid hf7
  have HR7 := Lib.hid hr7
  clear hi7 hf7 hb7 hr7 q0 q1 q2 q3 q4 q5 q6 p0 p1 hx hlk
  obtain ⟨s0, s1, s2, s3, s4, s5, s6⟩ := HR7.out.cells
  have e0 := HR7.out.free
  go_wp2_with fail
  refine bodyPost_ret (by simp [results, Tryz.results53, go_sem, *]; try rfl) rfl ?_
  have hfl := HFL.out
  have hil := HIL.out
  subst hfl
  subst hil
  exact stk_out (s := Agg.pushS k ⟨F, I, ⟨bx, by', bz⟩, fl, co⟩ x) HB3'.out HB7.out HF7.out (by have := HI7.out; simpa [Agg.pushS] using this) _ _ _ _ _ _ _
end Go.Proofs.YtolgclajlklmaaaGreat

namespace Go.Proofs.YtolgclajlklmaaaGreat
set_option linter.unusedSimpArgs false
set_option linter.unusedVariables false
open Go.RowKit
set_option maxRecDepth 8000 in
set_option maxHeartbeats 8000000 in
theorem stacksStep_pop (k : Int) (fa : Option Addr) (fn fc : Nat) (ia : Option Addr) (m ic : Nat) (bx by' bz fl co : Int) (F : List Agg.V) (I : List Int) (x : Int) (w : World) (hF : Vals w fa fn fc F) (hI : Nums .i64 w ia m ic I) (h1 : fn ≤ 4611686018427387) (h2 : m ≤ 4611686018427387) (hfn : 0 < fn) (hst : Agg.stepOk k ⟨F, I, ⟨bx, by', bz⟩, fl, co⟩ (false, x) = true) :
    Calls Tryz.prog 53 #[.int .i64 k, .agg #[.slice fa fn fc, .slice ia m ic, .int .i64 bx, .int .i64 by', .int .i64 bz, .int .i64 fl, .int .i64 co], .agg #[.bool false, .int .i64 x]] w (StepOut true (Agg.stepS k ⟨F, I, ⟨bx, by', bz⟩, fl, co⟩ (false, x)) w) := by
  obtain ⟨W, hW⟩ : ∃ W, W = ((w.alloc (.cells #[.slice fa fn fc, .slice ia m ic, .int .i64 bx, .int .i64 by', .int .i64 bz, .int .i64 fl, .int .i64 co] 42)).alloc (.cells #[.bool false, .int .i64 x] 76)).alloc (.cells #[.slice none 0 0, .slice none 0 0, .int .i64 0, .int .i64 0, .int .i64 0, .int .i64 0, .int .i64 0] 42) := ⟨_, rfl⟩
  have HA := Lib.hid (show Box7 W w.heap.size 42 (.slice fa fn fc) (.slice ia m ic) (.int .i64 bx) (.int .i64 by') (.int .i64 bz) (.int .i64 fl) (.int .i64 co) from by rw [hW]; exact ((Box7.new w _ _ _ _ _ _ _ _).alloc _).alloc _)
  have HP := Lib.hid (show Box2 W (w.heap.size + 1) 76 (.bool false) (.int .i64 x) from by rw [hW]; exact (Box2.new1 _ _ _ (by simp)).alloc _)
  have HR := Lib.hid (show Box7 W (w.heap.size + 1 + 1) 42 (.slice none 0 0) (.slice none 0 0) (.int .i64 0) (.int .i64 0) (.int .i64 0) (.int .i64 0) (.int .i64 0) from by rw [hW]; exact Box7.new1 _ _ _ _ _ _ _ _ (by simp))
  have HB := Lib.hid (show Below w.heap.size w W from by rw [hW]; exact (((Below.refl _ _).alloc (Nat.le_refl _) _).alloc (by simp) _).alloc (by simp; omega) _)
  have hWs : W.heap.size = w.heap.size + 3 := by rw [hW]; simp
  have HFL := Lib.hid (show F.length = fn from hF.1)
  have HIL := Lib.hid (show I.length = m from hI.1)
  have hsplit : Agg.sOk k ⟨F, I, ⟨bx, by', bz⟩, fl, co⟩ = true ∧ (fl ≤ 900000 ∧ co ≤ 900000) ∧ Agg.can (false, x) ((fn : Int) + (m : Int)) = true := by
    simp only [Agg.stepOk, Bool.and_eq_true, decide_eq_true_eq] at hst
    refine ⟨hst.1.1.1, ⟨hst.1.1.2, hst.1.2⟩, ?_⟩
    have := hst.2
    simp only [Agg.S.size, HFL.out, HIL.out] at this
    push_cast at this
    exact this
  obtain ⟨hok, ⟨hx1, hx2⟩, hcan⟩ := hsplit
  obtain ⟨hk, hsz, -, hit, hbk, hbo, -, -⟩ := Agg.sOk_parts hok
  simp only [Agg.S.size, HFL.out, HIL.out] at hsz hit hbk hbo
  have hbd := Agg.sOk_bounds hok
  simp only at hbd
  obtain ⟨hf0, hf1, hc0, hc1⟩ := hbd
  obtain ⟨T, fu, fL, fC, K⟩ := kind_at hk
  have HKO := Lib.hid K.of
  have HK := Lib.hid K
  have hV := fun w hF hI => stacksValid_any k fa fn fc ia m ic bx by' bz fl co F I w hF hI h1 h2
  have hC := fun w => canChange_any false x ((fn : Int) + (m : Int)) w
  rw [hok] at hV
  rw [hcan] at hC
  have HV := Lib.hid hV
  have HC := Lib.hid hC
  have HF0 := Lib.hid hF
  have HI0 := Lib.hid hI
  have HF := Lib.hid (hF.below HB.out)
  have HI := Lib.hid (hI.below HB.out)
  have HKK := Lib.hid (show Agg.isKind k = true ∧ Agg.itemsOk I = true ∧ Agg.ok k ⟨bx, by', bz⟩ = true from ⟨hk, hit, hbo⟩)
  have HCAN := Lib.hid hcan
  obtain ⟨mx, hme⟩ : ∃ mx, (if fl < co then co else fl) = mx := ⟨_, rfl⟩
  have hmx : ¬ 900000 < mx := by split at hme <;> omega
  have hmd := decide_eq_false hmx
  have HWS := Lib.hid hWs
  clear hF hI K hV hC hst hok hx1 hx2 hcan hk hit hbk hbo hmx hWs
  obtain ⟨q0, q1, q2, q3, q4, q5, q6⟩ := HA.out.cells
  obtain ⟨p0, p1⟩ := HP.out.cells
  go_enter Tryz.func53, Tryz.ntmps53
  go_upto_region 1 with (fail)
  rw [← hW]
  clear hW
  go_wp2_with fail
  refine (HKO.out _).mono ?_
  rintro e w1 ⟨rfl, rfl⟩
  go_wp2_with fail
  refine wp_region_held_drew (S := (fun X => (X.cell? ⟨w.heap.size, 0, none⟩ = some (.slice fa fn fc) ∧ X.cell? ⟨w.heap.size, 1, none⟩ = some (.slice ia m ic) ∧ X.cell? ⟨w.heap.size, 2, none⟩ = some (.int .i64 bx) ∧ X.cell? ⟨w.heap.size, 3, none⟩ = some (.int .i64 by') ∧ X.cell? ⟨w.heap.size, 4, none⟩ = some (.int .i64 bz) ∧ X.cell? ⟨w.heap.size, 5, none⟩ = some (.int .i64 fl) ∧ X.cell? ⟨w.heap.size, 6, none⟩ = some (.int .i64 co)) ∧ X.cell? ⟨w.heap.size + 1, 0, none⟩ = some (.bool false) ∧ X.cell? ⟨w.heap.size + 1, 1, none⟩ = some (.int .i64 x))) (by kernel_rfl) (by first | (refine ⟨⟨?_, ?_, ?_, ?_, ?_, ?_, ?_⟩, ?_, ?_⟩ <;> assumption)) (fun hHeld => ?_)
  refine zqt 0 ?_ ?_ (by assumption) ?_; rotate_left; (intro X hSw; (try dsimp only at hSw); go_simp; (try with_reducible rfl)); (try simp only [Act.put, zq1, zq2, zq3, zq4, zq5, zq6])
  refine zqt 1 ?_ ?_ (by assumption) ?_; rotate_left; (intro X hSw; (try dsimp only at hSw); go_simp; (try with_reducible rfl)); (try simp only [Act.put, zq1, zq2, zq3, zq4, zq5, zq6])
  refine zqt 2 ?_ ?_ (by assumption) ?_; rotate_left; (intro X hSw; (try dsimp only at hSw); go_simp; (try with_reducible rfl)); (try simp only [Act.put, zq1, zq2, zq3, zq4, zq5, zq6])
  refine zqt 3 ?_ ?_ (by assumption) ?_; rotate_left; (intro X hSw; (try dsimp only at hSw); go_simp; (try with_reducible rfl)); (try simp only [Act.put, zq1, zq2, zq3, zq4, zq5, zq6])
  refine zqt 4 ?_ ?_ (by assumption) ?_; rotate_left; (intro X hSw; (try dsimp only at hSw); go_simp; (try with_reducible rfl)); (try simp only [Act.put, zq1, zq2, zq3, zq4, zq5, zq6])
  refine wpAnyH_ready (rs := [5]) (by kernel_rfl) (by simp) ?_
  refine AllReadyH.cons rfl (fun K hK => ?_) AllReadyH.nil
  go_simp
  refine (HV.out _ (show Vals W.drew _ _ _ _ from HF.out) (show Nums .i64 W.drew _ _ _ _ from HI.out)).mono ?_
  rintro e w1 ⟨rfl, hb1⟩
  have HA1 := Lib.hid (HA.out.callD hb1)
  have HP1 := Lib.hid (Box2.call (w := W.drew) HP.out hb1)
  have HR1 := Lib.hid (HR.out.callD hb1)
  have HF1 := Lib.hid (Vals.below (w := W.drew) HF.out hb1)
  have HI1 := Lib.hid (Nums.below (w := W.drew) HI.out hb1)
  have HB1 := Lib.hid (v_below_callD HB.out hb1)
  obtain ⟨q0, q1, q2, q3, q4, q5, q6⟩ := HA1.out.cells
  obtain ⟨p0, p1⟩ := HP1.out.cells
  clear hb1
  (try dsimp only)
  refine hK.out _ _ (by first | (refine ⟨⟨?_, ?_, ?_, ?_, ?_, ?_, ?_⟩, ?_, ?_⟩ <;> assumption)) (fun hHeld => ?_)
  clear hK K
  (try simp only [Act.put, zq1, zq2, zq3, zq4, zq5, zq6])
  refine zqt 6 ?_ ?_ (by assumption) ?_; rotate_left; (intro X hSw; (try dsimp only at hSw); go_simp; (try with_reducible rfl)); (try simp only [Act.put, zq1, zq2, zq3, zq4, zq5, zq6])
  refine zqt 7 ?_ ?_ (by assumption) ?_; rotate_left; (intro X hSw; (try dsimp only at hSw); go_simp; (try with_reducible rfl)); (try simp only [Act.put, zq1, zq2, zq3, zq4, zq5, zq6])
  refine zqt 8 ?_ ?_ (by assumption) ?_; rotate_left; (intro X hSw; (try dsimp only at hSw); go_simp; (try with_reducible rfl)); (try simp only [Act.put, zq1, zq2, zq3, zq4, zq5, zq6])
  refine zqt 9 ?_ ?_ (by assumption) ?_; rotate_left; (intro X hSw; (try dsimp only at hSw); go_simp; (try with_reducible rfl)); (try simp only [Act.put, zq1, zq2, zq3, zq4, zq5, zq6])
  refine zqt 10 ?_ ?_ (by assumption) ?_; rotate_left; (intro X hSw; (try dsimp only at hSw); go_simp; (try with_reducible rfl)); (try simp only [Act.put, zq1, zq2, zq3, zq4, zq5, zq6])
  refine zqt 11 ?_ ?_ (by assumption) ?_; rotate_left; (intro X hSw; (try dsimp only at hSw); go_simp; (try with_reducible rfl)); (try simp only [Act.put, zq1, zq2, zq3, zq4, zq5, zq6])
  refine zqt 12 ?_ ?_ (by assumption) ?_; rotate_left; (intro X hSw; (try dsimp only at hSw); go_simp; (try with_reducible rfl)); (try simp only [Act.put, zq1, zq2, zq3, zq4, zq5, zq6])
  refine zqt 13 ?_ ?_ (by assumption) ?_; rotate_left; (intro X hSw; (try dsimp only at hSw); go_simp; (try with_reducible rfl)); (try simp only [Act.put, zq1, zq2, zq3, zq4, zq5, zq6])
  refine zqt 14 ?_ ?_ (by assumption) ?_; rotate_left; (intro X hSw; (try dsimp only at hSw); go_simp; (try with_reducible rfl)); (try simp only [Act.put, zq1, zq2, zq3, zq4, zq5, zq6])
  refine zqt 15 ?_ ?_ (by assumption) ?_; rotate_left; (intro X hSw; (try dsimp only at hSw); go_simp; (try with_reducible rfl)); (try simp only [Act.put, zq1, zq2, zq3, zq4, zq5, zq6])
  refine zqt 16 ?_ ?_ (by assumption) ?_; rotate_left; (intro X hSw; (try dsimp only at hSw); go_simp; (try with_reducible rfl)); (try simp only [Act.put, zq1, zq2, zq3, zq4, zq5, zq6])
  refine zqt 17 ?_ ?_ (by assumption) ?_; rotate_left; (intro X hSw; (try dsimp only at hSw); go_simp; (try with_reducible rfl)); (try simp only [Act.put, zq1, zq2, zq3, zq4, zq5, zq6])
  refine zqt 18 ?_ ?_ (by assumption) ?_; rotate_left; (intro X hSw; (try dsimp only at hSw); go_simp; (try with_reducible rfl)); (try simp only [Act.put, zq1, zq2, zq3, zq4, zq5, zq6])
  refine wpAnyH_ready (rs := [19]) (by kernel_rfl) (by simp) ?_
  refine AllReadyH.cons rfl (fun K hK => ?_) AllReadyH.nil
  go_simp
  refine (stacksSize_any fa fn fc ia m ic bx by' bz fl co _ h1 h2).mono ?_
  rintro e w2 ⟨rfl, hb2⟩
  have HA2 := Lib.hid (HA1.out.call hb2)
  have HP2 := Lib.hid (HP1.out.call hb2)
  have HR2 := Lib.hid (HR1.out.call hb2)
  have HF2 := Lib.hid (HF1.out.below hb2)
  have HI2 := Lib.hid (HI1.out.below hb2)
  have HB2 := Lib.hid (HB1.out.trans (hb2.mono HB1.out.size))
  obtain ⟨q0, q1, q2, q3, q4, q5, q6⟩ := HA2.out.cells
  obtain ⟨p0, p1⟩ := HP2.out.cells
  clear hb2
  (try dsimp only)
  refine hK.out _ _ (by first | (refine ⟨⟨?_, ?_, ?_, ?_, ?_, ?_, ?_⟩, ?_, ?_⟩ <;> assumption)) (fun hHeld => ?_)
  clear hK K
  (try simp only [Act.put, zq1, zq2, zq3, zq4, zq5, zq6])
  refine wpAnyH_ready (rs := [20]) (by kernel_rfl) (by simp) ?_
  refine AllReadyH.cons rfl (fun K hK => ?_) AllReadyH.nil
  go_simp
  refine (HC.out _).mono ?_
  rintro e w3 ⟨rfl, hb3⟩
  have HA3 := Lib.hid (HA2.out.call hb3)
  have HP3 := Lib.hid (HP2.out.call hb3)
  have HR3 := Lib.hid (HR2.out.call hb3)
  have HF3 := Lib.hid (HF2.out.below hb3)
  have HI3 := Lib.hid (HI2.out.below hb3)
  have HB3 := Lib.hid (HB2.out.trans (hb3.mono HB2.out.size))
  obtain ⟨q0, q1, q2, q3, q4, q5, q6⟩ := HA3.out.cells
  obtain ⟨p0, p1⟩ := HP3.out.cells
  clear hb3
  (try dsimp only)
  refine hK.out _ _ (by first | (refine ⟨⟨?_, ?_, ?_, ?_, ?_, ?_, ?_⟩, ?_, ?_⟩ <;> assumption)) (fun hHeld => ?_)
  clear hK K
  (try simp only [Act.put, zq1, zq2, zq3, zq4, zq5, zq6])
  refine zqt 21 ?_ ?_ (by assumption) ?_; rotate_left; (intro X hSw; (try dsimp only at hSw); go_simp; (try with_reducible rfl)); (try simp only [Act.put, zq1, zq2, zq3, zq4, zq5, zq6])
  refine zqt 22 ?_ ?_ (by assumption) ?_; rotate_left; (intro X hSw; (try dsimp only at hSw); go_simp; (try with_reducible rfl)); (try simp only [Act.put, zq1, zq2, zq3, zq4, zq5, zq6])
  refine wpAnyH_done (by kernel_rfl) ?_ _
  clear hme hmd
  have hs3 : W.heap.size ≤ w3.heap.size := by
    have := HR3.out.lt
    have := HWS.out
    omega
  have HS3 := Lib.hid hs3
  clear hs3
  clear HA HP HR HB HF HI HA1 HP1 HR1 HB1 HF1 HI1 HA2 HP2 HR2 HB2 HF2 HI2
  have f0 := HA3.out.free 0
  go_wp2_with fail
  refine (cloneV_any fa fn fc F _ HF3.out (by omega)).mono ?_
  rintro e w4 ⟨v4, rfl, ho4, hb4⟩
  obtain ⟨ga, gc, rfl⟩ := e_ownsRow_slice ho4
  have HA4 := Lib.hid (HA3.out.call hb4)
  have HP4 := Lib.hid (HP3.out.call hb4)
  have HR4 := Lib.hid (HR3.out.call hb4)
  have HB4 := Lib.hid (HB3.out.trans (hb4.mono HB3.out.size))
  have HO4 := Lib.hid (owns_lower ho4 HS3.out)
  have HS4 := Lib.hid (Nat.le_trans HS3.out hb4.size)
  clear hb4 ho4 f0 q0 q1 q2 q3 q4 q5 q6 p0 p1 HA3 HP3 HR3 HB3 HF3 HI3
  obtain ⟨q0, q1, q2, q3, q4, q5, q6⟩ := HA4.out.cells
  obtain ⟨p0, p1⟩ := HP4.out.cells
  have f0 := HA4.out.free 0
  go_upto_region 5 with (fail)
  obtain ⟨X4, hX4⟩ : ∃ X4, X4 = w4.setCell ⟨w.heap.size, 0, none⟩ (.slice ga fn gc) := ⟨_, rfl⟩
  have HA5 := Lib.hid (show Box7 X4 w.heap.size 42 (.slice ga fn gc) (.slice ia m ic) (.int .i64 bx) (.int .i64 by') (.int .i64 bz) (.int .i64 fl) (.int .i64 co) from by rw [hX4]; exact HA4.out.set0 _)
  have HP5 := Lib.hid (show Box2 X4 (w.heap.size + 1) 76 (.bool false) (.int .i64 x) from by rw [hX4]; exact HP4.out.other (by omega) _ _)
  have HR5 := Lib.hid (show Box7 X4 (w.heap.size + 1 + 1) 42 (.slice none 0 0) (.slice none 0 0) (.int .i64 0) (.int .i64 0) (.int .i64 0) (.int .i64 0) (.int .i64 0) from by rw [hX4]; exact HR4.out.other (by omega) _ _)
  have HB5 := Lib.hid (show Below w.heap.size w X4 from by rw [hX4]; exact HB4.out.setCell (Nat.le_refl _) _)
  have HO5 := Lib.hid (show X4.ownsRow W.heap.size 40 3 (.slice ga fn gc) fn (valRow F) from by rw [hX4]; exact ownS_set HO4.out (by have := HWS.out; omega))
  have HS5 := Lib.hid (show W.heap.size ≤ X4.heap.size from by rw [hX4, size_set]; exact HS4.out)
  rw [← hX4]
  clear hX4 f0 q0 q1 q2 q3 q4 q5 q6 p0 p1 HA4 HP4 HR4 HB4 HO4 HS4
  obtain ⟨q0, q1, q2, q3, q4, q5, q6⟩ := HA5.out.cells
  go_wp2_with fail
  refine (clone_any ia m ic I _ (HI0.out.below HB5.out) (by omega)).mono ?_
  rintro e w6 ⟨v6, m6, rfl, ho6, hb6⟩
  obtain rfl : m6 = m := by have h := ho6.1; have := HIL.out; simp at h; omega
  obtain ⟨ja, jc, rfl⟩ := e_ownsRow_slice ho6
  have HA6 := Lib.hid (HA5.out.call hb6)
  have HP6 := Lib.hid (HP5.out.call hb6)
  have HR6 := Lib.hid (HR5.out.call hb6)
  have HB6 := Lib.hid (HB5.out.trans (hb6.mono HB5.out.size))
  have HO6 := Lib.hid (HO5.out.kept (Below.grownNone hb6 none) (Classical.em _))
  have HI6 := Lib.hid (owns_lower ho6 HS5.out)
  have HS6 := Lib.hid (Nat.le_trans HS5.out hb6.size)
  clear hb6 ho6 q0 q1 q2 q3 q4 q5 q6 HA5 HP5 HR5 HB5 HO5 HS5
  obtain ⟨q0, q1, q2, q3, q4, q5, q6⟩ := HA6.out.cells
  have f1 := HA6.out.free 1
  go_upto_region 6 with (fail)
  obtain ⟨X6, hX6⟩ : ∃ X6, X6 = w6.setCell ⟨w.heap.size, 1, none⟩ (.slice ja m6 jc) := ⟨_, rfl⟩
  have HJ := Lib.hid (show StkJ w W.heap.size (.slice ga fn gc) (.slice ja m6 jc) bx by' bz fl co false x fn m6 F I X6 from by
    have := HWS.out
    rw [hX6]
    exact ⟨HA6.out.set1 _, HP6.out.other (by omega) _ _, HR6.out.other (by omega) _ _, ownS_set HO6.out (by omega), ownS_set HI6.out (by omega), HB6.out.setCell (Nat.le_refl _) _, by rw [size_set]; exact HS6.out⟩)
  rw [← hX6]
  clear hX6 q0 q1 q2 q3 q4 q5 q6 f1 HA6 HP6 HR6 HB6 HO6 HI6 HS6
  have HB3' := Lib.hid (show w.heap.size + 3 ≤ W.heap.size from by have := HWS.out; omega)
  obtain ⟨q0, q1, q2, q3, q4, q5, q6⟩ := HJ.out.s.cells
  obtain ⟨p0, p1⟩ := HJ.out.o.cells
  have hfn0 : ¬ (fn = 0) := by omega
  have hfn1 : ¬ ((fn : Int) = 0) := by omega
  have hgc : fn ≤ gc ∧ gc ≤ 9223372036854775807 := by
    rcases HJ.out.f.2 with ⟨h, h0⟩ | ⟨g, cap, cur, h, -, -, h3, h4, -⟩
    · omega
    · simp only [Value.slice.injEq, true_and] at h
      unfold maxLen at h4
      omega
  have hlast : (0 : Int) ≤ (fn : Int) - 1 := by omega
  have hlt1 : (fn : Int) - 1 ≤ (gc : Int) := by omega
  have htn : ((fn : Int) - 1).toNat = fn - 1 := by omega
  have hwr : IntKind.i64.wrap ((fn : Int) - 1) = (fn : Int) - 1 := IntWalk.i64_in _ ⟨by omega, by omega⟩
  have f0 := HJ.out.s.free 0
  go_upto_region 11 with (fail)
  obtain ⟨X8, hX8⟩ : ∃ X8, X8 = X6.setCell ⟨w.heap.size, 0, none⟩ (.slice ga (fn - 1) gc) := ⟨_, rfl⟩
  have HJ8 := Lib.hid (show StkJ w W.heap.size (.slice ga (fn - 1) gc) (.slice ja m6 jc) bx by' bz fl co false x (fn - 1) m6 (F.take (fn - 1)) I X8 from by
    rw [hX8]
    exact HJ.out.set0 HB3'.out (by rw [valRow_take]; exact own_short HJ.out.f (by omega) (by omega)))
  rw [← hX8]
  clear hX8 q0 q1 q2 q3 q4 q5 q6 p0 p1 f0 HJ hlast hlt1 htn hwr
  obtain ⟨q0, q1, q2, q3, q4, q5, q6⟩ := HJ8.out.s.cells
  obtain ⟨s0, s1, s2, s3, s4, s5, s6⟩ := HJ8.out.r.cells
  have e0 := HJ8.out.r.free
  go_wp2_with fail
  refine bodyPost_ret (by simp [results, Tryz.results53, go_sem, *]; try rfl) rfl ?_
  have hfl := HFL.out
  have hil := HIL.out
  subst hfl
  subst hil
  have hst : Agg.stepS k ⟨F, I, ⟨bx, by', bz⟩, fl, co⟩ (false, x) = Agg.popS ⟨F, I, ⟨bx, by', bz⟩, fl, co⟩ := by simp [Agg.stepS, Agg.readyS, hfn0]
  rw [hst]
  exact stk_out (s := Agg.popS ⟨F, I, ⟨bx, by', bz⟩, fl, co⟩) HB3'.out HJ8.out.b (by have := HJ8.out.f; simpa [Agg.popS] using this) HJ8.out.i _ _ _ _ _ _ _
end Go.Proofs.YtolgclajlklmaaaGreat

namespace Go.Proofs.YtolgclajlklmaaaGreat
set_option linter.unusedSimpArgs false
set_option linter.unusedVariables false
open Go.RowKit
theorem Agg.can_pop3 {x n : Int} (h : Agg.can (false, x) n = true) : 0 < n := by
  have : x = 0 ∧ 0 < n := by simpa [Agg.can, Agg.opOk] using h
  exact this.2
set_option maxRecDepth 8000 in
set_option maxHeartbeats 8000000 in
theorem stacksStep_flip (k : Int) (fa : Option Addr) (fn fc : Nat) (ia : Option Addr) (m ic : Nat) (bx by' bz fl co : Int) (F : List Agg.V) (I : List Int) (x : Int) (w : World) (hF : Vals w fa fn fc F) (hI : Nums .i64 w ia m ic I) (h1 : fn ≤ 4611686018427387) (h2 : m ≤ 4611686018427387) (hfn : fn = 0) (hst : Agg.stepOk k ⟨F, I, ⟨bx, by', bz⟩, fl, co⟩ (false, x) = true) :
    Calls Tryz.prog 53 #[.int .i64 k, .agg #[.slice fa fn fc, .slice ia m ic, .int .i64 bx, .int .i64 by', .int .i64 bz, .int .i64 fl, .int .i64 co], .agg #[.bool false, .int .i64 x]] w (StepOut true (Agg.stepS k ⟨F, I, ⟨bx, by', bz⟩, fl, co⟩ (false, x)) w) := by
  have HFN := Lib.hid hfn
  clear hfn
  obtain ⟨W, hW⟩ : ∃ W, W = ((w.alloc (.cells #[.slice fa fn fc, .slice ia m ic, .int .i64 bx, .int .i64 by', .int .i64 bz, .int .i64 fl, .int .i64 co] 42)).alloc (.cells #[.bool false, .int .i64 x] 76)).alloc (.cells #[.slice none 0 0, .slice none 0 0, .int .i64 0, .int .i64 0, .int .i64 0, .int .i64 0, .int .i64 0] 42) := ⟨_, rfl⟩
  have HA := Lib.hid (show Box7 W w.heap.size 42 (.slice fa fn fc) (.slice ia m ic) (.int .i64 bx) (.int .i64 by') (.int .i64 bz) (.int .i64 fl) (.int .i64 co) from by rw [hW]; exact ((Box7.new w _ _ _ _ _ _ _ _).alloc _).alloc _)
  have HP := Lib.hid (show Box2 W (w.heap.size + 1) 76 (.bool false) (.int .i64 x) from by rw [hW]; exact (Box2.new1 _ _ _ (by simp)).alloc _)
  have HR := Lib.hid (show Box7 W (w.heap.size + 1 + 1) 42 (.slice none 0 0) (.slice none 0 0) (.int .i64 0) (.int .i64 0) (.int .i64 0) (.int .i64 0) (.int .i64 0) from by rw [hW]; exact Box7.new1 _ _ _ _ _ _ _ _ (by simp))
  have HB := Lib.hid (show Below w.heap.size w W from by rw [hW]; exact (((Below.refl _ _).alloc (Nat.le_refl _) _).alloc (by simp) _).alloc (by simp; omega) _)
  have hWs : W.heap.size = w.heap.size + 3 := by rw [hW]; simp
  have HFL := Lib.hid (show F.length = fn from hF.1)
  have HIL := Lib.hid (show I.length = m from hI.1)
  have hsplit : Agg.sOk k ⟨F, I, ⟨bx, by', bz⟩, fl, co⟩ = true ∧ (fl ≤ 900000 ∧ co ≤ 900000) ∧ Agg.can (false, x) ((fn : Int) + (m : Int)) = true := by
    simp only [Agg.stepOk, Bool.and_eq_true, decide_eq_true_eq] at hst
    refine ⟨hst.1.1.1, ⟨hst.1.1.2, hst.1.2⟩, ?_⟩
    have := hst.2
    simp only [Agg.S.size, HFL.out, HIL.out] at this
    push_cast at this
    exact this
  obtain ⟨hok, ⟨hx1, hx2⟩, hcan⟩ := hsplit
  obtain ⟨hk, hsz, -, hit, hbk, hbo, -, -⟩ := Agg.sOk_parts hok
  simp only [Agg.S.size, HFL.out, HIL.out] at hsz hit hbk hbo
  have hbd := Agg.sOk_bounds hok
  simp only at hbd
  obtain ⟨hf0, hf1, hc0, hc1⟩ := hbd
  obtain ⟨T, fu, fL, fC, K⟩ := kind_at hk
  have HKO := Lib.hid K.of
  have HK := Lib.hid K
  have hV := fun w hF hI => stacksValid_any k fa fn fc ia m ic bx by' bz fl co F I w hF hI h1 h2
  have hC := fun w => canChange_any false x ((fn : Int) + (m : Int)) w
  rw [hok] at hV
  rw [hcan] at hC
  have HV := Lib.hid hV
  have HC := Lib.hid hC
  have HF0 := Lib.hid hF
  have HI0 := Lib.hid hI
  have HF := Lib.hid (hF.below HB.out)
  have HI := Lib.hid (hI.below HB.out)
  have HKK := Lib.hid (show Agg.isKind k = true ∧ Agg.itemsOk I = true ∧ Agg.ok k ⟨bx, by', bz⟩ = true from ⟨hk, hit, hbo⟩)
  have HCAN := Lib.hid hcan
  obtain ⟨mx, hme⟩ : ∃ mx, (if fl < co then co else fl) = mx := ⟨_, rfl⟩
  have hmx : ¬ 900000 < mx := by split at hme <;> omega
  have hmd := decide_eq_false hmx
  have HWS := Lib.hid hWs
  clear hF hI K hV hC hst hok hx1 hx2 hcan hk hit hbk hbo hmx hWs
  obtain ⟨q0, q1, q2, q3, q4, q5, q6⟩ := HA.out.cells
  obtain ⟨p0, p1⟩ := HP.out.cells
  go_enter Tryz.func53, Tryz.ntmps53
  go_upto_region 1 with (fail)
  rw [← hW]
  clear hW
  go_wp2_with fail
  refine (HKO.out _).mono ?_
  rintro e w1 ⟨rfl, rfl⟩
  go_wp2_with fail
  refine wp_region_held_drew (S := (fun X => (X.cell? ⟨w.heap.size, 0, none⟩ = some (.slice fa fn fc) ∧ X.cell? ⟨w.heap.size, 1, none⟩ = some (.slice ia m ic) ∧ X.cell? ⟨w.heap.size, 2, none⟩ = some (.int .i64 bx) ∧ X.cell? ⟨w.heap.size, 3, none⟩ = some (.int .i64 by') ∧ X.cell? ⟨w.heap.size, 4, none⟩ = some (.int .i64 bz) ∧ X.cell? ⟨w.heap.size, 5, none⟩ = some (.int .i64 fl) ∧ X.cell? ⟨w.heap.size, 6, none⟩ = some (.int .i64 co)) ∧ X.cell? ⟨w.heap.size + 1, 0, none⟩ = some (.bool false) ∧ X.cell? ⟨w.heap.size + 1, 1, none⟩ = some (.int .i64 x))) (by kernel_rfl) (by first | (refine ⟨⟨?_, ?_, ?_, ?_, ?_, ?_, ?_⟩, ?_, ?_⟩ <;> assumption)) (fun hHeld => ?_)
  refine zqt 0 ?_ ?_ (by assumption) ?_; rotate_left; (intro X hSw; (try dsimp only at hSw); go_simp; (try with_reducible rfl)); (try simp only [Act.put, zq1, zq2, zq3, zq4, zq5, zq6])
  refine zqt 1 ?_ ?_ (by assumption) ?_; rotate_left; (intro X hSw; (try dsimp only at hSw); go_simp; (try with_reducible rfl)); (try simp only [Act.put, zq1, zq2, zq3, zq4, zq5, zq6])
  refine zqt 2 ?_ ?_ (by assumption) ?_; rotate_left; (intro X hSw; (try dsimp only at hSw); go_simp; (try with_reducible rfl)); (try simp only [Act.put, zq1, zq2, zq3, zq4, zq5, zq6])
  refine zqt 3 ?_ ?_ (by assumption) ?_; rotate_left; (intro X hSw; (try dsimp only at hSw); go_simp; (try with_reducible rfl)); (try simp only [Act.put, zq1, zq2, zq3, zq4, zq5, zq6])
  refine zqt 4 ?_ ?_ (by assumption) ?_; rotate_left; (intro X hSw; (try dsimp only at hSw); go_simp; (try with_reducible rfl)); (try simp only [Act.put, zq1, zq2, zq3, zq4, zq5, zq6])
  refine wpAnyH_ready (rs := [5]) (by kernel_rfl) (by simp) ?_
  refine AllReadyH.cons rfl (fun K hK => ?_) AllReadyH.nil
  go_simp
  refine (HV.out _ (show Vals W.drew _ _ _ _ from HF.out) (show Nums .i64 W.drew _ _ _ _ from HI.out)).mono ?_
  rintro e w1 ⟨rfl, hb1⟩
  have HA1 := Lib.hid (HA.out.callD hb1)
  have HP1 := Lib.hid (Box2.call (w := W.drew) HP.out hb1)
  have HR1 := Lib.hid (HR.out.callD hb1)
  have HF1 := Lib.hid (Vals.below (w := W.drew) HF.out hb1)
  have HI1 := Lib.hid (Nums.below (w := W.drew) HI.out hb1)
  have HB1 := Lib.hid (v_below_callD HB.out hb1)
  obtain ⟨q0, q1, q2, q3, q4, q5, q6⟩ := HA1.out.cells
  obtain ⟨p0, p1⟩ := HP1.out.cells
  clear hb1
  (try dsimp only)
  refine hK.out _ _ (by first | (refine ⟨⟨?_, ?_, ?_, ?_, ?_, ?_, ?_⟩, ?_, ?_⟩ <;> assumption)) (fun hHeld => ?_)
  clear hK K
  (try simp only [Act.put, zq1, zq2, zq3, zq4, zq5, zq6])
  refine zqt 6 ?_ ?_ (by assumption) ?_; rotate_left; (intro X hSw; (try dsimp only at hSw); go_simp; (try with_reducible rfl)); (try simp only [Act.put, zq1, zq2, zq3, zq4, zq5, zq6])
  refine zqt 7 ?_ ?_ (by assumption) ?_; rotate_left; (intro X hSw; (try dsimp only at hSw); go_simp; (try with_reducible rfl)); (try simp only [Act.put, zq1, zq2, zq3, zq4, zq5, zq6])
  refine zqt 8 ?_ ?_ (by assumption) ?_; rotate_left; (intro X hSw; (try dsimp only at hSw); go_simp; (try with_reducible rfl)); (try simp only [Act.put, zq1, zq2, zq3, zq4, zq5, zq6])
  refine zqt 9 ?_ ?_ (by assumption) ?_; rotate_left; (intro X hSw; (try dsimp only at hSw); go_simp; (try with_reducible rfl)); (try simp only [Act.put, zq1, zq2, zq3, zq4, zq5, zq6])
  refine zqt 10 ?_ ?_ (by assumption) ?_; rotate_left; (intro X hSw; (try dsimp only at hSw); go_simp; (try with_reducible rfl)); (try simp only [Act.put, zq1, zq2, zq3, zq4, zq5, zq6])
  refine zqt 11 ?_ ?_ (by assumption) ?_; rotate_left; (intro X hSw; (try dsimp only at hSw); go_simp; (try with_reducible rfl)); (try simp only [Act.put, zq1, zq2, zq3, zq4, zq5, zq6])
  refine zqt 12 ?_ ?_ (by assumption) ?_; rotate_left; (intro X hSw; (try dsimp only at hSw); go_simp; (try with_reducible rfl)); (try simp only [Act.put, zq1, zq2, zq3, zq4, zq5, zq6])
  refine zqt 13 ?_ ?_ (by assumption) ?_; rotate_left; (intro X hSw; (try dsimp only at hSw); go_simp; (try with_reducible rfl)); (try simp only [Act.put, zq1, zq2, zq3, zq4, zq5, zq6])
  refine zqt 14 ?_ ?_ (by assumption) ?_; rotate_left; (intro X hSw; (try dsimp only at hSw); go_simp; (try with_reducible rfl)); (try simp only [Act.put, zq1, zq2, zq3, zq4, zq5, zq6])
  refine zqt 15 ?_ ?_ (by assumption) ?_; rotate_left; (intro X hSw; (try dsimp only at hSw); go_simp; (try with_reducible rfl)); (try simp only [Act.put, zq1, zq2, zq3, zq4, zq5, zq6])
  refine zqt 16 ?_ ?_ (by assumption) ?_; rotate_left; (intro X hSw; (try dsimp only at hSw); go_simp; (try with_reducible rfl)); (try simp only [Act.put, zq1, zq2, zq3, zq4, zq5, zq6])
  refine zqt 17 ?_ ?_ (by assumption) ?_; rotate_left; (intro X hSw; (try dsimp only at hSw); go_simp; (try with_reducible rfl)); (try simp only [Act.put, zq1, zq2, zq3, zq4, zq5, zq6])
  refine zqt 18 ?_ ?_ (by assumption) ?_; rotate_left; (intro X hSw; (try dsimp only at hSw); go_simp; (try with_reducible rfl)); (try simp only [Act.put, zq1, zq2, zq3, zq4, zq5, zq6])
  refine wpAnyH_ready (rs := [19]) (by kernel_rfl) (by simp) ?_
  refine AllReadyH.cons rfl (fun K hK => ?_) AllReadyH.nil
  go_simp
  refine (stacksSize_any fa fn fc ia m ic bx by' bz fl co _ h1 h2).mono ?_
  rintro e w2 ⟨rfl, hb2⟩
  have HA2 := Lib.hid (HA1.out.call hb2)
  have HP2 := Lib.hid (HP1.out.call hb2)
  have HR2 := Lib.hid (HR1.out.call hb2)
  have HF2 := Lib.hid (HF1.out.below hb2)
  have HI2 := Lib.hid (HI1.out.below hb2)
  have HB2 := Lib.hid (HB1.out.trans (hb2.mono HB1.out.size))
  obtain ⟨q0, q1, q2, q3, q4, q5, q6⟩ := HA2.out.cells
  obtain ⟨p0, p1⟩ := HP2.out.cells
  clear hb2
  (try dsimp only)
  refine hK.out _ _ (by first | (refine ⟨⟨?_, ?_, ?_, ?_, ?_, ?_, ?_⟩, ?_, ?_⟩ <;> assumption)) (fun hHeld => ?_)
  clear hK K
  (try simp only [Act.put, zq1, zq2, zq3, zq4, zq5, zq6])
  refine wpAnyH_ready (rs := [20]) (by kernel_rfl) (by simp) ?_
  refine AllReadyH.cons rfl (fun K hK => ?_) AllReadyH.nil
  go_simp
  refine (HC.out _).mono ?_
  rintro e w3 ⟨rfl, hb3⟩
  have HA3 := Lib.hid (HA2.out.call hb3)
  have HP3 := Lib.hid (HP2.out.call hb3)
  have HR3 := Lib.hid (HR2.out.call hb3)
  have HF3 := Lib.hid (HF2.out.below hb3)
  have HI3 := Lib.hid (HI2.out.below hb3)
  have HB3 := Lib.hid (HB2.out.trans (hb3.mono HB2.out.size))
  obtain ⟨q0, q1, q2, q3, q4, q5, q6⟩ := HA3.out.cells
  obtain ⟨p0, p1⟩ := HP3.out.cells
  clear hb3
  (try dsimp only)
  refine hK.out _ _ (by first | (refine ⟨⟨?_, ?_, ?_, ?_, ?_, ?_, ?_⟩, ?_, ?_⟩ <;> assumption)) (fun hHeld => ?_)
  clear hK K
  (try simp only [Act.put, zq1, zq2, zq3, zq4, zq5, zq6])
  refine zqt 21 ?_ ?_ (by assumption) ?_; rotate_left; (intro X hSw; (try dsimp only at hSw); go_simp; (try with_reducible rfl)); (try simp only [Act.put, zq1, zq2, zq3, zq4, zq5, zq6])
  refine zqt 22 ?_ ?_ (by assumption) ?_; rotate_left; (intro X hSw; (try dsimp only at hSw); go_simp; (try with_reducible rfl)); (try simp only [Act.put, zq1, zq2, zq3, zq4, zq5, zq6])
  refine wpAnyH_done (by kernel_rfl) ?_ _
  clear hme hmd
  have hs3 : W.heap.size ≤ w3.heap.size := by
    have := HR3.out.lt
    have := HWS.out
    omega
  have HS3 := Lib.hid hs3
  clear hs3
  clear HA HP HR HB HF HI HA1 HP1 HR1 HB1 HF1 HI1 HA2 HP2 HR2 HB2 HF2 HI2
  have f0 := HA3.out.free 0
  go_wp2_with fail
  refine (cloneV_any fa fn fc F _ HF3.out (by omega)).mono ?_
  rintro e w4 ⟨v4, rfl, ho4, hb4⟩
  obtain ⟨ga, gc, rfl⟩ := e_ownsRow_slice ho4
  have HA4 := Lib.hid (HA3.out.call hb4)
  have HP4 := Lib.hid (HP3.out.call hb4)
  have HR4 := Lib.hid (HR3.out.call hb4)
  have HB4 := Lib.hid (HB3.out.trans (hb4.mono HB3.out.size))
  have HO4 := Lib.hid (owns_lower ho4 HS3.out)
  have HS4 := Lib.hid (Nat.le_trans HS3.out hb4.size)
  clear hb4 ho4 f0 q0 q1 q2 q3 q4 q5 q6 p0 p1 HA3 HP3 HR3 HB3 HF3 HI3
  obtain ⟨q0, q1, q2, q3, q4, q5, q6⟩ := HA4.out.cells
  obtain ⟨p0, p1⟩ := HP4.out.cells
  have f0 := HA4.out.free 0
  go_upto_region 5 with (fail)
  obtain ⟨X4, hX4⟩ : ∃ X4, X4 = w4.setCell ⟨w.heap.size, 0, none⟩ (.slice ga fn gc) := ⟨_, rfl⟩
  have HA5 := Lib.hid (show Box7 X4 w.heap.size 42 (.slice ga fn gc) (.slice ia m ic) (.int .i64 bx) (.int .i64 by') (.int .i64 bz) (.int .i64 fl) (.int .i64 co) from by rw [hX4]; exact HA4.out.set0 _)
  have HP5 := Lib.hid (show Box2 X4 (w.heap.size + 1) 76 (.bool false) (.int .i64 x) from by rw [hX4]; exact HP4.out.other (by omega) _ _)
  have HR5 := Lib.hid (show Box7 X4 (w.heap.size + 1 + 1) 42 (.slice none 0 0) (.slice none 0 0) (.int .i64 0) (.int .i64 0) (.int .i64 0) (.int .i64 0) (.int .i64 0) from by rw [hX4]; exact HR4.out.other (by omega) _ _)
  have HB5 := Lib.hid (show Below w.heap.size w X4 from by rw [hX4]; exact HB4.out.setCell (Nat.le_refl _) _)
  have HO5 := Lib.hid (show X4.ownsRow W.heap.size 40 3 (.slice ga fn gc) fn (valRow F) from by rw [hX4]; exact ownS_set HO4.out (by have := HWS.out; omega))
  have HS5 := Lib.hid (show W.heap.size ≤ X4.heap.size from by rw [hX4, size_set]; exact HS4.out)
  rw [← hX4]
  clear hX4 f0 q0 q1 q2 q3 q4 q5 q6 p0 p1 HA4 HP4 HR4 HB4 HO4 HS4
  obtain ⟨q0, q1, q2, q3, q4, q5, q6⟩ := HA5.out.cells
  go_wp2_with fail
  refine (clone_any ia m ic I _ (HI0.out.below HB5.out) (by omega)).mono ?_
  rintro e w6 ⟨v6, m6, rfl, ho6, hb6⟩
  obtain rfl : m6 = m := by have h := ho6.1; have := HIL.out; simp at h; omega
  obtain ⟨ja, jc, rfl⟩ := e_ownsRow_slice ho6
  have HA6 := Lib.hid (HA5.out.call hb6)
  have HP6 := Lib.hid (HP5.out.call hb6)
  have HR6 := Lib.hid (HR5.out.call hb6)
  have HB6 := Lib.hid (HB5.out.trans (hb6.mono HB5.out.size))
  have HO6 := Lib.hid (HO5.out.kept (Below.grownNone hb6 none) (Classical.em _))
  have HI6 := Lib.hid (owns_lower ho6 HS5.out)
  have HS6 := Lib.hid (Nat.le_trans HS5.out hb6.size)
  clear hb6 ho6 q0 q1 q2 q3 q4 q5 q6 HA5 HP5 HR5 HB5 HO5 HS5
  obtain ⟨q0, q1, q2, q3, q4, q5, q6⟩ := HA6.out.cells
  have f1 := HA6.out.free 1
  go_upto_region 6 with (fail)
  obtain ⟨X6, hX6⟩ : ∃ X6, X6 = w6.setCell ⟨w.heap.size, 1, none⟩ (.slice ja m6 jc) := ⟨_, rfl⟩
  have HJ := Lib.hid (show StkJ w W.heap.size (.slice ga fn gc) (.slice ja m6 jc) bx by' bz fl co false x fn m6 F I X6 from by
    have := HWS.out
    rw [hX6]
    exact ⟨HA6.out.set1 _, HP6.out.other (by omega) _ _, HR6.out.other (by omega) _ _, ownS_set HO6.out (by omega), ownS_set HI6.out (by omega), HB6.out.setCell (Nat.le_refl _) _, by rw [size_set]; exact HS6.out⟩)
  rw [← hX6]
  clear hX6 q0 q1 q2 q3 q4 q5 q6 f1 HA6 HP6 HR6 HB6 HO6 HI6 HS6
  have HB3' := Lib.hid (show w.heap.size + 3 ≤ W.heap.size from by have := HWS.out; omega)
  obtain ⟨q0, q1, q2, q3, q4, q5, q6⟩ := HJ.out.s.cells
  obtain ⟨p0, p1⟩ := HJ.out.o.cells
  have hm0 : 0 < m6 := by
    have := Agg.can_pop3 HCAN.out
    have := HFN.out
    omega
  have hfnI : (fn : Int) = 0 := by have := HFN.out; omega
  have hf00 : X6.ownsRow W.heap.size 40 3 (.slice ga fn gc) 0 (valRow []) := by
    have h := HJ.out.f
    have hnil : F = [] := List.eq_nil_of_length_eq_zero (by rw [HFL.out, HFN.out])
    rw [hnil] at h
    revert h
    rw [HFN.out]
    exact id
  have HF00 := Lib.hid hf00
  clear hf00
  go_wp2_with fail
  refine (flip_any HKK.out.1 HK.out W.heap.size (.slice ga fn gc) ja m6 jc bx by' bz fl co I _ HJ.out.h HF00.out HJ.out.i HKK.out.2.1 ⟨hc0, hc1⟩ ⟨hf0, hf1⟩).mono ?_
  rintro e w7 ⟨fv7, rfl, hf7, hb7⟩
  obtain ⟨ga7, gc7, rfl⟩ := e_ownsRow_slice hf7
  have hs7 : Box7 w7 w.heap.size 42 (.slice ga fn gc) (.slice ja m6 jc) (.int .i64 bx) (.int .i64 by') (.int .i64 bz) (.int .i64 fl) (.int .i64 co) := HJ.out.s.below hb7 (by have := HB3'.out; omega)
  have HB7 := Lib.hid hb7
  have HF7 := Lib.hid hf7
  have HS7 := Lib.hid hs7
  clear hf7 hb7 hs7 q0 q1 q2 q3 q4 q5 q6 p0 p1 hfnI
  obtain ⟨q0, q1, q2, q3, q4, q5, q6⟩ := HS7.out.cells
  have e0 := HS7.out.free
  obtain ⟨⟨ux, uy, uz⟩, hu⟩ : ∃ u, u = Agg.unit k := ⟨_, rfl⟩
  rw [← hu]
  have HU := Lib.hid hu
  clear hu
  go_upto_region 10 with (fail)
  obtain ⟨X7, hX7⟩ : ∃ X7, X7 = ((((((w7.setCell ⟨w.heap.size, 0, none⟩ (.slice ga7 m6 gc7)).setCell ⟨w.heap.size, 1, none⟩ (.slice none 0 0)).setCell ⟨w.heap.size, 2, none⟩ (.int .i64 ux)).setCell ⟨w.heap.size, 3, none⟩ (.int .i64 uy)).setCell ⟨w.heap.size, 4, none⟩ (.int .i64 uz)).setCell ⟨w.heap.size, 5, none⟩ (.int .i64 (fl + 1))).setCell ⟨w.heap.size, 6, none⟩ (.int .i64 (co + m6)) := ⟨_, rfl⟩
  have HJ7 := Lib.hid (show StkJ w W.heap.size (.slice ga7 m6 gc7) (.slice none 0 0) ux uy uz (fl + 1) (co + m6) false x m6 0 (Agg.sufs k I I.length) [] X7 from by
    rw [hX7]
    exact HJ.out.sets HB3'.out HB7.out HF7.out (World.ownsRow_nil _ _ _ _) ux uy uz (fl + 1) (co + m6))
  rw [← hX7]
  clear hX7 q0 q1 q2 q3 q4 q5 q6 e0 HS7 HF7 HB7 HJ HF00
  have hgc : m6 ≤ gc7 ∧ gc7 ≤ 9223372036854775807 := by
    rcases HJ7.out.f.2 with ⟨h, h0⟩ | ⟨g, cap, cur, h, -, -, h3, h4, -⟩
    · omega
    · simp only [Value.slice.injEq, true_and] at h
      unfold maxLen at h4
      omega
  obtain ⟨q0, q1, q2, q3, q4, q5, q6⟩ := HJ7.out.s.cells
  have hlast : (0 : Int) ≤ (m6 : Int) - 1 := by omega
  have hlt1 : (m6 : Int) - 1 ≤ (gc7 : Int) := by omega
  have htn : ((m6 : Int) - 1).toNat = m6 - 1 := by omega
  have hwr : IntKind.i64.wrap ((m6 : Int) - 1) = (m6 : Int) - 1 := IntWalk.i64_in _ ⟨by omega, by omega⟩
  have f0 := HJ7.out.s.free 0
  go_upto_region 11 with (fail)
  obtain ⟨X8, hX8⟩ : ∃ X8, X8 = X7.setCell ⟨w.heap.size, 0, none⟩ (.slice ga7 (m6 - 1) gc7) := ⟨_, rfl⟩
  have HJ8 := Lib.hid (show StkJ w W.heap.size (.slice ga7 (m6 - 1) gc7) (.slice none 0 0) ux uy uz (fl + 1) (co + m6) false x (m6 - 1) 0 ((Agg.sufs k I I.length).take (m6 - 1)) [] X8 from by
    rw [hX8]
    exact HJ7.out.set0 HB3'.out (by rw [valRow_take]; exact own_short HJ7.out.f (by omega) (by omega)))
  rw [← hX8]
  clear hX8 q0 q1 q2 q3 q4 q5 q6 f0 HJ7 hlast hlt1 htn hwr
  obtain ⟨q0, q1, q2, q3, q4, q5, q6⟩ := HJ8.out.s.cells
  obtain ⟨s0, s1, s2, s3, s4, s5, s6⟩ := HJ8.out.r.cells
  have e0 := HJ8.out.r.free
  go_wp2_with fail
  refine bodyPost_ret (by simp [results, Tryz.results53, go_sem, *]; try rfl) rfl ?_
  have hil := HIL.out
  subst hil
  have hres : Agg.stepS k ⟨F, I, ⟨bx, by', bz⟩, fl, co⟩ (false, x) = ⟨(Agg.sufs k I I.length).take (I.length - 1), [], ⟨ux, uy, uz⟩, fl + 1, co + I.length⟩ := by
    have hu := HU.out
    have h0 : F.length = 0 := by rw [HFL.out, HFN.out]
    simp [Agg.stepS, Agg.readyS, h0, Agg.popS, Agg.flipS, Agg.sufs_length, ← hu]
  rw [hres]
  exact stk_out (s := ⟨(Agg.sufs k I I.length).take (I.length - 1), [], ⟨ux, uy, uz⟩, fl + 1, co + I.length⟩) HB3'.out HJ8.out.b (by have := HJ8.out.f; simpa [Agg.sufs_length] using this) (World.ownsRow_nil _ _ _ _) _ _ _ _ _ _ _
end Go.Proofs.YtolgclajlklmaaaGreat

namespace Go.Proofs.YtolgclajlklmaaaGreat
set_option linter.unusedSimpArgs false
set_option linter.unusedVariables false
open Go.RowKit
theorem stacksStep_any (k : Int) (fa : Option Addr) (fn fc : Nat) (ia : Option Addr) (m ic : Nat) (bx by' bz fl co : Int) (F : List Agg.V) (I : List Int) (p : Bool) (x : Int) (w : World) (hF : Vals w fa fn fc F) (hI : Nums .i64 w ia m ic I) (h1 : fn ≤ 4611686018427387) (h2 : m ≤ 4611686018427387) :
    Calls Tryz.prog 53 #[.int .i64 k, .agg #[.slice fa fn fc, .slice ia m ic, .int .i64 bx, .int .i64 by', .int .i64 bz, .int .i64 fl, .int .i64 co], .agg #[.bool p, .int .i64 x]] w (StepOut (Agg.stepOk k ⟨F, I, ⟨bx, by', bz⟩, fl, co⟩ (p, x)) (Agg.aStep k ⟨F, I, ⟨bx, by', bz⟩, fl, co⟩ (p, x)) w) := by
  cases hst : Agg.stepOk k ⟨F, I, ⟨bx, by', bz⟩, fl, co⟩ (p, x)
  · rw [Agg.aStep_not hst]
    exact stacksStep_not k fa fn fc ia m ic bx by' bz fl co F I p x w hF hI h1 h2 hst
  · rw [Agg.aStep_of hst]
    cases p
    · rcases Nat.eq_zero_or_pos fn with h0 | h0
      · exact stacksStep_flip k fa fn fc ia m ic bx by' bz fl co F I x w hF hI h1 h2 h0 hst
      · exact stacksStep_pop k fa fn fc ia m ic bx by' bz fl co F I x w hF hI h1 h2 h0 hst
    · exact stacksStep_push k fa fn fc ia m ic bx by' bz fl co F I x w hF hI h1 h2 hst
end Go.Proofs.YtolgclajlklmaaaGreat
