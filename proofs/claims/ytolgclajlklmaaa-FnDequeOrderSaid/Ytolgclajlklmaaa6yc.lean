/-
  DequeStep in the program.
-/
import Derived.Test.YtolgclajlklmaaaQx
import Derived.Test.YtolgclajlklmaaaQy
import Derived.Test.YtolgclajlklmaaaTb
import Derived.Deep.Cut
import Derived.Deep.DeepMust
import Derived.IntWalk
namespace Go.Proofs.Ytolgclajlklmaaa
set_option linter.unusedSimpArgs false
set_option linter.unusedVariables false
open Go.RowKit
theorem nums_own {w : World} {base n c : Nat} {a : Option Addr} {l : List Int} (h : w.ownsRow base 3 1 (.slice a n c) n (l.map (Value.int .i64))) (hb : base ≤ w.heap.size) : Nums .i64 w a n c l := by
  obtain ⟨a', c', e, h2, -⟩ := (show OwnR w base w.heap.size (.slice a n c) n l from ⟨h, hb, Nat.le_refl _, fun g hg => (h.lt g hg).2⟩).nums
  simp only [Value.slice.injEq, true_and] at e
  obtain ⟨rfl, rfl⟩ := e
  exact h2
theorem slice_own {w : World} {base e size n : Nat} {v : Value} {xs : List Value} (h : w.ownsRow base e size v n xs) : ∃ a c, v = .slice a n c := by
  rcases h.2 with ⟨rfl, rfl⟩ | ⟨g, cap, cur, rfl, -⟩
  · exact ⟨none, 0, rfl⟩
  · exact ⟨_, cap, rfl⟩
theorem step_append_whered {P : Program} {ops : Array Oper} {o : Oper} {a : Act} {w : World} {K : Act → World → Prop} {Q : Exit → Act → World → Prop} {E : Prop}
    (hg : o.guard = none) (s x : Operand) (t : TypeId) (hop : o.op = Op.call { callee := Callee.builtin Builtin.append, args := #[s, x], argTypes := #[t, t] })
    (base : Nat) (e : TypeId) (i : TypeInfo) (z : Value) (size bytes : Nat) (h1 : P.underlying t = some (.slice e)) (h2 : P.info? e = some i) (h3 : i.zero = some z) (h4 : i.size = size) (h5 : i.bytes = bytes) (h6 : z.cells.size = size) (h7 : 0 < size)
    (v : Value) (n : Nat) (xs : List Value) (hs : a.eval s = v) (hown : w.ownsRow base e size v n xs)
    (ad : Addr) (m c : Nat) (news : List Value) (hx : a.eval x = .slice (some ad) m c) (hn : news.length = m * size) (hc : ∀ j u, news[j]? = some u → w.cell? (ad.add j) = some u) (h1c : ∀ u ∈ news, u.oneCell' = true)
    (b1 : n + m ≤ maxLen) (b2 : (n + m) * bytes ≤ 140737488355328) (hbase : base ≤ w.heap.size)
    (hK : ∀ v' w', w'.ownsRow base e size v' (n + m) (xs ++ news) → w.grownBy w' v.ownBlock → (v'.ownBlock = v.ownBlock ∨ ∃ g, v'.ownBlock = some g ∧ w.heap.size ≤ g) → K (a.put o.dst v') w') :
    if Region.wanted o (yielded ops a.tmps) = true then Oper.wp P o a w K Q else E := by
  have hw : Region.wanted o (yielded ops a.tmps) = true := by simp [Region.wanted, hg]
  rw [if_pos hw]
  obtain ⟨v', w', hrun, q2, q3, q4⟩ := append_where w base t o.type e i z size bytes h1 h2 h3 h4 h5 h6 h7 v n xs hown ad m c news hn hc h1c b1 b2 hbase
  exact Lib.wp_append_run w s x t t hop v _ hs hx v' w' hrun (hK v' w' q2 q3 q4)
theorem Touch.far {lo hi : Nat} {W X : World} (h : Touch lo hi W X) {c o : Nat} {u : Value} (hc : W.heap.size ≤ c) : Touch lo hi W (X.setCell ⟨c, o, none⟩ u) :=
  ⟨h.1, h.2.1, h.2.2.1, by have := h.2.2.2.1; simpa [World.setCell] using this, fun j hj hd => (Below.heap_setCell _ _ _ _ (show j ≠ c by omega)).trans (h.2.2.2.2 j hj hd)⟩
/-- What is left of a push once it is known how many items stay. -/
def PoFin (b1 : Nat) (d : Agg.Dq) (w : World) (e : Ending) (w' : World) : Prop := ∃ v, e = .returned v ∧ DqOwn w' b1 w'.heap.size v d ∧ Touch b1 w.heap.size w w'
theorem ob {g n c j : Nat} (h : (Value.slice (some ⟨g, 0, none⟩) n c).ownBlock = some j) : g = j := Option.some.inj h
theorem po_fin {k : Int} {b1 b2 n t : Nat} {I P : List Int} {fi nx dr x : Int} {w Y : World} {a5 a8 : Option Addr} {c5 c8 : Nat} (hb : b1 ≤ b2)
    (hd : (Value.slice a5 (t + 1) c5).ownBlock = none ∨ (Value.slice a5 (t + 1) c5).ownBlock ≠ (Value.slice a8 (t + 1) c8).ownBlock)
    (h5 : ∀ g, (Value.slice a5 (t + 1) c5).ownBlock = some g → g ≠ w.heap.size + 1) (h8 : ∀ g, (Value.slice a8 (t + 1) c8).ownBlock = some g → g ≠ w.heap.size + 1) (hI : I.length = n) (hP : P.length = n) (hk : Agg.keepN k I x n = t)
    (a1 : Y.ownsRow b1 3 1 (.slice a5 (t + 1) c5) (t + 1) ((I.take t ++ [x]).map (Value.int .i64))) (a2 : Y.ownsRow b2 3 1 (.slice a8 (t + 1) c8) (t + 1) ((P.take t ++ [nx]).map (Value.int .i64))) (a3 : Touch b1 w.heap.size w Y) (hbY : b1 ≤ Y.heap.size) (hYs : w.heap.size + 1 < Y.heap.size) (u0 u1 u2 u3 u4 : Value) :
    PoFin b1 (Agg.pushD k ⟨I, P, fi, nx, dr⟩ x) w (.returned (.agg #[.slice a5 (t + 1) c5, .slice a8 (t + 1) c8, .int .i64 fi, .int .i64 (nx + 1), .int .i64 (dr + ((n : Int) - (t : Int)))]))
      (((((Y.setCell ⟨w.heap.size + 1, 0, none⟩ u0).setCell ⟨w.heap.size + 1, 1, none⟩ u1).setCell ⟨w.heap.size + 1, 2, none⟩ u2).setCell ⟨w.heap.size + 1, 3, none⟩ u3).setCell ⟨w.heap.size + 1, 4, none⟩ u4) := by
  have e : Agg.pushD k ⟨I, P, fi, nx, dr⟩ x = ⟨I.take t ++ [x], P.take t ++ [nx], fi, nx + 1, dr + ((n : Int) - (t : Int))⟩ := by simp [Agg.pushD, hI, hk]
  have ht : t ≤ n := by rw [← hk]; exact Agg.keepN_le _ _ _ _
  have l1 : (I.take t ++ [x]).length = t + 1 := by simp; omega
  have l2 : (P.take t ++ [nx]).length = t + 1 := by simp; omega
  rw [e]
  obtain ⟨Z, hZ⟩ : ∃ Z, Z = (((((Y.setCell ⟨w.heap.size + 1, 0, none⟩ u0).setCell ⟨w.heap.size + 1, 1, none⟩ u1).setCell ⟨w.heap.size + 1, 2, none⟩ u2).setCell ⟨w.heap.size + 1, 3, none⟩ u3).setCell ⟨w.heap.size + 1, 4, none⟩ u4) := ⟨_, rfl⟩
  have b1' : Z.ownsRow b1 3 1 (.slice a5 (t + 1) c5) (t + 1) ((I.take t ++ [x]).map (Value.int .i64)) := by rw [hZ]; exact own_far (own_far (own_far (own_far (own_far a1 h5) h5) h5) h5) h5
  have b2' : Z.ownsRow b2 3 1 (.slice a8 (t + 1) c8) (t + 1) ((P.take t ++ [nx]).map (Value.int .i64)) := by rw [hZ]; exact own_far (own_far (own_far (own_far (own_far a2 h8) h8) h8) h8) h8
  have hz : Z.heap.size = Y.heap.size := by rw [hZ]; exact f6_size5 _ _ _ _ _
  have b3 : Touch b1 w.heap.size w Z := by rw [hZ]; exact ((((a3.far (by omega)).far (by omega)).far (by omega)).far (by omega)).far (by omega)
  rw [← hZ]
  refine ⟨_, rfl, ⟨_, _, rfl, ?_, ?_, hd⟩, b3⟩
  · show OwnS Z b1 Z.heap.size _ (I.take t ++ [x]).length _
    rw [l1]
    exact own_s b1' (by omega)
  · show OwnS Z b1 Z.heap.size _ (P.take t ++ [nx]).length _
    rw [l2]
    exact own_s (owns_lower b2' hb) (by omega)
set_option maxRecDepth 8000 in
set_option maxHeartbeats 4000000 in
theorem pushOver_some {k : Int} {T fl : Nat} (O : OrdAt k T fl) (b1 b2 n : Nat) (g1 ic g2 pc : Nat) (fi nx dr x : Int) (I P : List Int) (w : World)
    (hI : w.ownsRow b1 3 1 (.slice (some ⟨g1, 0, none⟩) n ic) n (I.map (Value.int .i64))) (hP : w.ownsRow b2 3 1 (.slice (some ⟨g2, 0, none⟩) n pc) n (P.map (Value.int .i64))) (hlt : ∀ g, (Value.slice (some ⟨g1, 0, none⟩) n ic).ownBlock = some g → g < b2) (hb : b1 ≤ b2) (hb2 : b2 ≤ w.heap.size)
    (hn : n ≤ 60) (hd0 : 0 ≤ dr) (hd1 : dr ≤ 900000) (hx0 : 0 ≤ nx) (hx1 : nx ≤ 900000) :
    Calls Try.prog 68 #[.iface T (.agg #[]), .agg #[.slice (some ⟨g1, 0, none⟩) n ic, .slice (some ⟨g2, 0, none⟩) n pc, .int .i64 fi, .int .i64 nx, .int .i64 dr], .int .i64 x] w (PoFin b1 (Agg.pushD k ⟨I, P, fi, nx, dr⟩ x) w) := by
  obtain ⟨i0, hi0, hz0, hz1, hz2⟩ := info_parts infoInt
  have HIL := Lib.hid (show I.length = n by have := hI.1; simpa using this)
  have HPL := Lib.hid (show P.length = n by have := hP.1; simpa using this)
  have hNI := nums_own hI (by omega)
  have hNP := nums_own hP hb2
  have hic := hNI.2.1
  have hpc := hNP.2.1
  have hicm : ic ≤ 9223372036854775807 := by have := hNI.2.2.1; unfold maxLen at this; omega
  have hpcm : pc ≤ 9223372036854775807 := by have := hNP.2.2.1; unfold maxLen at this; omega
  have hb1g : b1 ≤ g1 := (hI.lt g1 rfl).1
  have hg1b : g1 < b2 := hlt g1 rfl
  have hb2g : b2 ≤ g2 := (hP.lt g2 rfl).1
  have hg2w : g2 < w.heap.size := (hP.lt g2 rfl).2
  have HNI := Lib.hid hNI
  have HI := Lib.hid hI
  have HP := Lib.hid hP
  have HLT := Lib.hid hlt
  have HLA := Lib.hid O.later
  have hml := O.ml
  have hal := O.al
  have hcl := O.cl
  obtain ⟨W, hW⟩ : ∃ W, W = (w.alloc (.cells #[.slice (some ⟨g1, 0, none⟩) n ic, .slice (some ⟨g2, 0, none⟩) n pc, .int .i64 fi, .int .i64 nx, .int .i64 dr] 26)).alloc (.cells #[.slice none 0 0, .slice none 0 0, .int .i64 0, .int .i64 0, .int .i64 0] 26) := ⟨_, rfl⟩
  have HS := Lib.hid (show Box5 W w.heap.size 26 (.slice (some ⟨g1, 0, none⟩) n ic) (.slice (some ⟨g2, 0, none⟩) n pc) (.int .i64 fi) (.int .i64 nx) (.int .i64 (dr + ((n : Int) - (n : Int)))) from by rw [hW, show dr + ((n : Int) - (n : Int)) = dr by omega]; exact (Box5.new w _ _ _ _ _ _).alloc _)
  have HR := Lib.hid (show Box5 W (w.heap.size + 1) 26 (.slice none 0 0) (.slice none 0 0) (.int .i64 0) (.int .i64 0) (.int .i64 0) from by rw [hW]; exact Box5.new1 _ _ _ _ _ _ (by simp))
  have HB := Lib.hid (show Below w.heap.size w W from by rw [hW]; exact ((Below.refl _ _).alloc (Nat.le_refl _) _).alloc (by simp) _)
  clear hI hP hlt hNI hNP O
  go_enter Try.func68, Try.ntmps68
  go_upto_region 1 with (fail)
  rw [← hW]
  clear hW
  obtain ⟨q0, q1, q2, q3, q4⟩ := HS.out.cells
  go_wp2_with fail
  clear q0 q1 q2 q3 q4
  go_loopw [7] (fun kv wr => ∃ t : Nat, t ≤ n ∧ kv = .int .i64 t ∧ Hid (Agg.keepN k I x t = Agg.keepN k I x n) ∧ Hid (Box5 wr w.heap.size 26 (.slice (some ⟨g1, 0, none⟩) n ic) (.slice (some ⟨g2, 0, none⟩) n pc) (.int .i64 fi) (.int .i64 nx) (.int .i64 (dr + ((n : Int) - (t : Int))))) ∧ Hid (Box5 wr (w.heap.size + 1) 26 (.slice none 0 0) (.slice none 0 0) (.int .i64 0) (.int .i64 0) (.int .i64 0)) ∧ Hid (Below w.heap.size w wr)) (fun kv _ => (intOf kv).toNat)
  case atStart => exact ⟨n, Nat.le_refl _, rfl, Lib.hid rfl, HS, HR, HB⟩
  case round =>
    obtain ⟨t, ht, rfl, hke, hs, hr, hw⟩ := hrel
    clear HS HR HB
    obtain ⟨q0, q1, q2, q3, q4⟩ := hs.out.cells
    have hc0 := q0
    have hti0 : (0 : Int) ≤ (t : Int) := Int.natCast_nonneg _
    by_cases h0 : t = 0
    · have hk0 : decide ((0 : Int) < (t : Int)) = false := by simp; omega
      have hk1 : decide (0 < t) = false := by simp; omega
      have HK3 := Lib.hid (show Agg.keepN k I x n = t from by rw [← hke.out, h0]; rfl)
      clear h0
      go_wp2_with fail
      refine wp_region_held_drew (S := (fun X => X.cell? ⟨w.heap.size, 0, none⟩ = some (.slice (some ⟨g1, 0, none⟩) n ic))) (by kernel_rfl) (by assumption) (fun hHeld => ?_)
      first | (refine wpAnyH_take (i := 0) (v := ?_) rfl (by kernel_rfl) (by kernel_rfl) (by kernel_rfl) (fun _ _ _ h => h) (Or.inl ⟨by rfl, ?_⟩) (by assumption) ?_; rotate_left; (intro X hSw; (try dsimp only at hSw); go_simp; (try with_reducible rfl)); (try simp only [Act.put, List.setIfInBounds_toArray, List.set_cons_zero, List.set_cons_succ, List.getElem_toArray, List.getElem_cons_zero, List.getElem_cons_succ])) | fail "take 0"
      first | (refine wpAnyH_take (i := 1) (v := ?_) rfl (by kernel_rfl) (by kernel_rfl) (by kernel_rfl) (fun _ _ _ h => h) (Or.inl ⟨by rfl, ?_⟩) (by assumption) ?_; rotate_left; (intro X hSw; (try dsimp only at hSw); go_simp; (try with_reducible rfl)); (try simp only [Act.put, List.setIfInBounds_toArray, List.set_cons_zero, List.set_cons_succ, List.getElem_toArray, List.getElem_cons_zero, List.getElem_cons_succ])) | fail "take 1"
      first | (refine wpAnyH_take (i := 2) (v := ?_) rfl (by kernel_rfl) (by kernel_rfl) (by kernel_rfl) (fun _ _ _ h => h) (Or.inl ⟨by rfl, ?_⟩) (by assumption) ?_; rotate_left; (intro X hSw; (try dsimp only at hSw); go_simp; (try with_reducible rfl)); (try simp only [Act.put, List.setIfInBounds_toArray, List.set_cons_zero, List.set_cons_succ, List.getElem_toArray, List.getElem_cons_zero, List.getElem_cons_succ])) | fail "take 2"
      first | (refine wpAnyH_take (i := 3) (v := undef) rfl (by kernel_rfl) (by kernel_rfl) (by kernel_rfl) (fun _ _ _ h => h) (Or.inr ⟨by rfl, rfl⟩) (by assumption) ?_; (try simp only [Act.put, List.setIfInBounds_toArray, List.set_cons_zero, List.set_cons_succ, List.getElem_toArray, List.getElem_cons_zero, List.getElem_cons_succ])) | fail "skip 3"
      first | (refine wpAnyH_take (i := 4) (v := undef) rfl (by kernel_rfl) (by kernel_rfl) (by kernel_rfl) (fun _ _ _ h => h) (Or.inr ⟨by rfl, rfl⟩) (by assumption) ?_; (try simp only [Act.put, List.setIfInBounds_toArray, List.set_cons_zero, List.set_cons_succ, List.getElem_toArray, List.getElem_cons_zero, List.getElem_cons_succ])) | fail "skip 4"
      first | (refine wpAnyH_take (i := 5) (v := undef) rfl (by kernel_rfl) (by kernel_rfl) (by kernel_rfl) (fun _ _ _ h => h) (Or.inr ⟨by rfl, rfl⟩) (by assumption) ?_; (try simp only [Act.put, List.setIfInBounds_toArray, List.set_cons_zero, List.set_cons_succ, List.getElem_toArray, List.getElem_cons_zero, List.getElem_cons_succ])) | fail "skip 5"
      first | (refine wpAnyH_take (i := 6) (v := undef) rfl (by kernel_rfl) (by kernel_rfl) (by kernel_rfl) (fun _ _ _ h => h) (Or.inr ⟨by rfl, rfl⟩) (by assumption) ?_; (try simp only [Act.put, List.setIfInBounds_toArray, List.set_cons_zero, List.set_cons_succ, List.getElem_toArray, List.getElem_cons_zero, List.getElem_cons_succ])) | fail "skip 6"
      first | (refine wpAnyH_take (i := 7) (v := undef) rfl (by kernel_rfl) (by kernel_rfl) (by kernel_rfl) (fun _ _ _ h => h) (Or.inr ⟨by rfl, rfl⟩) (by assumption) ?_; (try simp only [Act.put, List.setIfInBounds_toArray, List.set_cons_zero, List.set_cons_succ, List.getElem_toArray, List.getElem_cons_zero, List.getElem_cons_succ])) | fail "skip 7"
      first | (refine wpAnyH_take (i := 8) (v := undef) rfl (by kernel_rfl) (by kernel_rfl) (by kernel_rfl) (fun _ _ _ h => h) (Or.inr ⟨by rfl, rfl⟩) (by assumption) ?_; (try simp only [Act.put, List.setIfInBounds_toArray, List.set_cons_zero, List.set_cons_succ, List.getElem_toArray, List.getElem_cons_zero, List.getElem_cons_succ])) | fail "skip 8"
      first | (refine wpAnyH_take (i := 9) (v := undef) rfl (by kernel_rfl) (by kernel_rfl) (by kernel_rfl) (fun _ _ _ h => h) (Or.inr ⟨by rfl, rfl⟩) (by assumption) ?_; (try simp only [Act.put, List.setIfInBounds_toArray, List.set_cons_zero, List.set_cons_succ, List.getElem_toArray, List.getElem_cons_zero, List.getElem_cons_succ])) | fail "skip 9"
      first | (refine wpAnyH_take (i := 10) (v := undef) rfl (by kernel_rfl) (by kernel_rfl) (by kernel_rfl) (fun _ _ _ h => h) (Or.inr ⟨by rfl, rfl⟩) (by assumption) ?_; (try simp only [Act.put, List.setIfInBounds_toArray, List.set_cons_zero, List.set_cons_succ, List.getElem_toArray, List.getElem_cons_zero, List.getElem_cons_succ])) | fail "skip 10"
      first | (refine wpAnyH_take (i := 11) (v := undef) rfl (by kernel_rfl) (by kernel_rfl) (by kernel_rfl) (fun _ _ _ h => h) (Or.inr ⟨by rfl, rfl⟩) (by assumption) ?_; (try simp only [Act.put, List.setIfInBounds_toArray, List.set_cons_zero, List.set_cons_succ, List.getElem_toArray, List.getElem_cons_zero, List.getElem_cons_succ])) | fail "skip 11"
      first | (refine wpAnyH_take (i := 12) (v := undef) rfl (by kernel_rfl) (by kernel_rfl) (by kernel_rfl) (fun _ _ _ h => h) (Or.inr ⟨by rfl, rfl⟩) (by assumption) ?_; (try simp only [Act.put, List.setIfInBounds_toArray, List.set_cons_zero, List.set_cons_succ, List.getElem_toArray, List.getElem_cons_zero, List.getElem_cons_succ])) | fail "skip 12"
      first | (refine wpAnyH_take (i := 13) (v := undef) rfl (by kernel_rfl) (by kernel_rfl) (by kernel_rfl) (fun _ _ _ h => h) (Or.inr ⟨by rfl, rfl⟩) (by assumption) ?_; (try simp only [Act.put, List.setIfInBounds_toArray, List.set_cons_zero, List.set_cons_succ, List.getElem_toArray, List.getElem_cons_zero, List.getElem_cons_succ])) | fail "skip 13"
      first | (refine wpAnyH_take (i := 14) (v := undef) rfl (by kernel_rfl) (by kernel_rfl) (by kernel_rfl) (fun _ _ _ h => h) (Or.inr ⟨by rfl, rfl⟩) (by assumption) ?_; (try simp only [Act.put, List.setIfInBounds_toArray, List.set_cons_zero, List.set_cons_succ, List.getElem_toArray, List.getElem_cons_zero, List.getElem_cons_succ])) | fail "skip 14"
      first | (refine wpAnyH_take (i := 15) (v := ?_) rfl (by kernel_rfl) (by kernel_rfl) (by kernel_rfl) (fun _ _ _ h => h) (Or.inl ⟨by rfl, ?_⟩) (by assumption) ?_; rotate_left; (intro X hSw; (try dsimp only at hSw); go_simp; (try with_reducible rfl)); (try simp only [Act.put, List.setIfInBounds_toArray, List.set_cons_zero, List.set_cons_succ, List.getElem_toArray, List.getElem_cons_zero, List.getElem_cons_succ])) | fail "take 15"
      refine wpAnyH_done (by kernel_rfl) ?_ _
      obtain ⟨X3, hX3⟩ : ∃ X3, X3 = wr.drew := ⟨_, rfl⟩
      have HS3 := Lib.hid (show Box5 X3 w.heap.size 26 (.slice (some ⟨g1, 0, none⟩) n ic) (.slice (some ⟨g2, 0, none⟩) n pc) (.int .i64 fi) (.int .i64 nx) (.int .i64 (dr + ((n : Int) - (t : Int)))) from by rw [hX3]; exact hs.out)
      have HR3 := Lib.hid (show Box5 X3 (w.heap.size + 1) 26 (.slice none 0 0) (.slice none 0 0) (.int .i64 0) (.int .i64 0) (.int .i64 0) from by rw [hX3]; exact hr.out)
      have HB3 := Lib.hid (show Below w.heap.size w X3 from by rw [hX3]; exact hw.out.drew)
      rw [← hX3]
      clear hX3 hs hr hw hke q0 q1 q2 q3 q4 hc0 hHeld HNI hk0 hk1
      have hsx := HB3.out.size
      have hsl := HS3.out.lt
      have hrl := HR3.out.lt
      have HI3 := Lib.hid (HI.out.kept (Below.grownNone HB3.out none) (by cases hv : (Value.slice (some ⟨g1, 0, none⟩) n ic).ownBlock <;> simp))
      have HP3 := Lib.hid (HP.out.kept (Below.grownNone HB3.out none) (by cases hv : (Value.slice (some ⟨g2, 0, none⟩) n pc).ownBlock <;> simp))
      have HPG := Lib.hid (fun g (hg : (Value.slice (some ⟨g2, 0, none⟩) n pc).ownBlock = some g) => HP.out.lt g hg)
      have HPI := Lib.hid (own_prefix_int HI3.out ht)
      have HPP := Lib.hid (own_prefix_int HP3.out ht)
      obtain ⟨q0, q1, q2, q3, q4⟩ := HS3.out.cells
      have hti : (t : Int) ≤ (ic : Int) := by omega
      have htp : (t : Int) ≤ (pc : Int) := by omega
      have htn : (0 : Int) ≤ (t : Int) := Int.natCast_nonneg _
      go_upto_region 6 with (
        at_builtin
        go_must (refine wpList_append_where rfl (.tmp 36) (.tmp 38) 24 rfl b1 3 i0 (.int .i64 0) 1 8 Try.underlying24 hi0 hz0 hz1 hz2 rfl (by decide) (.slice (some ⟨g1, 0, none⟩) t ic) t ((I.take t).map (Value.int .i64)) rfl (HPI.out.alloc _) ⟨X3.heap.size, 0, none⟩ 1 1 [.int .i64 x] rfl rfl (cell_one_new _ _ _) (ints_oneCell .i64 [x]) (by unfold maxLen; omega) (by omega) (by simp; omega) ?_)
        go_loud (
          intro v5 w5 hown5 hgrow5 hwhere5
          obtain ⟨a5, c5, rfl⟩ := slice_own hown5
          have HO5 := Lib.hid hown5
          have HG5 := Lib.hid hgrow5
          have HW5 := Lib.hid hwhere5
          have HS5 := Lib.hid ((HS3.out.alloc (.cells #[.int .i64 x] 3)).grown hgrow5 (fun e => by have := ob e; omega))
          have HR5 := Lib.hid ((HR3.out.alloc (.cells #[.int .i64 x] 3)).grown hgrow5 (fun e => by have := ob e; omega))
          have HP5 := Lib.hid ((HPP.out.alloc (.cells #[.int .i64 x] 3)).kept hgrow5 (by cases hv : (Value.slice (some ⟨g2, 0, none⟩) t pc).ownBlock with | none => exact .inl rfl | some g => exact .inr (fun e => by have := ob e.symm; have := ob hv; omega)))
          have f0 := HS5.out.free 0
          obtain ⟨q0, q1, q2, q3, q4⟩ := HS5.out.cells
          clear hown5 hgrow5 hwhere5))
      have hs5 : X3.heap.size + 1 ≤ w5.heap.size := by have := HG5.out.size; simpa using this
      have HN5 := Lib.hid (show ∀ g, (Value.slice a5 (t + 1) c5).ownBlock = some g → g < b2 ∨ X3.heap.size ≤ g from fun g hg => by
        rcases HW5.out with e | ⟨g', e, hle⟩
        · exact .inl (by rw [e] at hg; have := ob hg; omega)
        · rw [e] at hg; obtain rfl := Option.some.inj hg; simp at hle; exact .inr (by omega))
      obtain ⟨X6, hX6⟩ : ∃ X6, X6 = w5.setCell ⟨w.heap.size, 0, none⟩ (.slice a5 (t + 1) c5) := ⟨_, rfl⟩
      have HS6 := Lib.hid (show Box5 X6 w.heap.size 26 (.slice a5 (t + 1) c5) (.slice (some ⟨g2, 0, none⟩) n pc) (.int .i64 fi) (.int .i64 nx) (.int .i64 (dr + ((n : Int) - (t : Int)))) from by rw [hX6]; exact HS5.out.set0 _)
      have HR6 := Lib.hid (show Box5 X6 (w.heap.size + 1) 26 (.slice none 0 0) (.slice none 0 0) (.int .i64 0) (.int .i64 0) (.int .i64 0) from by rw [hX6]; exact HR5.out.other (by omega) _ _)
      have HO6 := Lib.hid (show X6.ownsRow b1 3 1 (.slice a5 (t + 1) c5) (t + 1) ((I.take t ++ [x]).map (Value.int .i64)) from by
        rw [hX6, List.map_append]
        exact own_far HO5.out (fun g hg => by have := HN5.out g hg; omega))
      have HP6 := Lib.hid (show X6.ownsRow b2 3 1 (.slice (some ⟨g2, 0, none⟩) t pc) t ((P.take t).map (Value.int .i64)) from by
        rw [hX6]
        exact own_far HP5.out (fun g hg => by have := ob hg; omega))
      have HT6 := Lib.hid (show Touch b1 w.heap.size w X6 from by
        rw [hX6]
        exact Touch.far ((((Touch.refl b1 w.heap.size w).call HB3.out).call ((Below.refl X3.heap.size X3).alloc (Nat.le_refl _) _)).trans (Touch.of HG5.out (fun g hg => by have := ob hg; omega))) (Nat.le_refl _))
      have hs6 : X3.heap.size + 1 ≤ X6.heap.size := by rw [hX6]; simpa [World.setCell] using hs5
      rw [← hX6]
      clear hX6 q0 q1 q2 q3 q4 f0 HS5 HR5 HP5 HO5 HG5 HW5 HPI HPP HI3 HP3 HS3 HR3 HB3
      obtain ⟨q0, q1, q2, q3, q4⟩ := HS6.out.cells
      have SQ := Lib.hid (show ∀ (X : World) (v : Value), Box5 X w.heap.size 26 (.slice a5 (t + 1) c5) v (.int .i64 fi) (.int .i64 nx) (.int .i64 (dr + ((n : Int) - (t : Int)))) → X.cell? ⟨w.heap.size, 3, none⟩ = some (.int .i64 nx) from fun X v h => h.cells.2.2.2.1)
      refine wp_region_held_drew (S := (fun X => X.cell? ⟨w.heap.size, 3, none⟩ = some (.int .i64 nx))) (by kernel_rfl) (by exact q3) (fun hHeld => ?_)
      clear q0 q1 q2 q3 q4
      first | (refine wpAnyH_take (i := 0) (v := ?_) rfl (by kernel_rfl) (by kernel_rfl) (by kernel_rfl) (fun _ _ _ h => h) (Or.inl ⟨by rfl, ?_⟩) (by assumption) ?_; rotate_left; (intro X hSw; (try dsimp only at hSw); go_simp; (try with_reducible rfl)); (try simp only [Act.put, List.setIfInBounds_toArray, List.set_cons_zero, List.set_cons_succ, List.getElem_toArray, List.getElem_cons_zero, List.getElem_cons_succ])) | fail "take 0"
      first | (refine wpAnyH_take (i := 2) (v := ?_) rfl (by kernel_rfl) (by kernel_rfl) (by kernel_rfl) (fun _ _ _ h => h) (Or.inl ⟨by rfl, ?_⟩) (by assumption) ?_; rotate_left; (intro X hSw; (try dsimp only at hSw); go_simp; (try with_reducible rfl)); (try simp only [Act.put, List.setIfInBounds_toArray, List.set_cons_zero, List.set_cons_succ, List.getElem_toArray, List.getElem_cons_zero, List.getElem_cons_succ])) | fail "take 2"
      first | (refine wpAnyH_take (i := 4) (v := ?_) rfl (by kernel_rfl) (by kernel_rfl) (by kernel_rfl) (fun _ _ _ h => h) (Or.inl ⟨by rfl, ?_⟩) (by assumption) ?_; rotate_left; (intro X hSw; (try dsimp only at hSw); go_simp; (try with_reducible rfl)); (try simp only [Act.put, List.setIfInBounds_toArray, List.set_cons_zero, List.set_cons_succ, List.getElem_toArray, List.getElem_cons_zero, List.getElem_cons_succ])) | fail "take 4"
      first | (refine wpAnyH_take (i := 5) (v := ?_) rfl (by kernel_rfl) (by kernel_rfl) (by kernel_rfl) (fun _ _ _ h => h) (Or.inl ⟨by rfl, ?_⟩) (by assumption) ?_; rotate_left; (intro X hSw; (try dsimp only at hSw); go_simp; (try with_reducible rfl)); (try simp only [Act.put, List.setIfInBounds_toArray, List.set_cons_zero, List.set_cons_succ, List.getElem_toArray, List.getElem_cons_zero, List.getElem_cons_succ])) | fail "take 5"
      refine wpAnyH_ready (rs := [1, 6]) (by kernel_rfl) (by simp) ?_
      refine AllReadyH.cons rfl (fun K hK => ?_) (AllReadyH.cons rfl (fun K hK => ?_) AllReadyH.nil)
      
      · obtain ⟨q0, q1, q2, q3, q4⟩ := HS6.out.cells
        go_simp
        clear q0 q1 q2 q3 q4
        (try dsimp only)
        refine hK.out _ _ (by exact SQ.out _ _ HS6.out) (fun hHeld => ?_)
        clear hK K
        (try simp only [Act.put, List.setIfInBounds_toArray, List.set_cons_zero, List.set_cons_succ, List.getElem_toArray, List.getElem_cons_zero, List.getElem_cons_succ])
        first | (refine wpAnyH_take (i := 3) (v := ?_) rfl (by kernel_rfl) (by kernel_rfl) (by kernel_rfl) (fun _ _ _ h => h) (Or.inl ⟨by rfl, ?_⟩) (by assumption) ?_; rotate_left; (intro X hSw; (try dsimp only at hSw); go_simp; (try with_reducible rfl)); (try simp only [Act.put, List.setIfInBounds_toArray, List.set_cons_zero, List.set_cons_succ, List.getElem_toArray, List.getElem_cons_zero, List.getElem_cons_succ])) | fail "take 3"
        refine wpAnyH_ready (rs := [6]) (by kernel_rfl) (by simp) ?_
        refine AllReadyH.cons rfl (fun K hK => ?_) AllReadyH.nil
        go_simp
        obtain ⟨X7, hX7⟩ : ∃ X7, X7 = (X6.alloc (.cells #[.int .i64 nx] 3)).drew := ⟨_, rfl⟩
        have hbn : Below X6.heap.size X6 X7 := by rw [hX7]; exact ((Below.refl _ _).alloc (Nat.le_refl _) _).drew
        have hs7 : X7.heap.size = X6.heap.size + 1 := by rw [hX7]; simp [World.drew]
        have HS7 := Lib.hid (HS6.out.call hbn)
        have HR7 := Lib.hid (HR6.out.call hbn)
        have HO7 := Lib.hid (HO6.out.kept (Below.grownNone hbn none) (by cases hv : (Value.slice a5 (t + 1) c5).ownBlock <;> simp))
        have HP7 := Lib.hid (HP6.out.kept (Below.grownNone hbn none) (by cases hv : (Value.slice (some ⟨g2, 0, none⟩) t pc).ownBlock <;> simp))
        have HT7 := Lib.hid (HT6.out.call hbn)
        have HLIT := Lib.hid (show ∀ j u, ([Value.int .i64 nx])[j]? = some u → X7.cell? ((⟨X6.heap.size, 0, none⟩ : Addr).add j) = some u from by rw [hX7]; exact cell_one_new X6 (.int .i64 nx) 3)
        rw [← hX7]
        clear hX7 hbn HS6 HR6 HO6 HP6 HT6
        (try dsimp only)
        refine hK.out _ _ (by exact SQ.out _ _ HS7.out) (fun hHeld => ?_)
        clear hK K
        (try simp only [Act.put, List.setIfInBounds_toArray, List.set_cons_zero, List.set_cons_succ, List.getElem_toArray, List.getElem_cons_zero, List.getElem_cons_succ])
        refine wpAnyH_ready (rs := [7]) (by kernel_rfl) (by simp) ?_
        refine AllReadyH.cons rfl (fun K hK => ?_) AllReadyH.nil
        go_must (refine step_append_whered (by rfl) (.tmp 44) (.tmp 47) 24 (by rfl) b2 3 i0 (.int .i64 0) 1 8 Try.underlying24 hi0 hz0 hz1 hz2 rfl (by decide) (.slice (some ⟨g2, 0, none⟩) t pc) t ((P.take t).map (Value.int .i64)) (by rfl) HP7.out ⟨X6.heap.size, 0, none⟩ 1 1 [.int .i64 nx] (by rfl) (by rfl) HLIT.out (ints_oneCell .i64 [nx]) (by unfold maxLen; omega) (by omega) (by omega) ?_)
        intro v8 w8 hown8 hgrow8 hwhere8
        obtain ⟨a8, c8, rfl⟩ := slice_own hown8
        have hs8 := hgrow8.size
        have HO8 := Lib.hid hown8
        have HW8 := Lib.hid hwhere8
        have HS8 := Lib.hid (HS7.out.grown hgrow8 (fun e => by have := ob e; omega))
        have HR8 := Lib.hid (HR7.out.grown hgrow8 (fun e => by have := ob e; omega))
        have HI8 := Lib.hid (HO7.out.kept hgrow8 (by cases hv : (Value.slice a5 (t + 1) c5).ownBlock with | none => exact .inl rfl | some g => exact .inr (fun e => by have := HN5.out g hv; have := ob e.symm; omega)))
        have HT8 := Lib.hid (HT7.out.trans (show Touch b1 w.heap.size X7 w8 from Touch.of hgrow8 (fun g hg => by have := ob hg; omega)))
        clear hown8 hgrow8 hwhere8
        (try dsimp only)
        refine hK.out _ _ (by exact SQ.out _ _ HS8.out) (fun hHeld => ?_)
        clear hK K
        (try simp only [Act.put, List.setIfInBounds_toArray, List.set_cons_zero, List.set_cons_succ, List.getElem_toArray, List.getElem_cons_zero, List.getElem_cons_succ])
        first | (refine wpAnyH_take (i := 8) (v := ?_) rfl (by kernel_rfl) (by kernel_rfl) (by kernel_rfl) (fun _ _ _ h => h) (Or.inl ⟨by rfl, ?_⟩) (by assumption) ?_; rotate_left; (intro X hSw; (try dsimp only at hSw); go_simp; (try with_reducible rfl)); (try simp only [Act.put, List.setIfInBounds_toArray, List.set_cons_zero, List.set_cons_succ, List.getElem_toArray, List.getElem_cons_zero, List.getElem_cons_succ])) | fail "take 8"
        refine wpAnyH_ready (rs := [9]) (by kernel_rfl) (by simp) ?_
        refine AllReadyH.cons rfl (fun K hK => ?_) AllReadyH.nil
        have f1 := HS8.out.free 1
        obtain ⟨q0, q1, q2, q3, q4⟩ := HS8.out.cells
        go_simp
        have HS9 := Lib.hid (HS8.out.set1 (.slice a8 (t + 1) c8))
        (try dsimp only)
        refine hK.out _ _ (by exact SQ.out _ _ HS9.out) (fun hHeld => ?_)
        clear hK K
        (try simp only [Act.put, List.setIfInBounds_toArray, List.set_cons_zero, List.set_cons_succ, List.getElem_toArray, List.getElem_cons_zero, List.getElem_cons_succ])
        refine wpAnyH_done (by kernel_rfl) ?_ _
        obtain ⟨X9, hX9⟩ : ∃ X9, X9 = w8.setCell ⟨w.heap.size, 1, none⟩ (.slice a8 (t + 1) c8) := ⟨_, rfl⟩
        have hn8 : ∀ g, (Value.slice a8 (t + 1) c8).ownBlock = some g → g ≠ w.heap.size := fun g hg => by
          rcases HW8.out with e | ⟨g', e, hle⟩
          · rw [e] at hg; have := ob hg; omega
          · rw [e] at hg; obtain rfl := Option.some.inj hg; omega
        have hn58 : (Value.slice a5 (t + 1) c5).ownBlock = none ∨ (Value.slice a5 (t + 1) c5).ownBlock ≠ (Value.slice a8 (t + 1) c8).ownBlock := by
          cases hv : (Value.slice a5 (t + 1) c5).ownBlock with
          | none => exact .inl rfl
          | some g =>
            refine .inr (fun e => ?_)
            have h5 := (HO7.out.lt g hv).2
            rcases HW8.out with e' | ⟨g', e', hle⟩
            · rw [e'] at e
              have := ob e.symm
              have := HN5.out g hv
              omega
            · rw [e'] at e; obtain rfl := Option.some.inj e; omega
        have HN58 := Lib.hid hn58
        have HRW := Lib.hid (show X9.ownsRow b1 3 1 (.slice a5 (t + 1) c5) (t + 1) ((I.take t ++ [x]).map (Value.int .i64)) from by rw [hX9]; exact own_far HI8.out (fun g hg => by have := HN5.out g hg; omega))
        have HPW := Lib.hid (show X9.ownsRow b2 3 1 (.slice a8 (t + 1) c8) (t + 1) ((P.take t ++ [nx]).map (Value.int .i64)) from by rw [hX9, List.map_append]; exact own_far HO8.out hn8)
        have HS9 := Lib.hid (show Box5 X9 w.heap.size 26 (.slice a5 (t + 1) c5) (.slice a8 (t + 1) c8) (.int .i64 fi) (.int .i64 nx) (.int .i64 (dr + ((n : Int) - (t : Int)))) from by rw [hX9]; exact HS9.out)
        have HR9 := Lib.hid (show Box5 X9 (w.heap.size + 1) 26 (.slice none 0 0) (.slice none 0 0) (.int .i64 0) (.int .i64 0) (.int .i64 0) from by rw [hX9]; exact HR8.out.other (by omega) _ _)
        have HT9 := Lib.hid (show Touch b1 w.heap.size w X9 from by rw [hX9]; exact HT8.out.far (Nat.le_refl _))
        have HPN := Lib.hid (show ∀ g, (Value.slice a8 (t + 1) c8).ownBlock = some g → g ≠ w.heap.size ∧ g ≠ w.heap.size + 1 from fun g hg => by
          rcases HW8.out with e | ⟨g', e, hle⟩
          · rw [e] at hg; have := ob hg; omega
          · rw [e] at hg; obtain rfl := Option.some.inj hg; omega)
        rw [← hX9]
        clear hX9 q0 q1 q2 q3 q4 f1 HS7 HS8 HR7 HR8 HO7 HO8 HI8 HP7 HT7 HT8 HW8 hn8 hn58 SQ HLIT
        obtain ⟨q0, q1, q2, q3, q4⟩ := HS9.out.cells
        have f9 := HS9.out.free
        obtain ⟨e0, e1, e2, e3, e4⟩ := HR9.out.cells
        have g9 := HR9.out.free
        have hrl9 := HR9.out.lt
        have hww : IntKind.i64.wrap (nx + 1) = nx + 1 := IntWalk.i64_in _ ⟨by omega, by omega⟩
        go_wp2_with fail
        refine bodyPost_ret (by simp [results, Try.results68, go_sem, *]; try rfl) rfl ?_
        have hk2 := HK3.out
        obtain ⟨Y, hY⟩ : ∃ Y, Y = X9.setCell ⟨w.heap.size, 3, none⟩ (.int .i64 (nx + 1)) := ⟨_, rfl⟩
        have a1 : Y.ownsRow b1 3 1 (.slice a5 (t + 1) c5) (t + 1) ((I.take t ++ [x]).map (Value.int .i64)) := by rw [hY]; exact own_far HRW.out (fun g hg => by have := HN5.out g hg; omega)
        have a2 : Y.ownsRow b2 3 1 (.slice a8 (t + 1) c8) (t + 1) ((P.take t ++ [nx]).map (Value.int .i64)) := by rw [hY]; exact own_far HPW.out (fun g hg => (HPN.out g hg).1)
        have a3 : Touch b1 w.heap.size w Y := by rw [hY]; exact HT9.out.far (Nat.le_refl _)
        have hYs : w.heap.size + 1 < Y.heap.size := by rw [hY]; simpa [World.setCell] using hrl9
        rw [← hY]
        exact po_fin hb HN58.out (fun g hg => by have := HN5.out g hg; omega) (fun g hg => (HPN.out g hg).2) HIL.out HPL.out hk2 a1 a2 a3 (by omega) hYs _ _ _ _ _
      · go_simp
        obtain ⟨X7, hX7⟩ : ∃ X7, X7 = (X6.alloc (.cells #[.int .i64 nx] 3)).drew := ⟨_, rfl⟩
        have hbn : Below X6.heap.size X6 X7 := by rw [hX7]; exact ((Below.refl _ _).alloc (Nat.le_refl _) _).drew
        have hs7 : X7.heap.size = X6.heap.size + 1 := by rw [hX7]; simp [World.drew]
        have HS7 := Lib.hid (HS6.out.call hbn)
        have HR7 := Lib.hid (HR6.out.call hbn)
        have HO7 := Lib.hid (HO6.out.kept (Below.grownNone hbn none) (by cases hv : (Value.slice a5 (t + 1) c5).ownBlock <;> simp))
        have HP7 := Lib.hid (HP6.out.kept (Below.grownNone hbn none) (by cases hv : (Value.slice (some ⟨g2, 0, none⟩) t pc).ownBlock <;> simp))
        have HT7 := Lib.hid (HT6.out.call hbn)
        have HLIT := Lib.hid (show ∀ j u, ([Value.int .i64 nx])[j]? = some u → X7.cell? ((⟨X6.heap.size, 0, none⟩ : Addr).add j) = some u from by rw [hX7]; exact cell_one_new X6 (.int .i64 nx) 3)
        rw [← hX7]
        clear hX7 hbn HS6 HR6 HO6 HP6 HT6
        (try dsimp only)
        refine hK.out _ _ (by exact SQ.out _ _ HS7.out) (fun hHeld => ?_)
        clear hK K
        (try simp only [Act.put, List.setIfInBounds_toArray, List.set_cons_zero, List.set_cons_succ, List.getElem_toArray, List.getElem_cons_zero, List.getElem_cons_succ])
        refine wpAnyH_ready (rs := [1]) (by kernel_rfl) (by simp) ?_
        refine AllReadyH.cons rfl (fun K hK => ?_) AllReadyH.nil
        obtain ⟨q0, q1, q2, q3, q4⟩ := HS7.out.cells
        go_simp
        clear q0 q1 q2 q3 q4
        (try dsimp only)
        refine hK.out _ _ (by exact SQ.out _ _ HS7.out) (fun hHeld => ?_)
        clear hK K
        (try simp only [Act.put, List.setIfInBounds_toArray, List.set_cons_zero, List.set_cons_succ, List.getElem_toArray, List.getElem_cons_zero, List.getElem_cons_succ])
        first | (refine wpAnyH_take (i := 3) (v := ?_) rfl (by kernel_rfl) (by kernel_rfl) (by kernel_rfl) (fun _ _ _ h => h) (Or.inl ⟨by rfl, ?_⟩) (by assumption) ?_; rotate_left; (intro X hSw; (try dsimp only at hSw); go_simp; (try with_reducible rfl)); (try simp only [Act.put, List.setIfInBounds_toArray, List.set_cons_zero, List.set_cons_succ, List.getElem_toArray, List.getElem_cons_zero, List.getElem_cons_succ])) | fail "take 3"
        refine wpAnyH_ready (rs := [7]) (by kernel_rfl) (by simp) ?_
        refine AllReadyH.cons rfl (fun K hK => ?_) AllReadyH.nil
        go_must (refine step_append_whered (by rfl) (.tmp 44) (.tmp 47) 24 (by rfl) b2 3 i0 (.int .i64 0) 1 8 Try.underlying24 hi0 hz0 hz1 hz2 rfl (by decide) (.slice (some ⟨g2, 0, none⟩) t pc) t ((P.take t).map (Value.int .i64)) (by rfl) HP7.out ⟨X6.heap.size, 0, none⟩ 1 1 [.int .i64 nx] (by rfl) (by rfl) HLIT.out (ints_oneCell .i64 [nx]) (by unfold maxLen; omega) (by omega) (by omega) ?_)
        intro v8 w8 hown8 hgrow8 hwhere8
        obtain ⟨a8, c8, rfl⟩ := slice_own hown8
        have hs8 := hgrow8.size
        have HO8 := Lib.hid hown8
        have HW8 := Lib.hid hwhere8
        have HS8 := Lib.hid (HS7.out.grown hgrow8 (fun e => by have := ob e; omega))
        have HR8 := Lib.hid (HR7.out.grown hgrow8 (fun e => by have := ob e; omega))
        have HI8 := Lib.hid (HO7.out.kept hgrow8 (by cases hv : (Value.slice a5 (t + 1) c5).ownBlock with | none => exact .inl rfl | some g => exact .inr (fun e => by have := HN5.out g hv; have := ob e.symm; omega)))
        have HT8 := Lib.hid (HT7.out.trans (show Touch b1 w.heap.size X7 w8 from Touch.of hgrow8 (fun g hg => by have := ob hg; omega)))
        clear hown8 hgrow8 hwhere8
        (try dsimp only)
        refine hK.out _ _ (by exact SQ.out _ _ HS8.out) (fun hHeld => ?_)
        clear hK K
        (try simp only [Act.put, List.setIfInBounds_toArray, List.set_cons_zero, List.set_cons_succ, List.getElem_toArray, List.getElem_cons_zero, List.getElem_cons_succ])
        first | (refine wpAnyH_take (i := 8) (v := ?_) rfl (by kernel_rfl) (by kernel_rfl) (by kernel_rfl) (fun _ _ _ h => h) (Or.inl ⟨by rfl, ?_⟩) (by assumption) ?_; rotate_left; (intro X hSw; (try dsimp only at hSw); go_simp; (try with_reducible rfl)); (try simp only [Act.put, List.setIfInBounds_toArray, List.set_cons_zero, List.set_cons_succ, List.getElem_toArray, List.getElem_cons_zero, List.getElem_cons_succ])) | fail "take 8"
        refine wpAnyH_ready (rs := [9]) (by kernel_rfl) (by simp) ?_
        refine AllReadyH.cons rfl (fun K hK => ?_) AllReadyH.nil
        have f1 := HS8.out.free 1
        obtain ⟨q0, q1, q2, q3, q4⟩ := HS8.out.cells
        go_simp
        have HS9 := Lib.hid (HS8.out.set1 (.slice a8 (t + 1) c8))
        (try dsimp only)
        refine hK.out _ _ (by exact SQ.out _ _ HS9.out) (fun hHeld => ?_)
        clear hK K
        (try simp only [Act.put, List.setIfInBounds_toArray, List.set_cons_zero, List.set_cons_succ, List.getElem_toArray, List.getElem_cons_zero, List.getElem_cons_succ])
        refine wpAnyH_done (by kernel_rfl) ?_ _
        obtain ⟨X9, hX9⟩ : ∃ X9, X9 = w8.setCell ⟨w.heap.size, 1, none⟩ (.slice a8 (t + 1) c8) := ⟨_, rfl⟩
        have hn8 : ∀ g, (Value.slice a8 (t + 1) c8).ownBlock = some g → g ≠ w.heap.size := fun g hg => by
          rcases HW8.out with e | ⟨g', e, hle⟩
          · rw [e] at hg; have := ob hg; omega
          · rw [e] at hg; obtain rfl := Option.some.inj hg; omega
        have hn58 : (Value.slice a5 (t + 1) c5).ownBlock = none ∨ (Value.slice a5 (t + 1) c5).ownBlock ≠ (Value.slice a8 (t + 1) c8).ownBlock := by
          cases hv : (Value.slice a5 (t + 1) c5).ownBlock with
          | none => exact .inl rfl
          | some g =>
            refine .inr (fun e => ?_)
            have h5 := (HO7.out.lt g hv).2
            rcases HW8.out with e' | ⟨g', e', hle⟩
            · rw [e'] at e
              have := ob e.symm
              have := HN5.out g hv
              omega
            · rw [e'] at e; obtain rfl := Option.some.inj e; omega
        have HN58 := Lib.hid hn58
        have HRW := Lib.hid (show X9.ownsRow b1 3 1 (.slice a5 (t + 1) c5) (t + 1) ((I.take t ++ [x]).map (Value.int .i64)) from by rw [hX9]; exact own_far HI8.out (fun g hg => by have := HN5.out g hg; omega))
        have HPW := Lib.hid (show X9.ownsRow b2 3 1 (.slice a8 (t + 1) c8) (t + 1) ((P.take t ++ [nx]).map (Value.int .i64)) from by rw [hX9, List.map_append]; exact own_far HO8.out hn8)
        have HS9 := Lib.hid (show Box5 X9 w.heap.size 26 (.slice a5 (t + 1) c5) (.slice a8 (t + 1) c8) (.int .i64 fi) (.int .i64 nx) (.int .i64 (dr + ((n : Int) - (t : Int)))) from by rw [hX9]; exact HS9.out)
        have HR9 := Lib.hid (show Box5 X9 (w.heap.size + 1) 26 (.slice none 0 0) (.slice none 0 0) (.int .i64 0) (.int .i64 0) (.int .i64 0) from by rw [hX9]; exact HR8.out.other (by omega) _ _)
        have HT9 := Lib.hid (show Touch b1 w.heap.size w X9 from by rw [hX9]; exact HT8.out.far (Nat.le_refl _))
        have HPN := Lib.hid (show ∀ g, (Value.slice a8 (t + 1) c8).ownBlock = some g → g ≠ w.heap.size ∧ g ≠ w.heap.size + 1 from fun g hg => by
          rcases HW8.out with e | ⟨g', e, hle⟩
          · rw [e] at hg; have := ob hg; omega
          · rw [e] at hg; obtain rfl := Option.some.inj hg; omega)
        rw [← hX9]
        clear hX9 q0 q1 q2 q3 q4 f1 HS7 HS8 HR7 HR8 HO7 HO8 HI8 HP7 HT7 HT8 HW8 hn8 hn58 SQ HLIT
        obtain ⟨q0, q1, q2, q3, q4⟩ := HS9.out.cells
        have f9 := HS9.out.free
        obtain ⟨e0, e1, e2, e3, e4⟩ := HR9.out.cells
        have g9 := HR9.out.free
        have hrl9 := HR9.out.lt
        have hww : IntKind.i64.wrap (nx + 1) = nx + 1 := IntWalk.i64_in _ ⟨by omega, by omega⟩
        go_wp2_with fail
        refine bodyPost_ret (by simp [results, Try.results68, go_sem, *]; try rfl) rfl ?_
        have hk2 := HK3.out
        obtain ⟨Y, hY⟩ : ∃ Y, Y = X9.setCell ⟨w.heap.size, 3, none⟩ (.int .i64 (nx + 1)) := ⟨_, rfl⟩
        have a1 : Y.ownsRow b1 3 1 (.slice a5 (t + 1) c5) (t + 1) ((I.take t ++ [x]).map (Value.int .i64)) := by rw [hY]; exact own_far HRW.out (fun g hg => by have := HN5.out g hg; omega)
        have a2 : Y.ownsRow b2 3 1 (.slice a8 (t + 1) c8) (t + 1) ((P.take t ++ [nx]).map (Value.int .i64)) := by rw [hY]; exact own_far HPW.out (fun g hg => (HPN.out g hg).1)
        have a3 : Touch b1 w.heap.size w Y := by rw [hY]; exact HT9.out.far (Nat.le_refl _)
        have hYs : w.heap.size + 1 < Y.heap.size := by rw [hY]; simpa [World.setCell] using hrl9
        rw [← hY]
        exact po_fin hb HN58.out (fun g hg => by have := HN5.out g hg; omega) (fun g hg => (HPN.out g hg).2) HIL.out HPL.out hk2 a1 a2 a3 (by omega) hYs _ _ _ _ _
    · obtain ⟨M0, hM⟩ : ∃ M0, t = M0 + 1 := ⟨t - 1, by omega⟩
      have HM := Lib.hid hM
      have hk0 : decide ((0 : Int) < (t : Int)) = true := by simp; omega
      have hk1 : decide (0 < t) = true := by simp; omega
      have hM0 : M0 < n := by omega
      have hsub : (t : Int) - 1 = (M0 : Int) := by omega
      have hw1 : IntKind.i64.wrap ((t : Int) - 1) = (M0 : Int) := by rw [hsub]; exact IntWalk.i64_in _ ⟨by omega, by omega⟩
      have hw2 : IntKind.i64.wrap (M0 : Int) = (M0 : Int) := IntWalk.i64_in _ ⟨by omega, by omega⟩
      have hkm : (0 : Int) ≤ (M0 : Int) := Int.natCast_nonneg _
      have hkn : (M0 : Int) < (n : Int) := by omega
      rcases (HNI.out.below hw.out).2.2.2 with h4 | ⟨ib, ioff, eib, hib, hics⟩
      · omega
      · simp only [Option.some.injEq, Addr.mk.injEq, and_true] at eib
        obtain ⟨rfl, rfl⟩ := eib
        have hc1 := hics M0 hM0
        rw [Nat.zero_add] at hc1
        clear hics
        obtain ⟨y, hy⟩ : ∃ y, y = I[M0]?.getD 0 := ⟨_, rfl⟩
        rw [← hy] at hc1
        obtain ⟨bb, hbb⟩ : ∃ bb, bb = Agg.before k y x := ⟨_, rfl⟩
        have hla := fun w => HLA.out y x w
        rw [← hbb] at hla
        have HL2 := Lib.hid hla
        have HKN := Lib.hid (show Agg.keepN k I x t = (if bb then Agg.keepN k I x M0 else t) from by rw [hM, hbb, hy]; rfl)
        clear hla hbb hy hM h0
        go_wp2_with fail
        refine wp_region_held_drew (S := (fun X => X.cell? ⟨w.heap.size, 0, none⟩ = some (.slice (some ⟨g1, 0, none⟩) n ic) ∧ X.cell? ⟨g1, M0, none⟩ = some (.int .i64 y))) (by kernel_rfl) (by refine ⟨?_, ?_⟩ <;> assumption) (fun hHeld => ?_)
        first | (refine wpAnyH_take (i := 0) (v := ?_) rfl (by kernel_rfl) (by kernel_rfl) (by kernel_rfl) (fun _ _ _ h => h) (Or.inl ⟨by rfl, ?_⟩) (by assumption) ?_; rotate_left; (intro X hSw; (try dsimp only at hSw); go_simp; (try with_reducible rfl)); (try simp only [Act.put, List.setIfInBounds_toArray, List.set_cons_zero, List.set_cons_succ, List.getElem_toArray, List.getElem_cons_zero, List.getElem_cons_succ])) | fail "take 0"
        first | (refine wpAnyH_take (i := 1) (v := ?_) rfl (by kernel_rfl) (by kernel_rfl) (by kernel_rfl) (fun _ _ _ h => h) (Or.inl ⟨by rfl, ?_⟩) (by assumption) ?_; rotate_left; (intro X hSw; (try dsimp only at hSw); go_simp; (try with_reducible rfl)); (try simp only [Act.put, List.setIfInBounds_toArray, List.set_cons_zero, List.set_cons_succ, List.getElem_toArray, List.getElem_cons_zero, List.getElem_cons_succ])) | fail "take 1"
        first | (refine wpAnyH_take (i := 2) (v := ?_) rfl (by kernel_rfl) (by kernel_rfl) (by kernel_rfl) (fun _ _ _ h => h) (Or.inl ⟨by rfl, ?_⟩) (by assumption) ?_; rotate_left; (intro X hSw; (try dsimp only at hSw); go_simp; (try with_reducible rfl)); (try simp only [Act.put, List.setIfInBounds_toArray, List.set_cons_zero, List.set_cons_succ, List.getElem_toArray, List.getElem_cons_zero, List.getElem_cons_succ])) | fail "take 2"
        first | (refine wpAnyH_take (i := 3) (v := ?_) rfl (by kernel_rfl) (by kernel_rfl) (by kernel_rfl) (fun _ _ _ h => h) (Or.inl ⟨by rfl, ?_⟩) (by assumption) ?_; rotate_left; (intro X hSw; (try dsimp only at hSw); go_simp; (try with_reducible rfl)); (try simp only [Act.put, List.setIfInBounds_toArray, List.set_cons_zero, List.set_cons_succ, List.getElem_toArray, List.getElem_cons_zero, List.getElem_cons_succ])) | fail "take 3"
        first | (refine wpAnyH_take (i := 4) (v := ?_) rfl (by kernel_rfl) (by kernel_rfl) (by kernel_rfl) (fun _ _ _ h => h) (Or.inl ⟨by rfl, ?_⟩) (by assumption) ?_; rotate_left; (intro X hSw; (try dsimp only at hSw); go_simp; (try with_reducible rfl)); (try simp only [Act.put, List.setIfInBounds_toArray, List.set_cons_zero, List.set_cons_succ, List.getElem_toArray, List.getElem_cons_zero, List.getElem_cons_succ])) | fail "take 4"
        first | (refine wpAnyH_take (i := 5) (v := ?_) rfl (by kernel_rfl) (by kernel_rfl) (by kernel_rfl) (fun _ _ _ h => h) (Or.inl ⟨by rfl, ?_⟩) (by assumption) ?_; rotate_left; (intro X hSw; (try dsimp only at hSw); go_simp; (try with_reducible rfl)); (try simp only [Act.put, List.setIfInBounds_toArray, List.set_cons_zero, List.set_cons_succ, List.getElem_toArray, List.getElem_cons_zero, List.getElem_cons_succ])) | fail "take 5"
        first | (refine wpAnyH_take (i := 6) (v := ?_) rfl (by kernel_rfl) (by kernel_rfl) (by kernel_rfl) (fun _ _ _ h => h) (Or.inl ⟨by rfl, ?_⟩) (by assumption) ?_; rotate_left; (intro X hSw; (try dsimp only at hSw); go_simp; (try with_reducible rfl)); (try simp only [Act.put, List.setIfInBounds_toArray, List.set_cons_zero, List.set_cons_succ, List.getElem_toArray, List.getElem_cons_zero, List.getElem_cons_succ])) | fail "take 6"
        first | (refine wpAnyH_take (i := 7) (v := ?_) rfl (by kernel_rfl) (by kernel_rfl) (by kernel_rfl) (fun _ _ _ h => h) (Or.inl ⟨by rfl, ?_⟩) (by assumption) ?_; rotate_left; (intro X hSw; (try dsimp only at hSw); go_simp; (try with_reducible rfl)); (try simp only [Act.put, List.setIfInBounds_toArray, List.set_cons_zero, List.set_cons_succ, List.getElem_toArray, List.getElem_cons_zero, List.getElem_cons_succ])) | fail "take 7"
        first | (refine wpAnyH_take (i := 8) (v := ?_) rfl (by kernel_rfl) (by kernel_rfl) (by kernel_rfl) (fun _ _ _ h => h) (Or.inl ⟨by rfl, ?_⟩) (by assumption) ?_; rotate_left; (intro X hSw; (try dsimp only at hSw); go_simp; (try with_reducible rfl)); (try simp only [Act.put, List.setIfInBounds_toArray, List.set_cons_zero, List.set_cons_succ, List.getElem_toArray, List.getElem_cons_zero, List.getElem_cons_succ])) | fail "take 8"
        first | (refine wpAnyH_take (i := 9) (v := ?_) rfl (by kernel_rfl) (by kernel_rfl) (by kernel_rfl) (fun _ _ _ h => h) (Or.inl ⟨by rfl, ?_⟩) (by assumption) ?_; rotate_left; (intro X hSw; (try dsimp only at hSw); go_simp; (try with_reducible rfl)); (try simp only [Act.put, List.setIfInBounds_toArray, List.set_cons_zero, List.set_cons_succ, List.getElem_toArray, List.getElem_cons_zero, List.getElem_cons_succ])) | fail "take 9"
        first | (refine wpAnyH_take (i := 10) (v := ?_) rfl (by kernel_rfl) (by kernel_rfl) (by kernel_rfl) (fun _ _ _ h => h) (Or.inl ⟨by rfl, ?_⟩) (by assumption) ?_; rotate_left; (intro X hSw; (try dsimp only at hSw); go_simp; (try with_reducible rfl)); (try simp only [Act.put, List.setIfInBounds_toArray, List.set_cons_zero, List.set_cons_succ, List.getElem_toArray, List.getElem_cons_zero, List.getElem_cons_succ])) | fail "take 10"
        first | (refine wpAnyH_take (i := 11) (v := ?_) rfl (by kernel_rfl) (by kernel_rfl) (by kernel_rfl) (fun _ _ _ h => h) (Or.inl ⟨by rfl, ?_⟩) (by assumption) ?_; rotate_left; (intro X hSw; (try dsimp only at hSw); go_simp; (try with_reducible rfl)); (try simp only [Act.put, List.setIfInBounds_toArray, List.set_cons_zero, List.set_cons_succ, List.getElem_toArray, List.getElem_cons_zero, List.getElem_cons_succ])) | fail "take 11"
        first | (refine wpAnyH_take (i := 12) (v := ?_) rfl (by kernel_rfl) (by kernel_rfl) (by kernel_rfl) (fun _ _ _ h => h) (Or.inl ⟨by rfl, ?_⟩) (by assumption) ?_; rotate_left; (intro X hSw; (try dsimp only at hSw); go_simp; (try with_reducible rfl)); (try simp only [Act.put, List.setIfInBounds_toArray, List.set_cons_zero, List.set_cons_succ, List.getElem_toArray, List.getElem_cons_zero, List.getElem_cons_succ])) | fail "take 12"
        first | (refine wpAnyH_take (i := 13) (v := ?_) rfl (by kernel_rfl) (by kernel_rfl) (by kernel_rfl) (fun _ _ _ h => h) (Or.inl ⟨by rfl, ?_⟩) (by assumption) ?_; rotate_left; (intro X hSw; (try dsimp only at hSw); go_simp; (try with_reducible rfl)); (try simp only [Act.put, List.setIfInBounds_toArray, List.set_cons_zero, List.set_cons_succ, List.getElem_toArray, List.getElem_cons_zero, List.getElem_cons_succ])) | fail "take 13"
        refine wpAnyH_ready (rs := [14]) (by kernel_rfl) (by simp) ?_
        refine AllReadyH.cons rfl (fun K hK => ?_) AllReadyH.nil
        go_simp
        refine (HL2.out _).mono ?_
        rintro e w3 ⟨rfl, hb3⟩
        have HS3 := Lib.hid (hs.out.callD hb3)
        have HR3 := Lib.hid (hr.out.callD hb3)
        have HB3 := Lib.hid (hw.out.drew.trans (hb3.mono hw.out.size))
        have hc0 := HS3.out.cells.1
        have hc1 := (hb3.cell (p := ⟨g1, M0, none⟩) hib).trans hc1
        clear hb3
        (try dsimp only)
        refine hK.out _ _ (by refine ⟨?_, ?_⟩ <;> assumption) (fun hHeld => ?_)
        clear hK K
        (try simp only [Act.put, List.setIfInBounds_toArray, List.set_cons_zero, List.set_cons_succ, List.getElem_toArray, List.getElem_cons_zero, List.getElem_cons_succ])
        first | (refine wpAnyH_take (i := 15) (v := ?_) rfl (by kernel_rfl) (by kernel_rfl) (by kernel_rfl) (fun _ _ _ h => h) (Or.inl ⟨by rfl, ?_⟩) (by assumption) ?_; rotate_left; (intro X hSw; (try dsimp only at hSw); go_simp; (try with_reducible rfl)); (try simp only [Act.put, List.setIfInBounds_toArray, List.set_cons_zero, List.set_cons_succ, List.getElem_toArray, List.getElem_cons_zero, List.getElem_cons_succ])) | fail "take 15"
        refine wpAnyH_done (by kernel_rfl) ?_ _
        clear hs hr hw q0 q1 q2 q3 q4 hc0 hc1 hHeld
        cases bb
        · have HK3 := Lib.hid (show Agg.keepN k I x n = t from by rw [← hke.out]; have := HKN.out; simpa using this)
          obtain ⟨X3, hX3⟩ : ∃ X3, X3 = w3 := ⟨_, rfl⟩
          rw [← hX3] at HS3 HR3 HB3 ⊢
          clear hX3 hib HNI HL2 HKN hke HM hsub hw1 hw2 hkm hkn hk0 hk1
          have hsx := HB3.out.size
          have hsl := HS3.out.lt
          have hrl := HR3.out.lt
          have HI3 := Lib.hid (HI.out.kept (Below.grownNone HB3.out none) (by cases hv : (Value.slice (some ⟨g1, 0, none⟩) n ic).ownBlock <;> simp))
          have HP3 := Lib.hid (HP.out.kept (Below.grownNone HB3.out none) (by cases hv : (Value.slice (some ⟨g2, 0, none⟩) n pc).ownBlock <;> simp))
          have HPG := Lib.hid (fun g (hg : (Value.slice (some ⟨g2, 0, none⟩) n pc).ownBlock = some g) => HP.out.lt g hg)
          have HPI := Lib.hid (own_prefix_int HI3.out ht)
          have HPP := Lib.hid (own_prefix_int HP3.out ht)
          obtain ⟨q0, q1, q2, q3, q4⟩ := HS3.out.cells
          have hti : (t : Int) ≤ (ic : Int) := by omega
          have htp : (t : Int) ≤ (pc : Int) := by omega
          have htn : (0 : Int) ≤ (t : Int) := Int.natCast_nonneg _
          go_upto_region 6 with (
            at_builtin
            go_must (refine wpList_append_where rfl (.tmp 36) (.tmp 38) 24 rfl b1 3 i0 (.int .i64 0) 1 8 Try.underlying24 hi0 hz0 hz1 hz2 rfl (by decide) (.slice (some ⟨g1, 0, none⟩) t ic) t ((I.take t).map (Value.int .i64)) rfl (HPI.out.alloc _) ⟨X3.heap.size, 0, none⟩ 1 1 [.int .i64 x] rfl rfl (cell_one_new _ _ _) (ints_oneCell .i64 [x]) (by unfold maxLen; omega) (by omega) (by simp; omega) ?_)
            go_loud (
              intro v5 w5 hown5 hgrow5 hwhere5
              obtain ⟨a5, c5, rfl⟩ := slice_own hown5
              have HO5 := Lib.hid hown5
              have HG5 := Lib.hid hgrow5
              have HW5 := Lib.hid hwhere5
              have HS5 := Lib.hid ((HS3.out.alloc (.cells #[.int .i64 x] 3)).grown hgrow5 (fun e => by have := ob e; omega))
              have HR5 := Lib.hid ((HR3.out.alloc (.cells #[.int .i64 x] 3)).grown hgrow5 (fun e => by have := ob e; omega))
              have HP5 := Lib.hid ((HPP.out.alloc (.cells #[.int .i64 x] 3)).kept hgrow5 (by cases hv : (Value.slice (some ⟨g2, 0, none⟩) t pc).ownBlock with | none => exact .inl rfl | some g => exact .inr (fun e => by have := ob e.symm; have := ob hv; omega)))
              have f0 := HS5.out.free 0
              obtain ⟨q0, q1, q2, q3, q4⟩ := HS5.out.cells
              clear hown5 hgrow5 hwhere5))
          have hs5 : X3.heap.size + 1 ≤ w5.heap.size := by have := HG5.out.size; simpa using this
          have HN5 := Lib.hid (show ∀ g, (Value.slice a5 (t + 1) c5).ownBlock = some g → g < b2 ∨ X3.heap.size ≤ g from fun g hg => by
            rcases HW5.out with e | ⟨g', e, hle⟩
            · exact .inl (by rw [e] at hg; have := ob hg; omega)
            · rw [e] at hg; obtain rfl := Option.some.inj hg; simp at hle; exact .inr (by omega))
          obtain ⟨X6, hX6⟩ : ∃ X6, X6 = w5.setCell ⟨w.heap.size, 0, none⟩ (.slice a5 (t + 1) c5) := ⟨_, rfl⟩
          have HS6 := Lib.hid (show Box5 X6 w.heap.size 26 (.slice a5 (t + 1) c5) (.slice (some ⟨g2, 0, none⟩) n pc) (.int .i64 fi) (.int .i64 nx) (.int .i64 (dr + ((n : Int) - (t : Int)))) from by rw [hX6]; exact HS5.out.set0 _)
          have HR6 := Lib.hid (show Box5 X6 (w.heap.size + 1) 26 (.slice none 0 0) (.slice none 0 0) (.int .i64 0) (.int .i64 0) (.int .i64 0) from by rw [hX6]; exact HR5.out.other (by omega) _ _)
          have HO6 := Lib.hid (show X6.ownsRow b1 3 1 (.slice a5 (t + 1) c5) (t + 1) ((I.take t ++ [x]).map (Value.int .i64)) from by
            rw [hX6, List.map_append]
            exact own_far HO5.out (fun g hg => by have := HN5.out g hg; omega))
          have HP6 := Lib.hid (show X6.ownsRow b2 3 1 (.slice (some ⟨g2, 0, none⟩) t pc) t ((P.take t).map (Value.int .i64)) from by
            rw [hX6]
            exact own_far HP5.out (fun g hg => by have := ob hg; omega))
          have HT6 := Lib.hid (show Touch b1 w.heap.size w X6 from by
            rw [hX6]
            exact Touch.far ((((Touch.refl b1 w.heap.size w).call HB3.out).call ((Below.refl X3.heap.size X3).alloc (Nat.le_refl _) _)).trans (Touch.of HG5.out (fun g hg => by have := ob hg; omega))) (Nat.le_refl _))
          have hs6 : X3.heap.size + 1 ≤ X6.heap.size := by rw [hX6]; simpa [World.setCell] using hs5
          rw [← hX6]
          clear hX6 q0 q1 q2 q3 q4 f0 HS5 HR5 HP5 HO5 HG5 HW5 HPI HPP HI3 HP3 HS3 HR3 HB3
          obtain ⟨q0, q1, q2, q3, q4⟩ := HS6.out.cells
          have SQ := Lib.hid (show ∀ (X : World) (v : Value), Box5 X w.heap.size 26 (.slice a5 (t + 1) c5) v (.int .i64 fi) (.int .i64 nx) (.int .i64 (dr + ((n : Int) - (t : Int)))) → X.cell? ⟨w.heap.size, 3, none⟩ = some (.int .i64 nx) from fun X v h => h.cells.2.2.2.1)
          refine wp_region_held_drew (S := (fun X => X.cell? ⟨w.heap.size, 3, none⟩ = some (.int .i64 nx))) (by kernel_rfl) (by exact q3) (fun hHeld => ?_)
          clear q0 q1 q2 q3 q4
          first | (refine wpAnyH_take (i := 0) (v := ?_) rfl (by kernel_rfl) (by kernel_rfl) (by kernel_rfl) (fun _ _ _ h => h) (Or.inl ⟨by rfl, ?_⟩) (by assumption) ?_; rotate_left; (intro X hSw; (try dsimp only at hSw); go_simp; (try with_reducible rfl)); (try simp only [Act.put, List.setIfInBounds_toArray, List.set_cons_zero, List.set_cons_succ, List.getElem_toArray, List.getElem_cons_zero, List.getElem_cons_succ])) | fail "take 0"
          first | (refine wpAnyH_take (i := 2) (v := ?_) rfl (by kernel_rfl) (by kernel_rfl) (by kernel_rfl) (fun _ _ _ h => h) (Or.inl ⟨by rfl, ?_⟩) (by assumption) ?_; rotate_left; (intro X hSw; (try dsimp only at hSw); go_simp; (try with_reducible rfl)); (try simp only [Act.put, List.setIfInBounds_toArray, List.set_cons_zero, List.set_cons_succ, List.getElem_toArray, List.getElem_cons_zero, List.getElem_cons_succ])) | fail "take 2"
          first | (refine wpAnyH_take (i := 4) (v := ?_) rfl (by kernel_rfl) (by kernel_rfl) (by kernel_rfl) (fun _ _ _ h => h) (Or.inl ⟨by rfl, ?_⟩) (by assumption) ?_; rotate_left; (intro X hSw; (try dsimp only at hSw); go_simp; (try with_reducible rfl)); (try simp only [Act.put, List.setIfInBounds_toArray, List.set_cons_zero, List.set_cons_succ, List.getElem_toArray, List.getElem_cons_zero, List.getElem_cons_succ])) | fail "take 4"
          first | (refine wpAnyH_take (i := 5) (v := ?_) rfl (by kernel_rfl) (by kernel_rfl) (by kernel_rfl) (fun _ _ _ h => h) (Or.inl ⟨by rfl, ?_⟩) (by assumption) ?_; rotate_left; (intro X hSw; (try dsimp only at hSw); go_simp; (try with_reducible rfl)); (try simp only [Act.put, List.setIfInBounds_toArray, List.set_cons_zero, List.set_cons_succ, List.getElem_toArray, List.getElem_cons_zero, List.getElem_cons_succ])) | fail "take 5"
          refine wpAnyH_ready (rs := [1, 6]) (by kernel_rfl) (by simp) ?_
          refine AllReadyH.cons rfl (fun K hK => ?_) (AllReadyH.cons rfl (fun K hK => ?_) AllReadyH.nil)
          
          · obtain ⟨q0, q1, q2, q3, q4⟩ := HS6.out.cells
            go_simp
            clear q0 q1 q2 q3 q4
            (try dsimp only)
            refine hK.out _ _ (by exact SQ.out _ _ HS6.out) (fun hHeld => ?_)
            clear hK K
            (try simp only [Act.put, List.setIfInBounds_toArray, List.set_cons_zero, List.set_cons_succ, List.getElem_toArray, List.getElem_cons_zero, List.getElem_cons_succ])
            first | (refine wpAnyH_take (i := 3) (v := ?_) rfl (by kernel_rfl) (by kernel_rfl) (by kernel_rfl) (fun _ _ _ h => h) (Or.inl ⟨by rfl, ?_⟩) (by assumption) ?_; rotate_left; (intro X hSw; (try dsimp only at hSw); go_simp; (try with_reducible rfl)); (try simp only [Act.put, List.setIfInBounds_toArray, List.set_cons_zero, List.set_cons_succ, List.getElem_toArray, List.getElem_cons_zero, List.getElem_cons_succ])) | fail "take 3"
            refine wpAnyH_ready (rs := [6]) (by kernel_rfl) (by simp) ?_
            refine AllReadyH.cons rfl (fun K hK => ?_) AllReadyH.nil
            go_simp
            obtain ⟨X7, hX7⟩ : ∃ X7, X7 = (X6.alloc (.cells #[.int .i64 nx] 3)).drew := ⟨_, rfl⟩
            have hbn : Below X6.heap.size X6 X7 := by rw [hX7]; exact ((Below.refl _ _).alloc (Nat.le_refl _) _).drew
            have hs7 : X7.heap.size = X6.heap.size + 1 := by rw [hX7]; simp [World.drew]
            have HS7 := Lib.hid (HS6.out.call hbn)
            have HR7 := Lib.hid (HR6.out.call hbn)
            have HO7 := Lib.hid (HO6.out.kept (Below.grownNone hbn none) (by cases hv : (Value.slice a5 (t + 1) c5).ownBlock <;> simp))
            have HP7 := Lib.hid (HP6.out.kept (Below.grownNone hbn none) (by cases hv : (Value.slice (some ⟨g2, 0, none⟩) t pc).ownBlock <;> simp))
            have HT7 := Lib.hid (HT6.out.call hbn)
            have HLIT := Lib.hid (show ∀ j u, ([Value.int .i64 nx])[j]? = some u → X7.cell? ((⟨X6.heap.size, 0, none⟩ : Addr).add j) = some u from by rw [hX7]; exact cell_one_new X6 (.int .i64 nx) 3)
            rw [← hX7]
            clear hX7 hbn HS6 HR6 HO6 HP6 HT6
            (try dsimp only)
            refine hK.out _ _ (by exact SQ.out _ _ HS7.out) (fun hHeld => ?_)
            clear hK K
            (try simp only [Act.put, List.setIfInBounds_toArray, List.set_cons_zero, List.set_cons_succ, List.getElem_toArray, List.getElem_cons_zero, List.getElem_cons_succ])
            refine wpAnyH_ready (rs := [7]) (by kernel_rfl) (by simp) ?_
            refine AllReadyH.cons rfl (fun K hK => ?_) AllReadyH.nil
            go_must (refine step_append_whered (by rfl) (.tmp 44) (.tmp 47) 24 (by rfl) b2 3 i0 (.int .i64 0) 1 8 Try.underlying24 hi0 hz0 hz1 hz2 rfl (by decide) (.slice (some ⟨g2, 0, none⟩) t pc) t ((P.take t).map (Value.int .i64)) (by rfl) HP7.out ⟨X6.heap.size, 0, none⟩ 1 1 [.int .i64 nx] (by rfl) (by rfl) HLIT.out (ints_oneCell .i64 [nx]) (by unfold maxLen; omega) (by omega) (by omega) ?_)
            intro v8 w8 hown8 hgrow8 hwhere8
            obtain ⟨a8, c8, rfl⟩ := slice_own hown8
            have hs8 := hgrow8.size
            have HO8 := Lib.hid hown8
            have HW8 := Lib.hid hwhere8
            have HS8 := Lib.hid (HS7.out.grown hgrow8 (fun e => by have := ob e; omega))
            have HR8 := Lib.hid (HR7.out.grown hgrow8 (fun e => by have := ob e; omega))
            have HI8 := Lib.hid (HO7.out.kept hgrow8 (by cases hv : (Value.slice a5 (t + 1) c5).ownBlock with | none => exact .inl rfl | some g => exact .inr (fun e => by have := HN5.out g hv; have := ob e.symm; omega)))
            have HT8 := Lib.hid (HT7.out.trans (show Touch b1 w.heap.size X7 w8 from Touch.of hgrow8 (fun g hg => by have := ob hg; omega)))
            clear hown8 hgrow8 hwhere8
            (try dsimp only)
            refine hK.out _ _ (by exact SQ.out _ _ HS8.out) (fun hHeld => ?_)
            clear hK K
            (try simp only [Act.put, List.setIfInBounds_toArray, List.set_cons_zero, List.set_cons_succ, List.getElem_toArray, List.getElem_cons_zero, List.getElem_cons_succ])
            first | (refine wpAnyH_take (i := 8) (v := ?_) rfl (by kernel_rfl) (by kernel_rfl) (by kernel_rfl) (fun _ _ _ h => h) (Or.inl ⟨by rfl, ?_⟩) (by assumption) ?_; rotate_left; (intro X hSw; (try dsimp only at hSw); go_simp; (try with_reducible rfl)); (try simp only [Act.put, List.setIfInBounds_toArray, List.set_cons_zero, List.set_cons_succ, List.getElem_toArray, List.getElem_cons_zero, List.getElem_cons_succ])) | fail "take 8"
            refine wpAnyH_ready (rs := [9]) (by kernel_rfl) (by simp) ?_
            refine AllReadyH.cons rfl (fun K hK => ?_) AllReadyH.nil
            have f1 := HS8.out.free 1
            obtain ⟨q0, q1, q2, q3, q4⟩ := HS8.out.cells
            go_simp
            have HS9 := Lib.hid (HS8.out.set1 (.slice a8 (t + 1) c8))
            (try dsimp only)
            refine hK.out _ _ (by exact SQ.out _ _ HS9.out) (fun hHeld => ?_)
            clear hK K
            (try simp only [Act.put, List.setIfInBounds_toArray, List.set_cons_zero, List.set_cons_succ, List.getElem_toArray, List.getElem_cons_zero, List.getElem_cons_succ])
            refine wpAnyH_done (by kernel_rfl) ?_ _
            obtain ⟨X9, hX9⟩ : ∃ X9, X9 = w8.setCell ⟨w.heap.size, 1, none⟩ (.slice a8 (t + 1) c8) := ⟨_, rfl⟩
            have hn8 : ∀ g, (Value.slice a8 (t + 1) c8).ownBlock = some g → g ≠ w.heap.size := fun g hg => by
              rcases HW8.out with e | ⟨g', e, hle⟩
              · rw [e] at hg; have := ob hg; omega
              · rw [e] at hg; obtain rfl := Option.some.inj hg; omega
            have hn58 : (Value.slice a5 (t + 1) c5).ownBlock = none ∨ (Value.slice a5 (t + 1) c5).ownBlock ≠ (Value.slice a8 (t + 1) c8).ownBlock := by
              cases hv : (Value.slice a5 (t + 1) c5).ownBlock with
              | none => exact .inl rfl
              | some g =>
                refine .inr (fun e => ?_)
                have h5 := (HO7.out.lt g hv).2
                rcases HW8.out with e' | ⟨g', e', hle⟩
                · rw [e'] at e
                  have := ob e.symm
                  have := HN5.out g hv
                  omega
                · rw [e'] at e; obtain rfl := Option.some.inj e; omega
            have HN58 := Lib.hid hn58
            have HRW := Lib.hid (show X9.ownsRow b1 3 1 (.slice a5 (t + 1) c5) (t + 1) ((I.take t ++ [x]).map (Value.int .i64)) from by rw [hX9]; exact own_far HI8.out (fun g hg => by have := HN5.out g hg; omega))
            have HPW := Lib.hid (show X9.ownsRow b2 3 1 (.slice a8 (t + 1) c8) (t + 1) ((P.take t ++ [nx]).map (Value.int .i64)) from by rw [hX9, List.map_append]; exact own_far HO8.out hn8)
            have HS9 := Lib.hid (show Box5 X9 w.heap.size 26 (.slice a5 (t + 1) c5) (.slice a8 (t + 1) c8) (.int .i64 fi) (.int .i64 nx) (.int .i64 (dr + ((n : Int) - (t : Int)))) from by rw [hX9]; exact HS9.out)
            have HR9 := Lib.hid (show Box5 X9 (w.heap.size + 1) 26 (.slice none 0 0) (.slice none 0 0) (.int .i64 0) (.int .i64 0) (.int .i64 0) from by rw [hX9]; exact HR8.out.other (by omega) _ _)
            have HT9 := Lib.hid (show Touch b1 w.heap.size w X9 from by rw [hX9]; exact HT8.out.far (Nat.le_refl _))
            have HPN := Lib.hid (show ∀ g, (Value.slice a8 (t + 1) c8).ownBlock = some g → g ≠ w.heap.size ∧ g ≠ w.heap.size + 1 from fun g hg => by
              rcases HW8.out with e | ⟨g', e, hle⟩
              · rw [e] at hg; have := ob hg; omega
              · rw [e] at hg; obtain rfl := Option.some.inj hg; omega)
            rw [← hX9]
            clear hX9 q0 q1 q2 q3 q4 f1 HS7 HS8 HR7 HR8 HO7 HO8 HI8 HP7 HT7 HT8 HW8 hn8 hn58 SQ HLIT
            obtain ⟨q0, q1, q2, q3, q4⟩ := HS9.out.cells
            have f9 := HS9.out.free
            obtain ⟨e0, e1, e2, e3, e4⟩ := HR9.out.cells
            have g9 := HR9.out.free
            have hrl9 := HR9.out.lt
            have hww : IntKind.i64.wrap (nx + 1) = nx + 1 := IntWalk.i64_in _ ⟨by omega, by omega⟩
            go_wp2_with fail
            refine bodyPost_ret (by simp [results, Try.results68, go_sem, *]; try rfl) rfl ?_
            have hk2 := HK3.out
            obtain ⟨Y, hY⟩ : ∃ Y, Y = X9.setCell ⟨w.heap.size, 3, none⟩ (.int .i64 (nx + 1)) := ⟨_, rfl⟩
            have a1 : Y.ownsRow b1 3 1 (.slice a5 (t + 1) c5) (t + 1) ((I.take t ++ [x]).map (Value.int .i64)) := by rw [hY]; exact own_far HRW.out (fun g hg => by have := HN5.out g hg; omega)
            have a2 : Y.ownsRow b2 3 1 (.slice a8 (t + 1) c8) (t + 1) ((P.take t ++ [nx]).map (Value.int .i64)) := by rw [hY]; exact own_far HPW.out (fun g hg => (HPN.out g hg).1)
            have a3 : Touch b1 w.heap.size w Y := by rw [hY]; exact HT9.out.far (Nat.le_refl _)
            have hYs : w.heap.size + 1 < Y.heap.size := by rw [hY]; simpa [World.setCell] using hrl9
            rw [← hY]
            exact po_fin hb HN58.out (fun g hg => by have := HN5.out g hg; omega) (fun g hg => (HPN.out g hg).2) HIL.out HPL.out hk2 a1 a2 a3 (by omega) hYs _ _ _ _ _
          · go_simp
            obtain ⟨X7, hX7⟩ : ∃ X7, X7 = (X6.alloc (.cells #[.int .i64 nx] 3)).drew := ⟨_, rfl⟩
            have hbn : Below X6.heap.size X6 X7 := by rw [hX7]; exact ((Below.refl _ _).alloc (Nat.le_refl _) _).drew
            have hs7 : X7.heap.size = X6.heap.size + 1 := by rw [hX7]; simp [World.drew]
            have HS7 := Lib.hid (HS6.out.call hbn)
            have HR7 := Lib.hid (HR6.out.call hbn)
            have HO7 := Lib.hid (HO6.out.kept (Below.grownNone hbn none) (by cases hv : (Value.slice a5 (t + 1) c5).ownBlock <;> simp))
            have HP7 := Lib.hid (HP6.out.kept (Below.grownNone hbn none) (by cases hv : (Value.slice (some ⟨g2, 0, none⟩) t pc).ownBlock <;> simp))
            have HT7 := Lib.hid (HT6.out.call hbn)
            have HLIT := Lib.hid (show ∀ j u, ([Value.int .i64 nx])[j]? = some u → X7.cell? ((⟨X6.heap.size, 0, none⟩ : Addr).add j) = some u from by rw [hX7]; exact cell_one_new X6 (.int .i64 nx) 3)
            rw [← hX7]
            clear hX7 hbn HS6 HR6 HO6 HP6 HT6
            (try dsimp only)
            refine hK.out _ _ (by exact SQ.out _ _ HS7.out) (fun hHeld => ?_)
            clear hK K
            (try simp only [Act.put, List.setIfInBounds_toArray, List.set_cons_zero, List.set_cons_succ, List.getElem_toArray, List.getElem_cons_zero, List.getElem_cons_succ])
            refine wpAnyH_ready (rs := [1]) (by kernel_rfl) (by simp) ?_
            refine AllReadyH.cons rfl (fun K hK => ?_) AllReadyH.nil
            obtain ⟨q0, q1, q2, q3, q4⟩ := HS7.out.cells
            go_simp
            clear q0 q1 q2 q3 q4
            (try dsimp only)
            refine hK.out _ _ (by exact SQ.out _ _ HS7.out) (fun hHeld => ?_)
            clear hK K
            (try simp only [Act.put, List.setIfInBounds_toArray, List.set_cons_zero, List.set_cons_succ, List.getElem_toArray, List.getElem_cons_zero, List.getElem_cons_succ])
            first | (refine wpAnyH_take (i := 3) (v := ?_) rfl (by kernel_rfl) (by kernel_rfl) (by kernel_rfl) (fun _ _ _ h => h) (Or.inl ⟨by rfl, ?_⟩) (by assumption) ?_; rotate_left; (intro X hSw; (try dsimp only at hSw); go_simp; (try with_reducible rfl)); (try simp only [Act.put, List.setIfInBounds_toArray, List.set_cons_zero, List.set_cons_succ, List.getElem_toArray, List.getElem_cons_zero, List.getElem_cons_succ])) | fail "take 3"
            refine wpAnyH_ready (rs := [7]) (by kernel_rfl) (by simp) ?_
            refine AllReadyH.cons rfl (fun K hK => ?_) AllReadyH.nil
            go_must (refine step_append_whered (by rfl) (.tmp 44) (.tmp 47) 24 (by rfl) b2 3 i0 (.int .i64 0) 1 8 Try.underlying24 hi0 hz0 hz1 hz2 rfl (by decide) (.slice (some ⟨g2, 0, none⟩) t pc) t ((P.take t).map (Value.int .i64)) (by rfl) HP7.out ⟨X6.heap.size, 0, none⟩ 1 1 [.int .i64 nx] (by rfl) (by rfl) HLIT.out (ints_oneCell .i64 [nx]) (by unfold maxLen; omega) (by omega) (by omega) ?_)
            intro v8 w8 hown8 hgrow8 hwhere8
            obtain ⟨a8, c8, rfl⟩ := slice_own hown8
            have hs8 := hgrow8.size
            have HO8 := Lib.hid hown8
            have HW8 := Lib.hid hwhere8
            have HS8 := Lib.hid (HS7.out.grown hgrow8 (fun e => by have := ob e; omega))
            have HR8 := Lib.hid (HR7.out.grown hgrow8 (fun e => by have := ob e; omega))
            have HI8 := Lib.hid (HO7.out.kept hgrow8 (by cases hv : (Value.slice a5 (t + 1) c5).ownBlock with | none => exact .inl rfl | some g => exact .inr (fun e => by have := HN5.out g hv; have := ob e.symm; omega)))
            have HT8 := Lib.hid (HT7.out.trans (show Touch b1 w.heap.size X7 w8 from Touch.of hgrow8 (fun g hg => by have := ob hg; omega)))
            clear hown8 hgrow8 hwhere8
            (try dsimp only)
            refine hK.out _ _ (by exact SQ.out _ _ HS8.out) (fun hHeld => ?_)
            clear hK K
            (try simp only [Act.put, List.setIfInBounds_toArray, List.set_cons_zero, List.set_cons_succ, List.getElem_toArray, List.getElem_cons_zero, List.getElem_cons_succ])
            first | (refine wpAnyH_take (i := 8) (v := ?_) rfl (by kernel_rfl) (by kernel_rfl) (by kernel_rfl) (fun _ _ _ h => h) (Or.inl ⟨by rfl, ?_⟩) (by assumption) ?_; rotate_left; (intro X hSw; (try dsimp only at hSw); go_simp; (try with_reducible rfl)); (try simp only [Act.put, List.setIfInBounds_toArray, List.set_cons_zero, List.set_cons_succ, List.getElem_toArray, List.getElem_cons_zero, List.getElem_cons_succ])) | fail "take 8"
            refine wpAnyH_ready (rs := [9]) (by kernel_rfl) (by simp) ?_
            refine AllReadyH.cons rfl (fun K hK => ?_) AllReadyH.nil
            have f1 := HS8.out.free 1
            obtain ⟨q0, q1, q2, q3, q4⟩ := HS8.out.cells
            go_simp
            have HS9 := Lib.hid (HS8.out.set1 (.slice a8 (t + 1) c8))
            (try dsimp only)
            refine hK.out _ _ (by exact SQ.out _ _ HS9.out) (fun hHeld => ?_)
            clear hK K
            (try simp only [Act.put, List.setIfInBounds_toArray, List.set_cons_zero, List.set_cons_succ, List.getElem_toArray, List.getElem_cons_zero, List.getElem_cons_succ])
            refine wpAnyH_done (by kernel_rfl) ?_ _
            obtain ⟨X9, hX9⟩ : ∃ X9, X9 = w8.setCell ⟨w.heap.size, 1, none⟩ (.slice a8 (t + 1) c8) := ⟨_, rfl⟩
            have hn8 : ∀ g, (Value.slice a8 (t + 1) c8).ownBlock = some g → g ≠ w.heap.size := fun g hg => by
              rcases HW8.out with e | ⟨g', e, hle⟩
              · rw [e] at hg; have := ob hg; omega
              · rw [e] at hg; obtain rfl := Option.some.inj hg; omega
            have hn58 : (Value.slice a5 (t + 1) c5).ownBlock = none ∨ (Value.slice a5 (t + 1) c5).ownBlock ≠ (Value.slice a8 (t + 1) c8).ownBlock := by
              cases hv : (Value.slice a5 (t + 1) c5).ownBlock with
              | none => exact .inl rfl
              | some g =>
                refine .inr (fun e => ?_)
                have h5 := (HO7.out.lt g hv).2
                rcases HW8.out with e' | ⟨g', e', hle⟩
                · rw [e'] at e
                  have := ob e.symm
                  have := HN5.out g hv
                  omega
                · rw [e'] at e; obtain rfl := Option.some.inj e; omega
            have HN58 := Lib.hid hn58
            have HRW := Lib.hid (show X9.ownsRow b1 3 1 (.slice a5 (t + 1) c5) (t + 1) ((I.take t ++ [x]).map (Value.int .i64)) from by rw [hX9]; exact own_far HI8.out (fun g hg => by have := HN5.out g hg; omega))
            have HPW := Lib.hid (show X9.ownsRow b2 3 1 (.slice a8 (t + 1) c8) (t + 1) ((P.take t ++ [nx]).map (Value.int .i64)) from by rw [hX9, List.map_append]; exact own_far HO8.out hn8)
            have HS9 := Lib.hid (show Box5 X9 w.heap.size 26 (.slice a5 (t + 1) c5) (.slice a8 (t + 1) c8) (.int .i64 fi) (.int .i64 nx) (.int .i64 (dr + ((n : Int) - (t : Int)))) from by rw [hX9]; exact HS9.out)
            have HR9 := Lib.hid (show Box5 X9 (w.heap.size + 1) 26 (.slice none 0 0) (.slice none 0 0) (.int .i64 0) (.int .i64 0) (.int .i64 0) from by rw [hX9]; exact HR8.out.other (by omega) _ _)
            have HT9 := Lib.hid (show Touch b1 w.heap.size w X9 from by rw [hX9]; exact HT8.out.far (Nat.le_refl _))
            have HPN := Lib.hid (show ∀ g, (Value.slice a8 (t + 1) c8).ownBlock = some g → g ≠ w.heap.size ∧ g ≠ w.heap.size + 1 from fun g hg => by
              rcases HW8.out with e | ⟨g', e, hle⟩
              · rw [e] at hg; have := ob hg; omega
              · rw [e] at hg; obtain rfl := Option.some.inj hg; omega)
            rw [← hX9]
            clear hX9 q0 q1 q2 q3 q4 f1 HS7 HS8 HR7 HR8 HO7 HO8 HI8 HP7 HT7 HT8 HW8 hn8 hn58 SQ HLIT
            obtain ⟨q0, q1, q2, q3, q4⟩ := HS9.out.cells
            have f9 := HS9.out.free
            obtain ⟨e0, e1, e2, e3, e4⟩ := HR9.out.cells
            have g9 := HR9.out.free
            have hrl9 := HR9.out.lt
            have hww : IntKind.i64.wrap (nx + 1) = nx + 1 := IntWalk.i64_in _ ⟨by omega, by omega⟩
            go_wp2_with fail
            refine bodyPost_ret (by simp [results, Try.results68, go_sem, *]; try rfl) rfl ?_
            have hk2 := HK3.out
            obtain ⟨Y, hY⟩ : ∃ Y, Y = X9.setCell ⟨w.heap.size, 3, none⟩ (.int .i64 (nx + 1)) := ⟨_, rfl⟩
            have a1 : Y.ownsRow b1 3 1 (.slice a5 (t + 1) c5) (t + 1) ((I.take t ++ [x]).map (Value.int .i64)) := by rw [hY]; exact own_far HRW.out (fun g hg => by have := HN5.out g hg; omega)
            have a2 : Y.ownsRow b2 3 1 (.slice a8 (t + 1) c8) (t + 1) ((P.take t ++ [nx]).map (Value.int .i64)) := by rw [hY]; exact own_far HPW.out (fun g hg => (HPN.out g hg).1)
            have a3 : Touch b1 w.heap.size w Y := by rw [hY]; exact HT9.out.far (Nat.le_refl _)
            have hYs : w.heap.size + 1 < Y.heap.size := by rw [hY]; simpa [World.setCell] using hrl9
            rw [← hY]
            exact po_fin hb HN58.out (fun g hg => by have := HN5.out g hg; omega) (fun g hg => (HPN.out g hg).2) HIL.out HPL.out hk2 a1 a2 a3 (by omega) hYs _ _ _ _ _
        · obtain ⟨q0, q1, q2, q3, q4⟩ := HS3.out.cells
          have f4 := HS3.out.free
          have hdd : dr + ((n : Int) - (t : Int)) + 1 = dr + ((n : Int) - (M0 : Int)) := by have := HM.out; omega
          have hdw : IntKind.i64.wrap (dr + ((n : Int) - (t : Int)) + 1) = dr + ((n : Int) - (M0 : Int)) := by rw [hdd]; exact IntWalk.i64_in _ ⟨by omega, by omega⟩
          have hdw2 : IntKind.i64.wrap (dr + ((n : Int) - (M0 : Int))) = dr + ((n : Int) - (M0 : Int)) := IntWalk.i64_in _ ⟨by omega, by omega⟩
          go_wp2_with fail
          go_roundw
          case rel => exact ⟨M0, by omega, by go_num, Lib.hid (by rw [← hke.out]; have := HKN.out; simpa using this.symm), Lib.hid (by first | exact HS3.out.set4 _ | (rw [← hdd]; exact HS3.out.set4 _)), Lib.hid (HR3.out.other (by omega) _ _), Lib.hid (HB3.out.setCell (Nat.le_refl _) _)⟩
          case measure => have := HM.out; simp [intOf]; omega
end Go.Proofs.Ytolgclajlklmaaa
