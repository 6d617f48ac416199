import Derived.Test.YtolgclajlklmaaaGreatQx
import Derived.Test.YtolgclajlklmaaaGreatQy
import Derived.Test.YtolgclajlklmaaaGreatTb
import Derived.Deep.Cut
import Derived.Deep.DeepMust
import Derived.IntWalk
import Derived.Test.YtolgclajlklmaaaGreatSr
import Derived.Test.YtolgclajlklmaaaGreatTa
import Derived.Deep.RegionHeld3
namespace Go.Proofs.YtolgclajlklmaaaGreat
set_option linter.unusedSimpArgs false
set_option linter.unusedVariables false
open Go.RowKit
theorem nums_own {w : World} {base n c : Nat} {a : Option Addr} {l : List Int} (h : w.ownsRow base 3 1 (.slice a n c) n (l.map (Value.int .i64))) (hb : base ≤ w.heap.size) : Nums .i64 w a n c l := by
  obtain ⟨a', c', e, h2, -⟩ := (show OwnR w base w.heap.size (.slice a n c) n l from ⟨h, hb, Nat.le_refl _, fun g hg => (h.lt g hg).2⟩).nums
  simp only [Value.slice.injEq, true_and] at e
  obtain ⟨rfl, rfl⟩ := e
  exact h2
theorem slice_own {w : World} {base e size n : Nat} {v : Value} {xs : List Value} (h : w.ownsRow base e size v n xs) : ∃ a c, v = .slice a n c := by
  rcases h.2 with ⟨rfl, rfl⟩ | ⟨g, cap, cur, rfl, -⟩
  · exact ⟨none, 0, rfl⟩
  · exact ⟨_, cap, rfl⟩
theorem step_append_whered {P : Program} {ops : Array Oper} {o : Oper} {a : Act} {w : World} {K : Act → World → Prop} {Q : Exit → Act → World → Prop} {E : Prop}
    (hg : o.guard = none) (s x : Operand) (t : TypeId) (hop : o.op = Op.call { callee := Callee.builtin Builtin.append, args := #[s, x], argTypes := #[t, t] })
    (base : Nat) (e : TypeId) (i : TypeInfo) (z : Value) (size bytes : Nat) (h1 : P.underlying t = some (.slice e)) (h2 : P.info? e = some i) (h3 : i.zero = some z) (h4 : i.size = size) (h5 : i.bytes = bytes) (h6 : z.cells.size = size) (h7 : 0 < size)
    (v : Value) (n : Nat) (xs : List Value) (hs : a.eval s = v) (hown : w.ownsRow base e size v n xs)
    (ad : Addr) (m c : Nat) (news : List Value) (hx : a.eval x = .slice (some ad) m c) (hn : news.length = m * size) (hc : ∀ j u, news[j]? = some u → w.cell? (ad.add j) = some u) (h1c : ∀ u ∈ news, u.oneCell' = true)
    (b1 : n + m ≤ maxLen) (b2 : (n + m) * bytes ≤ 140737488355328) (hbase : base ≤ w.heap.size)
    (hK : ∀ v' w', w'.ownsRow base e size v' (n + m) (xs ++ news) → w.grownBy w' v.ownBlock → (v'.ownBlock = v.ownBlock ∨ ∃ g, v'.ownBlock = some g ∧ w.heap.size ≤ g) → K (a.put o.dst v') w') :
    if Region.wanted o (yielded ops a.tmps) = true then Oper.wp P o a w K Q else E := by
  have hw : Region.wanted o (yielded ops a.tmps) = true := by simp [Region.wanted, hg]
  rw [if_pos hw]
  obtain ⟨v', w', hrun, q2, q3, q4⟩ := append_where w base t o.type e i z size bytes h1 h2 h3 h4 h5 h6 h7 v n xs hown ad m c news hn hc h1c b1 b2 hbase
  exact Lib.wp_append_run w s x t t hop v _ hs hx v' w' hrun (hK v' w' q2 q3 q4)
theorem Touch.far {lo hi : Nat} {W X : World} (h : Touch lo hi W X) {c o : Nat} {u : Value} (hc : W.heap.size ≤ c) : Touch lo hi W (X.setCell ⟨c, o, none⟩ u) :=
  ⟨h.1, h.2.1, h.2.2.1, by have := h.2.2.2.1; simpa [World.setCell] using this, fun j hj hd => (Below.heap_setCell _ _ _ _ (show j ≠ c by omega)).trans (h.2.2.2.2 j hj hd)⟩
def PoFin (b1 : Nat) (d : Agg.Dq) (w : World) (e : Ending) (w' : World) : Prop := ∃ v, e = .returned v ∧ DqOwn w' b1 w'.heap.size v d ∧ Touch b1 w.heap.size w w'
theorem ob {g n c j : Nat} (h : (Value.slice (some ⟨g, 0, none⟩) n c).ownBlock = some j) : g = j := Option.some.inj h
theorem po_fin {k : Int} {b1 b2 n t : Nat} {I P : List Int} {fi nx dr x : Int} {w Y : World} {a5 a8 : Option Addr} {c5 c8 : Nat} (hb : b1 ≤ b2)
    (hd : (Value.slice a5 (t + 1) c5).ownBlock = none ∨ (Value.slice a5 (t + 1) c5).ownBlock ≠ (Value.slice a8 (t + 1) c8).ownBlock)
    (h5 : ∀ g, (Value.slice a5 (t + 1) c5).ownBlock = some g → g ≠ w.heap.size + 1) (h8 : ∀ g, (Value.slice a8 (t + 1) c8).ownBlock = some g → g ≠ w.heap.size + 1) (hI : I.length = n) (hP : P.length = n) (hk : Agg.keepN k I x n = t)
    (a1 : Y.ownsRow b1 3 1 (.slice a5 (t + 1) c5) (t + 1) ((I.take t ++ [x]).map (Value.int .i64))) (a2 : Y.ownsRow b2 3 1 (.slice a8 (t + 1) c8) (t + 1) ((P.take t ++ [nx]).map (Value.int .i64))) (a3 : Touch b1 w.heap.size w Y) (hbY : b1 ≤ Y.heap.size) (hYs : w.heap.size + 1 < Y.heap.size) (u0 u1 u2 u3 u4 : Value) :
    PoFin b1 (Agg.pushD k ⟨I, P, fi, nx, dr⟩ x) w (.returned (.agg #[.slice a5 (t + 1) c5, .slice a8 (t + 1) c8, .int .i64 fi, .int .i64 (nx + 1), .int .i64 (dr + ((n : Int) - (t : Int)))]))
      (((((Y.setCell ⟨w.heap.size + 1, 0, none⟩ u0).setCell ⟨w.heap.size + 1, 1, none⟩ u1).setCell ⟨w.heap.size + 1, 2, none⟩ u2).setCell ⟨w.heap.size + 1, 3, none⟩ u3).setCell ⟨w.heap.size + 1, 4, none⟩ u4) := by
  have e : Agg.pushD k ⟨I, P, fi, nx, dr⟩ x = ⟨I.take t ++ [x], P.take t ++ [nx], fi, nx + 1, dr + ((n : Int) - (t : Int))⟩ := by simp [Agg.pushD, hI, hk]
  have ht : t ≤ n := by rw [← hk]; exact Agg.keepN_le _ _ _ _
  have l1 : (I.take t ++ [x]).length = t + 1 := by simp; omega
  have l2 : (P.take t ++ [nx]).length = t + 1 := by simp; omega
  rw [e]
  obtain ⟨Z, hZ⟩ : ∃ Z, Z = (((((Y.setCell ⟨w.heap.size + 1, 0, none⟩ u0).setCell ⟨w.heap.size + 1, 1, none⟩ u1).setCell ⟨w.heap.size + 1, 2, none⟩ u2).setCell ⟨w.heap.size + 1, 3, none⟩ u3).setCell ⟨w.heap.size + 1, 4, none⟩ u4) := ⟨_, rfl⟩
  have b1' : Z.ownsRow b1 3 1 (.slice a5 (t + 1) c5) (t + 1) ((I.take t ++ [x]).map (Value.int .i64)) := by rw [hZ]; exact own_far (own_far (own_far (own_far (own_far a1 h5) h5) h5) h5) h5
  have b2' : Z.ownsRow b2 3 1 (.slice a8 (t + 1) c8) (t + 1) ((P.take t ++ [nx]).map (Value.int .i64)) := by rw [hZ]; exact own_far (own_far (own_far (own_far (own_far a2 h8) h8) h8) h8) h8
  have hz : Z.heap.size = Y.heap.size := by rw [hZ]; exact f6_size5 _ _ _ _ _
  have b3 : Touch b1 w.heap.size w Z := by rw [hZ]; exact ((((a3.far (by omega)).far (by omega)).far (by omega)).far (by omega)).far (by omega)
  rw [← hZ]
  refine ⟨_, rfl, ⟨_, _, rfl, ?_, ?_, hd⟩, b3⟩
  · show OwnS Z b1 Z.heap.size _ (I.take t ++ [x]).length _
    rw [l1]
    exact own_s b1' (by omega)
  · show OwnS Z b1 Z.heap.size _ (P.take t ++ [nx]).length _
    rw [l2]
    exact own_s (owns_lower b2' hb) (by omega)
set_option maxRecDepth 8000 in
set_option maxHeartbeats 4000000 in
theorem pushOver_some {k : Int} {T fl : Nat} (O : OrdAt k T fl) (b1 b2 n : Nat) (g1 ic g2 pc : Nat) (fi nx dr x : Int) (I P : List Int) (w : World)
    (hI : w.ownsRow b1 3 1 (.slice (some ⟨g1, 0, none⟩) n ic) n (I.map (Value.int .i64))) (hP : w.ownsRow b2 3 1 (.slice (some ⟨g2, 0, none⟩) n pc) n (P.map (Value.int .i64))) (hlt : ∀ g, (Value.slice (some ⟨g1, 0, none⟩) n ic).ownBlock = some g → g < b2) (hb : b1 ≤ b2) (hb2 : b2 ≤ w.heap.size)
    (hn : n ≤ 60) (hd0 : 0 ≤ dr) (hd1 : dr ≤ 900000) (hx0 : 0 ≤ nx) (hx1 : nx ≤ 900000) :
    Calls Tryz.prog 69 #[.iface T (.agg #[]), .agg #[.slice (some ⟨g1, 0, none⟩) n ic, .slice (some ⟨g2, 0, none⟩) n pc, .int .i64 fi, .int .i64 nx, .int .i64 dr], .int .i64 x] w (PoFin b1 (Agg.pushD k ⟨I, P, fi, nx, dr⟩ x) w) := by
  obtain ⟨i0, hi0, hz0, hz1, hz2⟩ := info_parts infoInt
  have HIL := Lib.hid (show I.length = n by have := hI.1; simpa using this)
  have HPL := Lib.hid (show P.length = n by have := hP.1; simpa using this)
  have hNI := nums_own hI (by omega)
  have hNP := nums_own hP hb2
  have hic := hNI.2.1
  have hpc := hNP.2.1
  have hicm : ic ≤ 9223372036854775807 := by have := hNI.2.2.1; unfold maxLen at this; omega
  have hpcm : pc ≤ 9223372036854775807 := by have := hNP.2.2.1; unfold maxLen at this; omega
  have hb1g : b1 ≤ g1 := (hI.lt g1 rfl).1
  have hg1b : g1 < b2 := hlt g1 rfl
  have hb2g : b2 ≤ g2 := (hP.lt g2 rfl).1
  have hg2w : g2 < w.heap.size := (hP.lt g2 rfl).2
  have HNI := Lib.hid hNI
  have HI := Lib.hid hI
  have HP := Lib.hid hP
  have HLT := Lib.hid hlt
  have HLA := Lib.hid O.later
  have hml := O.ml
  have hal := O.al
  have hcl := O.cl
  obtain ⟨W, hW⟩ : ∃ W, W = (w.alloc (.cells #[.slice (some ⟨g1, 0, none⟩) n ic, .slice (some ⟨g2, 0, none⟩) n pc, .int .i64 fi, .int .i64 nx, .int .i64 dr] 28)).alloc (.cells #[.slice none 0 0, .slice none 0 0, .int .i64 0, .int .i64 0, .int .i64 0] 28) := ⟨_, rfl⟩
  have HS := Lib.hid (show Box5 W w.heap.size 28 (.slice (some ⟨g1, 0, none⟩) n ic) (.slice (some ⟨g2, 0, none⟩) n pc) (.int .i64 fi) (.int .i64 nx) (.int .i64 (dr + ((n : Int) - (n : Int)))) from by rw [hW, show dr + ((n : Int) - (n : Int)) = dr by omega]; exact (Box5.new w _ _ _ _ _ _).alloc _)
  have HR := Lib.hid (show Box5 W (w.heap.size + 1) 28 (.slice none 0 0) (.slice none 0 0) (.int .i64 0) (.int .i64 0) (.int .i64 0) from by rw [hW]; exact Box5.new1 _ _ _ _ _ _ (by simp))
  have HB := Lib.hid (show Below w.heap.size w W from by rw [hW]; exact ((Below.refl _ _).alloc (Nat.le_refl _) _).alloc (by simp) _)
  clear hI hP hlt hNI hNP O
  go_enter Tryz.func69, Tryz.ntmps69
  go_upto_region 1 with (fail)
  rw [← hW]
  clear hW
  obtain ⟨q0, q1, q2, q3, q4⟩ := HS.out.cells
  go_wp2_with fail
  clear q0 q1 q2 q3 q4
  go_loopw [7] (fun kv wr => ∃ t : Nat, t ≤ n ∧ kv = .int .i64 t ∧ Hid (Agg.keepN k I x t = Agg.keepN k I x n) ∧ Hid (Box5 wr w.heap.size 28 (.slice (some ⟨g1, 0, none⟩) n ic) (.slice (some ⟨g2, 0, none⟩) n pc) (.int .i64 fi) (.int .i64 nx) (.int .i64 (dr + ((n : Int) - (t : Int))))) ∧ Hid (Box5 wr (w.heap.size + 1) 28 (.slice none 0 0) (.slice none 0 0) (.int .i64 0) (.int .i64 0) (.int .i64 0)) ∧ Hid (Below w.heap.size w wr)) (fun kv _ => (intOf kv).toNat)
  case atStart => exact ⟨n, Nat.le_refl _, rfl, Lib.hid rfl, HS, HR, HB⟩
  case round =>
    obtain ⟨t, ht, rfl, hke, hs, hr, hw⟩ := hrel
    clear HS HR HB
    obtain ⟨q0, q1, q2, q3, q4⟩ := hs.out.cells
    have hc0 := q0
    have hti0 : (0 : Int) ≤ (t : Int) := Int.natCast_nonneg _
    by_cases h0 : t = 0
    · have hk0 : decide ((0 : Int) < (t : Int)) = false := by simp; omega
      have hk1 : decide (0 < t) = false := by simp; omega
      have HK3 := Lib.hid (show Agg.keepN k I x n = t from by rw [← hke.out, h0]; rfl)
      clear h0
      go_wp2_with fail
      refine wp_region_held_drew (S := (fun X => X.cell? ⟨w.heap.size, 0, none⟩ = some (.slice (some ⟨g1, 0, none⟩) n ic))) (by kernel_rfl) (by assumption) (fun hHeld => ?_)
      refine zqt 0 ?_ ?_ (by assumption) ?_; rotate_left; (intro X hSw; (try dsimp only at hSw); go_simp; (try with_reducible rfl)); (try simp only [Act.put, zq1, zq2, zq3, zq4, zq5, zq6])
      refine zqt 1 ?_ ?_ (by assumption) ?_; rotate_left; (intro X hSw; (try dsimp only at hSw); go_simp; (try with_reducible rfl)); (try simp only [Act.put, zq1, zq2, zq3, zq4, zq5, zq6])
      refine zqt 2 ?_ ?_ (by assumption) ?_; rotate_left; (intro X hSw; (try dsimp only at hSw); go_simp; (try with_reducible rfl)); (try simp only [Act.put, zq1, zq2, zq3, zq4, zq5, zq6])
      first | (refine wpAnyH_take (i := 3) (v := undef) rfl (by kernel_rfl) (by kernel_rfl) (by kernel_rfl) (fun _ _ _ h => h) (Or.inr ⟨by rfl, rfl⟩) (by assumption) ?_; (try simp only [Act.put, zq1, zq2, zq3, zq4, zq5, zq6])) | fail "skip 3"
      first | (refine wpAnyH_take (i := 4) (v := undef) rfl (by kernel_rfl) (by kernel_rfl) (by kernel_rfl) (fun _ _ _ h => h) (Or.inr ⟨by rfl, rfl⟩) (by assumption) ?_; (try simp only [Act.put, zq1, zq2, zq3, zq4, zq5, zq6])) | fail "skip 4"
      first | (refine wpAnyH_take (i := 5) (v := undef) rfl (by kernel_rfl) (by kernel_rfl) (by kernel_rfl) (fun _ _ _ h => h) (Or.inr ⟨by rfl, rfl⟩) (by assumption) ?_; (try simp only [Act.put, zq1, zq2, zq3, zq4, zq5, zq6])) | fail "skip 5"
      first | (refine wpAnyH_take (i := 6) (v := undef) rfl (by kernel_rfl) (by kernel_rfl) (by kernel_rfl) (fun _ _ _ h => h) (Or.inr ⟨by rfl, rfl⟩) (by assumption) ?_; (try simp only [Act.put, zq1, zq2, zq3, zq4, zq5, zq6])) | fail "skip 6"
      first | (refine wpAnyH_take (i := 7) (v := undef) rfl (by kernel_rfl) (by kernel_rfl) (by kernel_rfl) (fun _ _ _ h => h) (Or.inr ⟨by rfl, rfl⟩) (by assumption) ?_; (try simp only [Act.put, zq1, zq2, zq3, zq4, zq5, zq6])) | fail "skip 7"
      first | (refine wpAnyH_take (i := 8) (v := undef) rfl (by kernel_rfl) (by kernel_rfl) (by kernel_rfl) (fun _ _ _ h => h) (Or.inr ⟨by rfl, rfl⟩) (by assumption) ?_; (try simp only [Act.put, zq1, zq2, zq3, zq4, zq5, zq6])) | fail "skip 8"
      first | (refine wpAnyH_take (i := 9) (v := undef) rfl (by kernel_rfl) (by kernel_rfl) (by kernel_rfl) (fun _ _ _ h => h) (Or.inr ⟨by rfl, rfl⟩) (by assumption) ?_; (try simp only [Act.put, zq1, zq2, zq3, zq4, zq5, zq6])) | fail "skip 9"
      first | (refine wpAnyH_take (i := 10) (v := undef) rfl (by kernel_rfl) (by kernel_rfl) (by kernel_rfl) (fun _ _ _ h => h) (Or.inr ⟨by rfl, rfl⟩) (by assumption) ?_; (try simp only [Act.put, zq1, zq2, zq3, zq4, zq5, zq6])) | fail "skip 10"
      first | (refine wpAnyH_take (i := 11) (v := undef) rfl (by kernel_rfl) (by kernel_rfl) (by kernel_rfl) (fun _ _ _ h => h) (Or.inr ⟨by rfl, rfl⟩) (by assumption) ?_; (try simp only [Act.put, zq1, zq2, zq3, zq4, zq5, zq6])) | fail "skip 11"
      first | (refine wpAnyH_take (i := 12) (v := undef) rfl (by kernel_rfl) (by kernel_rfl) (by kernel_rfl) (fun _ _ _ h => h) (Or.inr ⟨by rfl, rfl⟩) (by assumption) ?_; (try simp only [Act.put, zq1, zq2, zq3, zq4, zq5, zq6])) | fail "skip 12"
      first | (refine wpAnyH_take (i := 13) (v := undef) rfl (by kernel_rfl) (by kernel_rfl) (by kernel_rfl) (fun _ _ _ h => h) (Or.inr ⟨by rfl, rfl⟩) (by assumption) ?_; (try simp only [Act.put, zq1, zq2, zq3, zq4, zq5, zq6])) | fail "skip 13"
      first | (refine wpAnyH_take (i := 14) (v := undef) rfl (by kernel_rfl) (by kernel_rfl) (by kernel_rfl) (fun _ _ _ h => h) (Or.inr ⟨by rfl, rfl⟩) (by assumption) ?_; (try simp only [Act.put, zq1, zq2, zq3, zq4, zq5, zq6])) | fail "skip 14"
      refine zqt 15 ?_ ?_ (by assumption) ?_; rotate_left; (intro X hSw; (try dsimp only at hSw); go_simp; (try with_reducible rfl)); (try simp only [Act.put, zq1, zq2, zq3, zq4, zq5, zq6])
      refine wpAnyH_done (by kernel_rfl) ?_ _
      obtain ⟨X3, hX3⟩ : ∃ X3, X3 = wr.drew := ⟨_, rfl⟩
      have HS3 := Lib.hid (show Box5 X3 w.heap.size 28 (.slice (some ⟨g1, 0, none⟩) n ic) (.slice (some ⟨g2, 0, none⟩) n pc) (.int .i64 fi) (.int .i64 nx) (.int .i64 (dr + ((n : Int) - (t : Int)))) from by rw [hX3]; exact hs.out)
      have HR3 := Lib.hid (show Box5 X3 (w.heap.size + 1) 28 (.slice none 0 0) (.slice none 0 0) (.int .i64 0) (.int .i64 0) (.int .i64 0) from by rw [hX3]; exact hr.out)
      have HB3 := Lib.hid (show Below w.heap.size w X3 from by rw [hX3]; exact hw.out.drew)
      rw [← hX3]
      clear hX3 hs hr hw hke q0 q1 q2 q3 q4 hc0 hHeld HNI hk0 hk1
      have hsx := HB3.out.size
      have hsl := HS3.out.lt
      have hrl := HR3.out.lt
      have HI3 := Lib.hid (HI.out.kept (Below.grownNone HB3.out none) (by cases hv : (Value.slice (some ⟨g1, 0, none⟩) n ic).ownBlock <;> simp))
      have HP3 := Lib.hid (HP.out.kept (Below.grownNone HB3.out none) (by cases hv : (Value.slice (some ⟨g2, 0, none⟩) n pc).ownBlock <;> simp))
      have HPG := Lib.hid (fun g (hg : (Value.slice (some ⟨g2, 0, none⟩) n pc).ownBlock = some g) => HP.out.lt g hg)
      have HPI := Lib.hid (own_prefix_int HI3.out ht)
      have HPP := Lib.hid (own_prefix_int HP3.out ht)
      obtain ⟨q0, q1, q2, q3, q4⟩ := HS3.out.cells
      have hti : (t : Int) ≤ (ic : Int) := by omega
      have htp : (t : Int) ≤ (pc : Int) := by omega
      have htn : (0 : Int) ≤ (t : Int) := Int.natCast_nonneg _
      go_upto_region 6 with (
        at_builtin
        go_must (refine wpList_append_where rfl (.tmp 36) (.tmp 38) 26 rfl b1 3 i0 (.int .i64 0) 1 8 Tryz.underlying26 hi0 hz0 hz1 hz2 rfl (by decide) (.slice (some ⟨g1, 0, none⟩) t ic) t ((I.take t).map (Value.int .i64)) rfl (HPI.out.alloc _) ⟨X3.heap.size, 0, none⟩ 1 1 [.int .i64 x] rfl rfl (cell_one_new _ _ _) (ints_oneCell .i64 [x]) (by unfold maxLen; omega) (by omega) (by simp; omega) ?_)
        go_loud (
          intro v5 w5 hown5 hgrow5 hwhere5
          obtain ⟨a5, c5, rfl⟩ := slice_own hown5
          have HO5 := Lib.hid hown5
          have HG5 := Lib.hid hgrow5
          have HW5 := Lib.hid hwhere5
          have HS5 := Lib.hid ((HS3.out.alloc (.cells #[.int .i64 x] 3)).grown hgrow5 (fun e => by have := ob e; omega))
          have HR5 := Lib.hid ((HR3.out.alloc (.cells #[.int .i64 x] 3)).grown hgrow5 (fun e => by have := ob e; omega))
          have HP5 := Lib.hid ((HPP.out.alloc (.cells #[.int .i64 x] 3)).kept hgrow5 (by cases hv : (Value.slice (some ⟨g2, 0, none⟩) t pc).ownBlock with | none => exact .inl rfl | some g => exact .inr (fun e => by have := ob e.symm; have := ob hv; omega)))
          have f0 := HS5.out.free 0
          obtain ⟨q0, q1, q2, q3, q4⟩ := HS5.out.cells
          clear hown5 hgrow5 hwhere5))
      have hs5 : X3.heap.size + 1 ≤ w5.heap.size := by have := HG5.out.size; simpa using this
      have HN5 := Lib.hid (show ∀ g, (Value.slice a5 (t + 1) c5).ownBlock = some g → g < b2 ∨ X3.heap.size ≤ g from fun g hg => by
        rcases HW5.out with e | ⟨g', e, hle⟩
        · exact .inl (by rw [e] at hg; have := ob hg; omega)
        · rw [e] at hg; obtain rfl := Option.some.inj hg; simp at hle; exact .inr (by omega))
      obtain ⟨X6, hX6⟩ : ∃ X6, X6 = w5.setCell ⟨w.heap.size, 0, none⟩ (.slice a5 (t + 1) c5) := ⟨_, rfl⟩
      have HS6 := Lib.hid (show Box5 X6 w.heap.size 28 (.slice a5 (t + 1) c5) (.slice (some ⟨g2, 0, none⟩) n pc) (.int .i64 fi) (.int .i64 nx) (.int .i64 (dr + ((n : Int) - (t : Int)))) from by rw [hX6]; exact HS5.out.set0 _)
      have HR6 := Lib.hid (show Box5 X6 (w.heap.size + 1) 28 (.slice none 0 0) (.slice none 0 0) (.int .i64 0) (.int .i64 0) (.int .i64 0) from by rw [hX6]; exact HR5.out.other (by omega) _ _)
      have HO6 := Lib.hid (show X6.ownsRow b1 3 1 (.slice a5 (t + 1) c5) (t + 1) ((I.take t ++ [x]).map (Value.int .i64)) from by
        rw [hX6, List.map_append]
        exact own_far HO5.out (fun g hg => by have := HN5.out g hg; omega))
      have HP6 := Lib.hid (show X6.ownsRow b2 3 1 (.slice (some ⟨g2, 0, none⟩) t pc) t ((P.take t).map (Value.int .i64)) from by
        rw [hX6]
        exact own_far HP5.out (fun g hg => by have := ob hg; omega))
      have HT6 := Lib.hid (show Touch b1 w.heap.size w X6 from by
        rw [hX6]
        exact Touch.far ((((Touch.refl b1 w.heap.size w).call HB3.out).call ((Below.refl X3.heap.size X3).alloc (Nat.le_refl _) _)).trans (Touch.of HG5.out (fun g hg => by have := ob hg; omega))) (Nat.le_refl _))
      have hs6 : X3.heap.size + 1 ≤ X6.heap.size := by rw [hX6]; simpa [World.setCell] using hs5
      rw [← hX6]
      clear hX6 q0 q1 q2 q3 q4 f0 HS5 HR5 HP5 HO5 HG5 HW5 HPI HPP HI3 HP3 HS3 HR3 HB3
      obtain ⟨q0, q1, q2, q3, q4⟩ := HS6.out.cells
      have SQ := Lib.hid (show ∀ (X : World) (v : Value), Box5 X w.heap.size 28 (.slice a5 (t + 1) c5) v (.int .i64 fi) (.int .i64 nx) (.int .i64 (dr + ((n : Int) - (t : Int)))) → X.cell? ⟨w.heap.size, 3, none⟩ = some (.int .i64 nx) from fun X v h => h.cells.2.2.2.1)
      refine wp_region_held_drew (S := (fun X => X.cell? ⟨w.heap.size, 3, none⟩ = some (.int .i64 nx))) (by kernel_rfl) (by exact q3) (fun hHeld => ?_)
      clear q0 q1 q2 q3 q4
      refine zqt 0 ?_ ?_ (by assumption) ?_; rotate_left; (intro X hSw; (try dsimp only at hSw); go_simp; (try with_reducible rfl)); (try simp only [Act.put, zq1, zq2, zq3, zq4, zq5, zq6])
      refine zqt 2 ?_ ?_ (by assumption) ?_; rotate_left; (intro X hSw; (try dsimp only at hSw); go_simp; (try with_reducible rfl)); (try simp only [Act.put, zq1, zq2, zq3, zq4, zq5, zq6])
      refine zqt 4 ?_ ?_ (by assumption) ?_; rotate_left; (intro X hSw; (try dsimp only at hSw); go_simp; (try with_reducible rfl)); (try simp only [Act.put, zq1, zq2, zq3, zq4, zq5, zq6])
      refine zqt 5 ?_ ?_ (by assumption) ?_; rotate_left; (intro X hSw; (try dsimp only at hSw); go_simp; (try with_reducible rfl)); (try simp only [Act.put, zq1, zq2, zq3, zq4, zq5, zq6])
      refine wpAnyH_ready (rs := [1, 6]) (by kernel_rfl) (by simp) ?_
      refine AllReadyH.cons rfl (fun K hK => ?_) (AllReadyH.cons rfl (fun K hK => ?_) AllReadyH.nil)
      
      · obtain ⟨q0, q1, q2, q3, q4⟩ := HS6.out.cells
        go_simp
        clear q0 q1 q2 q3 q4
        (try dsimp only)
        refine hK.out _ _ (by exact SQ.out _ _ HS6.out) (fun hHeld => ?_)
        clear hK K
        (try simp only [Act.put, zq1, zq2, zq3, zq4, zq5, zq6])
        refine zqt 3 ?_ ?_ (by assumption) ?_; rotate_left; (intro X hSw; (try dsimp only at hSw); go_simp; (try with_reducible rfl)); (try simp only [Act.put, zq1, zq2, zq3, zq4, zq5, zq6])
        refine wpAnyH_ready (rs := [6]) (by kernel_rfl) (by simp) ?_
        refine AllReadyH.cons rfl (fun K hK => ?_) AllReadyH.nil
        go_simp
        obtain ⟨X7, hX7⟩ : ∃ X7, X7 = (X6.alloc (.cells #[.int .i64 nx] 3)).drew := ⟨_, rfl⟩
        have hbn : Below X6.heap.size X6 X7 := by rw [hX7]; exact ((Below.refl _ _).alloc (Nat.le_refl _) _).drew
        have hs7 : X7.heap.size = X6.heap.size + 1 := by rw [hX7]; simp [World.drew]
        have HS7 := Lib.hid (HS6.out.call hbn)
        have HR7 := Lib.hid (HR6.out.call hbn)
        have HO7 := Lib.hid (HO6.out.kept (Below.grownNone hbn none) (by cases hv : (Value.slice a5 (t + 1) c5).ownBlock <;> simp))
        have HP7 := Lib.hid (HP6.out.kept (Below.grownNone hbn none) (by cases hv : (Value.slice (some ⟨g2, 0, none⟩) t pc).ownBlock <;> simp))
        have HT7 := Lib.hid (HT6.out.call hbn)
        have HLIT := Lib.hid (show ∀ j u, ([Value.int .i64 nx])[j]? = some u → X7.cell? ((⟨X6.heap.size, 0, none⟩ : Addr).add j) = some u from by rw [hX7]; exact cell_one_new X6 (.int .i64 nx) 3)
        rw [← hX7]
        clear hX7 hbn HS6 HR6 HO6 HP6 HT6
        (try dsimp only)
        refine hK.out _ _ (by exact SQ.out _ _ HS7.out) (fun hHeld => ?_)
        clear hK K
        (try simp only [Act.put, zq1, zq2, zq3, zq4, zq5, zq6])
        refine wpAnyH_ready (rs := [7]) (by kernel_rfl) (by simp) ?_
        refine AllReadyH.cons rfl (fun K hK => ?_) AllReadyH.nil
        go_must (refine step_append_whered (by rfl) (.tmp 44) (.tmp 47) 26 (by rfl) b2 3 i0 (.int .i64 0) 1 8 Tryz.underlying26 hi0 hz0 hz1 hz2 rfl (by decide) (.slice (some ⟨g2, 0, none⟩) t pc) t ((P.take t).map (Value.int .i64)) (by rfl) HP7.out ⟨X6.heap.size, 0, none⟩ 1 1 [.int .i64 nx] (by rfl) (by rfl) HLIT.out (ints_oneCell .i64 [nx]) (by unfold maxLen; omega) (by omega) (by omega) ?_)
        intro v8 w8 hown8 hgrow8 hwhere8
        obtain ⟨a8, c8, rfl⟩ := slice_own hown8
        have hs8 := hgrow8.size
        have HO8 := Lib.hid hown8
        have HW8 := Lib.hid hwhere8
        have HS8 := Lib.hid (HS7.out.grown hgrow8 (fun e => by have := ob e; omega))
        have HR8 := Lib.hid (HR7.out.grown hgrow8 (fun e => by have := ob e; omega))
        have HI8 := Lib.hid (HO7.out.kept hgrow8 (by cases hv : (Value.slice a5 (t + 1) c5).ownBlock with | none => exact .inl rfl | some g => exact .inr (fun e => by have := HN5.out g hv; have := ob e.symm; omega)))
        have HT8 := Lib.hid (HT7.out.trans (show Touch b1 w.heap.size X7 w8 from Touch.of hgrow8 (fun g hg => by have := ob hg; omega)))
        clear hown8 hgrow8 hwhere8
        (try dsimp only)
        refine hK.out _ _ (by exact SQ.out _ _ HS8.out) (fun hHeld => ?_)
        clear hK K
        (try simp only [Act.put, zq1, zq2, zq3, zq4, zq5, zq6])
        refine zqt 8 ?_ ?_ (by assumption) ?_; rotate_left; (intro X hSw; (try dsimp only at hSw); go_simp; (try with_reducible rfl)); (try simp only [Act.put, zq1, zq2, zq3, zq4, zq5, zq6])
        refine wpAnyH_ready (rs := [9]) (by kernel_rfl) (by simp) ?_
        refine AllReadyH.cons rfl (fun K hK => ?_) AllReadyH.nil
        have f1 := HS8.out.free 1
        obtain ⟨q0, q1, q2, q3, q4⟩ := HS8.out.cells
        go_simp
        have HS9 := Lib.hid (HS8.out.set1 (.slice a8 (t + 1) c8))
        (try dsimp only)
        refine hK.out _ _ (by exact SQ.out _ _ HS9.out) (fun hHeld => ?_)
        clear hK K
        (try simp only [Act.put, zq1, zq2, zq3, zq4, zq5, zq6])
        refine wpAnyH_done (by kernel_rfl) ?_ _
        obtain ⟨X9, hX9⟩ : ∃ X9, X9 = w8.setCell ⟨w.heap.size, 1, none⟩ (.slice a8 (t + 1) c8) := ⟨_, rfl⟩
        have hn8 : ∀ g, (Value.slice a8 (t + 1) c8).ownBlock = some g → g ≠ w.heap.size := fun g hg => by
          rcases HW8.out with e | ⟨g', e, hle⟩
          · rw [e] at hg; have := ob hg; omega
          · rw [e] at hg; obtain rfl := Option.some.inj hg; omega
        have hn58 : (Value.slice a5 (t + 1) c5).ownBlock = none ∨ (Value.slice a5 (t + 1) c5).ownBlock ≠ (Value.slice a8 (t + 1) c8).ownBlock := by
          cases hv : (Value.slice a5 (t + 1) c5).ownBlock with
          | none => exact .inl rfl
          | some g =>
            refine .inr (fun e => ?_)
            have h5 := (HO7.out.lt g hv).2
            rcases HW8.out with e' | ⟨g', e', hle⟩
            · rw [e'] at e
              have := ob e.symm
              have := HN5.out g hv
              omega
            · rw [e'] at e; obtain rfl := Option.some.inj e; omega
        have HN58 := Lib.hid hn58
        have HRW := Lib.hid (show X9.ownsRow b1 3 1 (.slice a5 (t + 1) c5) (t + 1) ((I.take t ++ [x]).map (Value.int .i64)) from by rw [hX9]; exact own_far HI8.out (fun g hg => by have := HN5.out g hg; omega))
        have HPW := Lib.hid (show X9.ownsRow b2 3 1 (.slice a8 (t + 1) c8) (t + 1) ((P.take t ++ [nx]).map (Value.int .i64)) from by rw [hX9, List.map_append]; exact own_far HO8.out hn8)
        have HS9 := Lib.hid (show Box5 X9 w.heap.size 28 (.slice a5 (t + 1) c5) (.slice a8 (t + 1) c8) (.int .i64 fi) (.int .i64 nx) (.int .i64 (dr + ((n : Int) - (t : Int)))) from by rw [hX9]; exact HS9.out)
        have HR9 := Lib.hid (show Box5 X9 (w.heap.size + 1) 28 (.slice none 0 0) (.slice none 0 0) (.int .i64 0) (.int .i64 0) (.int .i64 0) from by rw [hX9]; exact HR8.out.other (by omega) _ _)
        have HT9 := Lib.hid (show Touch b1 w.heap.size w X9 from by rw [hX9]; exact HT8.out.far (Nat.le_refl _))
        have HPN := Lib.hid (show ∀ g, (Value.slice a8 (t + 1) c8).ownBlock = some g → g ≠ w.heap.size ∧ g ≠ w.heap.size + 1 from fun g hg => by
          rcases HW8.out with e | ⟨g', e, hle⟩
          · rw [e] at hg; have := ob hg; omega
          · rw [e] at hg; obtain rfl := Option.some.inj hg; omega)
        rw [← hX9]
        clear hX9 q0 q1 q2 q3 q4 f1 HS7 HS8 HR7 HR8 HO7 HO8 HI8 HP7 HT7 HT8 HW8 hn8 hn58 SQ HLIT
        obtain ⟨q0, q1, q2, q3, q4⟩ := HS9.out.cells
        have f9 := HS9.out.free
        obtain ⟨e0, e1, e2, e3, e4⟩ := HR9.out.cells
        have g9 := HR9.out.free
        have hrl9 := HR9.out.lt
        have hww : IntKind.i64.wrap (nx + 1) = nx + 1 := IntWalk.i64_in _ ⟨by omega, by omega⟩
        go_wp2_with fail
        refine bodyPost_ret (by simp [results, Tryz.results69, go_sem, *]; try rfl) rfl ?_
        have hk2 := HK3.out
        obtain ⟨Y, hY⟩ : ∃ Y, Y = X9.setCell ⟨w.heap.size, 3, none⟩ (.int .i64 (nx + 1)) := ⟨_, rfl⟩
        have a1 : Y.ownsRow b1 3 1 (.slice a5 (t + 1) c5) (t + 1) ((I.take t ++ [x]).map (Value.int .i64)) := by rw [hY]; exact own_far HRW.out (fun g hg => by have := HN5.out g hg; omega)
        have a2 : Y.ownsRow b2 3 1 (.slice a8 (t + 1) c8) (t + 1) ((P.take t ++ [nx]).map (Value.int .i64)) := by rw [hY]; exact own_far HPW.out (fun g hg => (HPN.out g hg).1)
        have a3 : Touch b1 w.heap.size w Y := by rw [hY]; exact HT9.out.far (Nat.le_refl _)
        have hYs : w.heap.size + 1 < Y.heap.size := by rw [hY]; simpa [World.setCell] using hrl9
        rw [← hY]
        exact po_fin hb HN58.out (fun g hg => by have := HN5.out g hg; omega) (fun g hg => (HPN.out g hg).2) HIL.out HPL.out hk2 a1 a2 a3 (by omega) hYs _ _ _ _ _
      · go_simp
        obtain ⟨X7, hX7⟩ : ∃ X7, X7 = (X6.alloc (.cells #[.int .i64 nx] 3)).drew := ⟨_, rfl⟩
        have hbn : Below X6.heap.size X6 X7 := by rw [hX7]; exact ((Below.refl _ _).alloc (Nat.le_refl _) _).drew
        have hs7 : X7.heap.size = X6.heap.size + 1 := by rw [hX7]; simp [World.drew]
        have HS7 := Lib.hid (HS6.out.call hbn)
        have HR7 := Lib.hid (HR6.out.call hbn)
        have HO7 := Lib.hid (HO6.out.kept (Below.grownNone hbn none) (by cases hv : (Value.slice a5 (t + 1) c5).ownBlock <;> simp))
        have HP7 := Lib.hid (HP6.out.kept (Below.grownNone hbn none) (by cases hv : (Value.slice (some ⟨g2, 0, none⟩) t pc).ownBlock <;> simp))
        have HT7 := Lib.hid (HT6.out.call hbn)
        have HLIT := Lib.hid (show ∀ j u, ([Value.int .i64 nx])[j]? = some u → X7.cell? ((⟨X6.heap.size, 0, none⟩ : Addr).add j) = some u from by rw [hX7]; exact cell_one_new X6 (.int .i64 nx) 3)
        rw [← hX7]
        clear hX7 hbn HS6 HR6 HO6 HP6 HT6
        (try dsimp only)
        refine hK.out _ _ (by exact SQ.out _ _ HS7.out) (fun hHeld => ?_)
        clear hK K
        (try simp only [Act.put, zq1, zq2, zq3, zq4, zq5, zq6])
        refine wpAnyH_ready (rs := [1]) (by kernel_rfl) (by simp) ?_
        refine AllReadyH.cons rfl (fun K hK => ?_) AllReadyH.nil
        obtain ⟨q0, q1, q2, q3, q4⟩ := HS7.out.cells
        go_simp
        clear q0 q1 q2 q3 q4
        (try dsimp only)
        refine hK.out _ _ (by exact SQ.out _ _ HS7.out) (fun hHeld => ?_)
        clear hK K
        (try simp only [Act.put, zq1, zq2, zq3, zq4, zq5, zq6])
        refine zqt 3 ?_ ?_ (by assumption) ?_; rotate_left; (intro X hSw; (try dsimp only at hSw); go_simp; (try with_reducible rfl)); (try simp only [Act.put, zq1, zq2, zq3, zq4, zq5, zq6])
        refine wpAnyH_ready (rs := [7]) (by kernel_rfl) (by simp) ?_
        refine AllReadyH.cons rfl (fun K hK => ?_) AllReadyH.nil
        go_must (refine step_append_whered (by rfl) (.tmp 44) (.tmp 47) 26 (by rfl) b2 3 i0 (.int .i64 0) 1 8 Tryz.underlying26 hi0 hz0 hz1 hz2 rfl (by decide) (.slice (some ⟨g2, 0, none⟩) t pc) t ((P.take t).map (Value.int .i64)) (by rfl) HP7.out ⟨X6.heap.size, 0, none⟩ 1 1 [.int .i64 nx] (by rfl) (by rfl) HLIT.out (ints_oneCell .i64 [nx]) (by unfold maxLen; omega) (by omega) (by omega) ?_)
        intro v8 w8 hown8 hgrow8 hwhere8
        obtain ⟨a8, c8, rfl⟩ := slice_own hown8
        have hs8 := hgrow8.size
        have HO8 := Lib.hid hown8
        have HW8 := Lib.hid hwhere8
        have HS8 := Lib.hid (HS7.out.grown hgrow8 (fun e => by have := ob e; omega))
        have HR8 := Lib.hid (HR7.out.grown hgrow8 (fun e => by have := ob e; omega))
        have HI8 := Lib.hid (HO7.out.kept hgrow8 (by cases hv : (Value.slice a5 (t + 1) c5).ownBlock with | none => exact .inl rfl | some g => exact .inr (fun e => by have := HN5.out g hv; have := ob e.symm; omega)))
        have HT8 := Lib.hid (HT7.out.trans (show Touch b1 w.heap.size X7 w8 from Touch.of hgrow8 (fun g hg => by have := ob hg; omega)))
        clear hown8 hgrow8 hwhere8
        (try dsimp only)
        refine hK.out _ _ (by exact SQ.out _ _ HS8.out) (fun hHeld => ?_)
        clear hK K
        (try simp only [Act.put, zq1, zq2, zq3, zq4, zq5, zq6])
        refine zqt 8 ?_ ?_ (by assumption) ?_; rotate_left; (intro X hSw; (try dsimp only at hSw); go_simp; (try with_reducible rfl)); (try simp only [Act.put, zq1, zq2, zq3, zq4, zq5, zq6])
        refine wpAnyH_ready (rs := [9]) (by kernel_rfl) (by simp) ?_
        refine AllReadyH.cons rfl (fun K hK => ?_) AllReadyH.nil
        have f1 := HS8.out.free 1
        obtain ⟨q0, q1, q2, q3, q4⟩ := HS8.out.cells
        go_simp
        have HS9 := Lib.hid (HS8.out.set1 (.slice a8 (t + 1) c8))
        (try dsimp only)
        refine hK.out _ _ (by exact SQ.out _ _ HS9.out) (fun hHeld => ?_)
        clear hK K
        (try simp only [Act.put, zq1, zq2, zq3, zq4, zq5, zq6])
        refine wpAnyH_done (by kernel_rfl) ?_ _
        obtain ⟨X9, hX9⟩ : ∃ X9, X9 = w8.setCell ⟨w.heap.size, 1, none⟩ (.slice a8 (t + 1) c8) := ⟨_, rfl⟩
        have hn8 : ∀ g, (Value.slice a8 (t + 1) c8).ownBlock = some g → g ≠ w.heap.size := fun g hg => by
          rcases HW8.out with e | ⟨g', e, hle⟩
          · rw [e] at hg; have := ob hg; omega
          · rw [e] at hg; obtain rfl := Option.some.inj hg; omega
        have hn58 : (Value.slice a5 (t + 1) c5).ownBlock = none ∨ (Value.slice a5 (t + 1) c5).ownBlock ≠ (Value.slice a8 (t + 1) c8).ownBlock := by
          cases hv : (Value.slice a5 (t + 1) c5).ownBlock with
          | none => exact .inl rfl
          | some g =>
            refine .inr (fun e => ?_)
            have h5 := (HO7.out.lt g hv).2
            rcases HW8.out with e' | ⟨g', e', hle⟩
            · rw [e'] at e
              have := ob e.symm
              have := HN5.out g hv
              omega
            · rw [e'] at e; obtain rfl := Option.some.inj e; omega
        have HN58 := Lib.hid hn58
        have HRW := Lib.hid (show X9.ownsRow b1 3 1 (.slice a5 (t + 1) c5) (t + 1) ((I.take t ++ [x]).map (Value.int .i64)) from by rw [hX9]; exact own_far HI8.out (fun g hg => by have := HN5.out g hg; omega))
        have HPW := Lib.hid (show X9.ownsRow b2 3 1 (.slice a8 (t + 1) c8) (t + 1) ((P.take t ++ [nx]).map (Value.int .i64)) from by rw [hX9, List.map_append]; exact own_far HO8.out hn8)
        have HS9 := Lib.hid (show Box5 X9 w.heap.size 28 (.slice a5 (t + 1) c5) (.slice a8 (t + 1) c8) (.int .i64 fi) (.int .i64 nx) (.int .i64 (dr + ((n : Int) - (t : Int)))) from by rw [hX9]; exact HS9.out)
        have HR9 := Lib.hid (show Box5 X9 (w.heap.size + 1) 28 (.slice none 0 0) (.slice none 0 0) (.int .i64 0) (.int .i64 0) (.int .i64 0) from by rw [hX9]; exact HR8.out.other (by omega) _ _)
        have HT9 := Lib.hid (show Touch b1 w.heap.size w X9 from by rw [hX9]; exact HT8.out.far (Nat.le_refl _))
        have HPN := Lib.hid (show ∀ g, (Value.slice a8 (t + 1) c8).ownBlock = some g → g ≠ w.heap.size ∧ g ≠ w.heap.size + 1 from fun g hg => by
          rcases HW8.out with e | ⟨g', e, hle⟩
          · rw [e] at hg; have := ob hg; omega
          · rw [e] at hg; obtain rfl := Option.some.inj hg; omega)
        rw [← hX9]
        clear hX9 q0 q1 q2 q3 q4 f1 HS7 HS8 HR7 HR8 HO7 HO8 HI8 HP7 HT7 HT8 HW8 hn8 hn58 SQ HLIT
        obtain ⟨q0, q1, q2, q3, q4⟩ := HS9.out.cells
        have f9 := HS9.out.free
        obtain ⟨e0, e1, e2, e3, e4⟩ := HR9.out.cells
        have g9 := HR9.out.free
        have hrl9 := HR9.out.lt
        have hww : IntKind.i64.wrap (nx + 1) = nx + 1 := IntWalk.i64_in _ ⟨by omega, by omega⟩
        go_wp2_with fail
        refine bodyPost_ret (by simp [results, Tryz.results69, go_sem, *]; try rfl) rfl ?_
        have hk2 := HK3.out
        obtain ⟨Y, hY⟩ : ∃ Y, Y = X9.setCell ⟨w.heap.size, 3, none⟩ (.int .i64 (nx + 1)) := ⟨_, rfl⟩
        have a1 : Y.ownsRow b1 3 1 (.slice a5 (t + 1) c5) (t + 1) ((I.take t ++ [x]).map (Value.int .i64)) := by rw [hY]; exact own_far HRW.out (fun g hg => by have := HN5.out g hg; omega)
        have a2 : Y.ownsRow b2 3 1 (.slice a8 (t + 1) c8) (t + 1) ((P.take t ++ [nx]).map (Value.int .i64)) := by rw [hY]; exact own_far HPW.out (fun g hg => (HPN.out g hg).1)
        have a3 : Touch b1 w.heap.size w Y := by rw [hY]; exact HT9.out.far (Nat.le_refl _)
        have hYs : w.heap.size + 1 < Y.heap.size := by rw [hY]; simpa [World.setCell] using hrl9
        rw [← hY]
        exact po_fin hb HN58.out (fun g hg => by have := HN5.out g hg; omega) (fun g hg => (HPN.out g hg).2) HIL.out HPL.out hk2 a1 a2 a3 (by omega) hYs _ _ _ _ _
    · obtain ⟨M0, hM⟩ : ∃ M0, t = M0 + 1 := ⟨t - 1, by omega⟩
      have HM := Lib.hid hM
      have hk0 : decide ((0 : Int) < (t : Int)) = true := by simp; omega
      have hk1 : decide (0 < t) = true := by simp; omega
      have hM0 : M0 < n := by omega
      have hsub : (t : Int) - 1 = (M0 : Int) := by omega
      have hw1 : IntKind.i64.wrap ((t : Int) - 1) = (M0 : Int) := by rw [hsub]; exact IntWalk.i64_in _ ⟨by omega, by omega⟩
      have hw2 : IntKind.i64.wrap (M0 : Int) = (M0 : Int) := IntWalk.i64_in _ ⟨by omega, by omega⟩
      have hkm : (0 : Int) ≤ (M0 : Int) := Int.natCast_nonneg _
      have hkn : (M0 : Int) < (n : Int) := by omega
      rcases (HNI.out.below hw.out).2.2.2 with h4 | ⟨ib, ioff, eib, hib, hics⟩
      · omega
      · simp only [Option.some.injEq, Addr.mk.injEq, and_true] at eib
        obtain ⟨rfl, rfl⟩ := eib
        have hc1 := hics M0 hM0
        rw [Nat.zero_add] at hc1
        clear hics
        obtain ⟨y, hy⟩ : ∃ y, y = I[M0]?.getD 0 := ⟨_, rfl⟩
        rw [← hy] at hc1
        obtain ⟨bb, hbb⟩ : ∃ bb, bb = Agg.before k y x := ⟨_, rfl⟩
        have hla := fun w => HLA.out y x w
        rw [← hbb] at hla
        have HL2 := Lib.hid hla
        have HKN := Lib.hid (show Agg.keepN k I x t = (if bb then Agg.keepN k I x M0 else t) from by rw [hM, hbb, hy]; rfl)
        clear hla hbb hy hM h0
        go_wp2_with fail
        refine wp_region_held_drew (S := (fun X => X.cell? ⟨w.heap.size, 0, none⟩ = some (.slice (some ⟨g1, 0, none⟩) n ic) ∧ X.cell? ⟨g1, M0, none⟩ = some (.int .i64 y))) (by kernel_rfl) (by refine ⟨?_, ?_⟩ <;> assumption) (fun hHeld => ?_)
        refine zqt 0 ?_ ?_ (by assumption) ?_; rotate_left; (intro X hSw; (try dsimp only at hSw); go_simp; (try with_reducible rfl)); (try simp only [Act.put, zq1, zq2, zq3, zq4, zq5, zq6])
        refine zqt 1 ?_ ?_ (by assumption) ?_; rotate_left; (intro X hSw; (try dsimp only at hSw); go_simp; (try with_reducible rfl)); (try simp only [Act.put, zq1, zq2, zq3, zq4, zq5, zq6])
        refine zqt 2 ?_ ?_ (by assumption) ?_; rotate_left; (intro X hSw; (try dsimp only at hSw); go_simp; (try with_reducible rfl)); (try simp only [Act.put, zq1, zq2, zq3, zq4, zq5, zq6])
        refine zqt 3 ?_ ?_ (by assumption) ?_; rotate_left; (intro X hSw; (try dsimp only at hSw); go_simp; (try with_reducible rfl)); (try simp only [Act.put, zq1, zq2, zq3, zq4, zq5, zq6])
        refine zqt 4 ?_ ?_ (by assumption) ?_; rotate_left; (intro X hSw; (try dsimp only at hSw); go_simp; (try with_reducible rfl)); (try simp only [Act.put, zq1, zq2, zq3, zq4, zq5, zq6])
        refine zqt 5 ?_ ?_ (by assumption) ?_; rotate_left; (intro X hSw; (try dsimp only at hSw); go_simp; (try with_reducible rfl)); (try simp only [Act.put, zq1, zq2, zq3, zq4, zq5, zq6])
        refine zqt 6 ?_ ?_ (by assumption) ?_; rotate_left; (intro X hSw; (try dsimp only at hSw); go_simp; (try with_reducible rfl)); (try simp only [Act.put, zq1, zq2, zq3, zq4, zq5, zq6])
        refine zqt 7 ?_ ?_ (by assumption) ?_; rotate_left; (intro X hSw; (try dsimp only at hSw); go_simp; (try with_reducible rfl)); (try simp only [Act.put, zq1, zq2, zq3, zq4, zq5, zq6])
        refine zqt 8 ?_ ?_ (by assumption) ?_; rotate_left; (intro X hSw; (try dsimp only at hSw); go_simp; (try with_reducible rfl)); (try simp only [Act.put, zq1, zq2, zq3, zq4, zq5, zq6])
        refine zqt 9 ?_ ?_ (by assumption) ?_; rotate_left; (intro X hSw; (try dsimp only at hSw); go_simp; (try with_reducible rfl)); (try simp only [Act.put, zq1, zq2, zq3, zq4, zq5, zq6])
        refine zqt 10 ?_ ?_ (by assumption) ?_; rotate_left; (intro X hSw; (try dsimp only at hSw); go_simp; (try with_reducible rfl)); (try simp only [Act.put, zq1, zq2, zq3, zq4, zq5, zq6])
        refine zqt 11 ?_ ?_ (by assumption) ?_; rotate_left; (intro X hSw; (try dsimp only at hSw); go_simp; (try with_reducible rfl)); (try simp only [Act.put, zq1, zq2, zq3, zq4, zq5, zq6])
        refine zqt 12 ?_ ?_ (by assumption) ?_; rotate_left; (intro X hSw; (try dsimp only at hSw); go_simp; (try with_reducible rfl)); (try simp only [Act.put, zq1, zq2, zq3, zq4, zq5, zq6])
        refine zqt 13 ?_ ?_ (by assumption) ?_; rotate_left; (intro X hSw; (try dsimp only at hSw); go_simp; (try with_reducible rfl)); (try simp only [Act.put, zq1, zq2, zq3, zq4, zq5, zq6])
        refine wpAnyH_ready (rs := [14]) (by kernel_rfl) (by simp) ?_
        refine AllReadyH.cons rfl (fun K hK => ?_) AllReadyH.nil
        go_simp
        refine (HL2.out _).mono ?_
        rintro e w3 ⟨rfl, hb3⟩
        have HS3 := Lib.hid (hs.out.callD hb3)
        have HR3 := Lib.hid (hr.out.callD hb3)
        have HB3 := Lib.hid (hw.out.drew.trans (hb3.mono hw.out.size))
        have hc0 := HS3.out.cells.1
        have hc1 := (hb3.cell (p := ⟨g1, M0, none⟩) hib).trans hc1
        clear hb3
        (try dsimp only)
        refine hK.out _ _ (by refine ⟨?_, ?_⟩ <;> assumption) (fun hHeld => ?_)
        clear hK K
        (try simp only [Act.put, zq1, zq2, zq3, zq4, zq5, zq6])
        refine zqt 15 ?_ ?_ (by assumption) ?_; rotate_left; (intro X hSw; (try dsimp only at hSw); go_simp; (try with_reducible rfl)); (try simp only [Act.put, zq1, zq2, zq3, zq4, zq5, zq6])
        refine wpAnyH_done (by kernel_rfl) ?_ _
        clear hs hr hw q0 q1 q2 q3 q4 hc0 hc1 hHeld
        cases bb
        · have HK3 := Lib.hid (show Agg.keepN k I x n = t from by rw [← hke.out]; have := HKN.out; simpa using this)
          obtain ⟨X3, hX3⟩ : ∃ X3, X3 = w3 := ⟨_, rfl⟩
          rw [← hX3] at HS3 HR3 HB3 ⊢
          clear hX3 hib HNI HL2 HKN hke HM hsub hw1 hw2 hkm hkn hk0 hk1
          have hsx := HB3.out.size
          have hsl := HS3.out.lt
          have hrl := HR3.out.lt
          have HI3 := Lib.hid (HI.out.kept (Below.grownNone HB3.out none) (by cases hv : (Value.slice (some ⟨g1, 0, none⟩) n ic).ownBlock <;> simp))
          have HP3 := Lib.hid (HP.out.kept (Below.grownNone HB3.out none) (by cases hv : (Value.slice (some ⟨g2, 0, none⟩) n pc).ownBlock <;> simp))
          have HPG := Lib.hid (fun g (hg : (Value.slice (some ⟨g2, 0, none⟩) n pc).ownBlock = some g) => HP.out.lt g hg)
          have HPI := Lib.hid (own_prefix_int HI3.out ht)
          have HPP := Lib.hid (own_prefix_int HP3.out ht)
          obtain ⟨q0, q1, q2, q3, q4⟩ := HS3.out.cells
          have hti : (t : Int) ≤ (ic : Int) := by omega
          have htp : (t : Int) ≤ (pc : Int) := by omega
          have htn : (0 : Int) ≤ (t : Int) := Int.natCast_nonneg _
          go_upto_region 6 with (
            at_builtin
            go_must (refine wpList_append_where rfl (.tmp 36) (.tmp 38) 26 rfl b1 3 i0 (.int .i64 0) 1 8 Tryz.underlying26 hi0 hz0 hz1 hz2 rfl (by decide) (.slice (some ⟨g1, 0, none⟩) t ic) t ((I.take t).map (Value.int .i64)) rfl (HPI.out.alloc _) ⟨X3.heap.size, 0, none⟩ 1 1 [.int .i64 x] rfl rfl (cell_one_new _ _ _) (ints_oneCell .i64 [x]) (by unfold maxLen; omega) (by omega) (by simp; omega) ?_)
            go_loud (
              intro v5 w5 hown5 hgrow5 hwhere5
              obtain ⟨a5, c5, rfl⟩ := slice_own hown5
              have HO5 := Lib.hid hown5
              have HG5 := Lib.hid hgrow5
              have HW5 := Lib.hid hwhere5
              have HS5 := Lib.hid ((HS3.out.alloc (.cells #[.int .i64 x] 3)).grown hgrow5 (fun e => by have := ob e; omega))
              have HR5 := Lib.hid ((HR3.out.alloc (.cells #[.int .i64 x] 3)).grown hgrow5 (fun e => by have := ob e; omega))
              have HP5 := Lib.hid ((HPP.out.alloc (.cells #[.int .i64 x] 3)).kept hgrow5 (by cases hv : (Value.slice (some ⟨g2, 0, none⟩) t pc).ownBlock with | none => exact .inl rfl | some g => exact .inr (fun e => by have := ob e.symm; have := ob hv; omega)))
              have f0 := HS5.out.free 0
              obtain ⟨q0, q1, q2, q3, q4⟩ := HS5.out.cells
              clear hown5 hgrow5 hwhere5))
          have hs5 : X3.heap.size + 1 ≤ w5.heap.size := by have := HG5.out.size; simpa using this
          have HN5 := Lib.hid (show ∀ g, (Value.slice a5 (t + 1) c5).ownBlock = some g → g < b2 ∨ X3.heap.size ≤ g from fun g hg => by
            rcases HW5.out with e | ⟨g', e, hle⟩
            · exact .inl (by rw [e] at hg; have := ob hg; omega)
            · rw [e] at hg; obtain rfl := Option.some.inj hg; simp at hle; exact .inr (by omega))
          obtain ⟨X6, hX6⟩ : ∃ X6, X6 = w5.setCell ⟨w.heap.size, 0, none⟩ (.slice a5 (t + 1) c5) := ⟨_, rfl⟩
          have HS6 := Lib.hid (show Box5 X6 w.heap.size 28 (.slice a5 (t + 1) c5) (.slice (some ⟨g2, 0, none⟩) n pc) (.int .i64 fi) (.int .i64 nx) (.int .i64 (dr + ((n : Int) - (t : Int)))) from by rw [hX6]; exact HS5.out.set0 _)
          have HR6 := Lib.hid (show Box5 X6 (w.heap.size + 1) 28 (.slice none 0 0) (.slice none 0 0) (.int .i64 0) (.int .i64 0) (.int .i64 0) from by rw [hX6]; exact HR5.out.other (by omega) _ _)
          have HO6 := Lib.hid (show X6.ownsRow b1 3 1 (.slice a5 (t + 1) c5) (t + 1) ((I.take t ++ [x]).map (Value.int .i64)) from by
            rw [hX6, List.map_append]
            exact own_far HO5.out (fun g hg => by have := HN5.out g hg; omega))
          have HP6 := Lib.hid (show X6.ownsRow b2 3 1 (.slice (some ⟨g2, 0, none⟩) t pc) t ((P.take t).map (Value.int .i64)) from by
            rw [hX6]
            exact own_far HP5.out (fun g hg => by have := ob hg; omega))
          have HT6 := Lib.hid (show Touch b1 w.heap.size w X6 from by
            rw [hX6]
            exact Touch.far ((((Touch.refl b1 w.heap.size w).call HB3.out).call ((Below.refl X3.heap.size X3).alloc (Nat.le_refl _) _)).trans (Touch.of HG5.out (fun g hg => by have := ob hg; omega))) (Nat.le_refl _))
          have hs6 : X3.heap.size + 1 ≤ X6.heap.size := by rw [hX6]; simpa [World.setCell] using hs5
          rw [← hX6]
          clear hX6 q0 q1 q2 q3 q4 f0 HS5 HR5 HP5 HO5 HG5 HW5 HPI HPP HI3 HP3 HS3 HR3 HB3
          obtain ⟨q0, q1, q2, q3, q4⟩ := HS6.out.cells
          have SQ := Lib.hid (show ∀ (X : World) (v : Value), Box5 X w.heap.size 28 (.slice a5 (t + 1) c5) v (.int .i64 fi) (.int .i64 nx) (.int .i64 (dr + ((n : Int) - (t : Int)))) → X.cell? ⟨w.heap.size, 3, none⟩ = some (.int .i64 nx) from fun X v h => h.cells.2.2.2.1)
          refine wp_region_held_drew (S := (fun X => X.cell? ⟨w.heap.size, 3, none⟩ = some (.int .i64 nx))) (by kernel_rfl) (by exact q3) (fun hHeld => ?_)
          clear q0 q1 q2 q3 q4
          refine zqt 0 ?_ ?_ (by assumption) ?_; rotate_left; (intro X hSw; (try dsimp only at hSw); go_simp; (try with_reducible rfl)); (try simp only [Act.put, zq1, zq2, zq3, zq4, zq5, zq6])
          refine zqt 2 ?_ ?_ (by assumption) ?_; rotate_left; (intro X hSw; (try dsimp only at hSw); go_simp; (try with_reducible rfl)); (try simp only [Act.put, zq1, zq2, zq3, zq4, zq5, zq6])
          refine zqt 4 ?_ ?_ (by assumption) ?_; rotate_left; (intro X hSw; (try dsimp only at hSw); go_simp; (try with_reducible rfl)); (try simp only [Act.put, zq1, zq2, zq3, zq4, zq5, zq6])
          refine zqt 5 ?_ ?_ (by assumption) ?_; rotate_left; (intro X hSw; (try dsimp only at hSw); go_simp; (try with_reducible rfl)); (try simp only [Act.put, zq1, zq2, zq3, zq4, zq5, zq6])
          refine wpAnyH_ready (rs := [1, 6]) (by kernel_rfl) (by simp) ?_
          refine AllReadyH.cons rfl (fun K hK => ?_) (AllReadyH.cons rfl (fun K hK => ?_) AllReadyH.nil)
          
          · obtain ⟨q0, q1, q2, q3, q4⟩ := HS6.out.cells
            go_simp
            clear q0 q1 q2 q3 q4
            (try dsimp only)
            refine hK.out _ _ (by exact SQ.out _ _ HS6.out) (fun hHeld => ?_)
            clear hK K
            (try simp only [Act.put, zq1, zq2, zq3, zq4, zq5, zq6])
            refine zqt 3 ?_ ?_ (by assumption) ?_; rotate_left; (intro X hSw; (try dsimp only at hSw); go_simp; (try with_reducible rfl)); (try simp only [Act.put, zq1, zq2, zq3, zq4, zq5, zq6])
            refine wpAnyH_ready (rs := [6]) (by kernel_rfl) (by simp) ?_
            refine AllReadyH.cons rfl (fun K hK => ?_) AllReadyH.nil
            go_simp
            obtain ⟨X7, hX7⟩ : ∃ X7, X7 = (X6.alloc (.cells #[.int .i64 nx] 3)).drew := ⟨_, rfl⟩
            have hbn : Below X6.heap.size X6 X7 := by rw [hX7]; exact ((Below.refl _ _).alloc (Nat.le_refl _) _).drew
            have hs7 : X7.heap.size = X6.heap.size + 1 := by rw [hX7]; simp [World.drew]
            have HS7 := Lib.hid (HS6.out.call hbn)
            have HR7 := Lib.hid (HR6.out.call hbn)
            have HO7 := Lib.hid (HO6.out.kept (Below.grownNone hbn none) (by cases hv : (Value.slice a5 (t + 1) c5).ownBlock <;> simp))
            have HP7 := Lib.hid (HP6.out.kept (Below.grownNone hbn none) (by cases hv : (Value.slice (some ⟨g2, 0, none⟩) t pc).ownBlock <;> simp))
            have HT7 := Lib.hid (HT6.out.call hbn)
            have HLIT := Lib.hid (show ∀ j u, ([Value.int .i64 nx])[j]? = some u → X7.cell? ((⟨X6.heap.size, 0, none⟩ : Addr).add j) = some u from by rw [hX7]; exact cell_one_new X6 (.int .i64 nx) 3)
            rw [← hX7]
            clear hX7 hbn HS6 HR6 HO6 HP6 HT6
            (try dsimp only)
            refine hK.out _ _ (by exact SQ.out _ _ HS7.out) (fun hHeld => ?_)
            clear hK K
            (try simp only [Act.put, zq1, zq2, zq3, zq4, zq5, zq6])
            refine wpAnyH_ready (rs := [7]) (by kernel_rfl) (by simp) ?_
            refine AllReadyH.cons rfl (fun K hK => ?_) AllReadyH.nil
            go_must (refine step_append_whered (by rfl) (.tmp 44) (.tmp 47) 26 (by rfl) b2 3 i0 (.int .i64 0) 1 8 Tryz.underlying26 hi0 hz0 hz1 hz2 rfl (by decide) (.slice (some ⟨g2, 0, none⟩) t pc) t ((P.take t).map (Value.int .i64)) (by rfl) HP7.out ⟨X6.heap.size, 0, none⟩ 1 1 [.int .i64 nx] (by rfl) (by rfl) HLIT.out (ints_oneCell .i64 [nx]) (by unfold maxLen; omega) (by omega) (by omega) ?_)
            intro v8 w8 hown8 hgrow8 hwhere8
            obtain ⟨a8, c8, rfl⟩ := slice_own hown8
            have hs8 := hgrow8.size
            have HO8 := Lib.hid hown8
            have HW8 := Lib.hid hwhere8
            have HS8 := Lib.hid (HS7.out.grown hgrow8 (fun e => by have := ob e; omega))
            have HR8 := Lib.hid (HR7.out.grown hgrow8 (fun e => by have := ob e; omega))
            have HI8 := Lib.hid (HO7.out.kept hgrow8 (by cases hv : (Value.slice a5 (t + 1) c5).ownBlock with | none => exact .inl rfl | some g => exact .inr (fun e => by have := HN5.out g hv; have := ob e.symm; omega)))
            have HT8 := Lib.hid (HT7.out.trans (show Touch b1 w.heap.size X7 w8 from Touch.of hgrow8 (fun g hg => by have := ob hg; omega)))
            clear hown8 hgrow8 hwhere8
            (try dsimp only)
            refine hK.out _ _ (by exact SQ.out _ _ HS8.out) (fun hHeld => ?_)
            clear hK K
            (try simp only [Act.put, zq1, zq2, zq3, zq4, zq5, zq6])
            refine zqt 8 ?_ ?_ (by assumption) ?_; rotate_left; (intro X hSw; (try dsimp only at hSw); go_simp; (try with_reducible rfl)); (try simp only [Act.put, zq1, zq2, zq3, zq4, zq5, zq6])
            refine wpAnyH_ready (rs := [9]) (by kernel_rfl) (by simp) ?_
            refine AllReadyH.cons rfl (fun K hK => ?_) AllReadyH.nil
            have f1 := HS8.out.free 1
            obtain ⟨q0, q1, q2, q3, q4⟩ := HS8.out.cells
            go_simp
            have HS9 := Lib.hid (HS8.out.set1 (.slice a8 (t + 1) c8))
            (try dsimp only)
            refine hK.out _ _ (by exact SQ.out _ _ HS9.out) (fun hHeld => ?_)
            clear hK K
            (try simp only [Act.put, zq1, zq2, zq3, zq4, zq5, zq6])
            refine wpAnyH_done (by kernel_rfl) ?_ _
            obtain ⟨X9, hX9⟩ : ∃ X9, X9 = w8.setCell ⟨w.heap.size, 1, none⟩ (.slice a8 (t + 1) c8) := ⟨_, rfl⟩
            have hn8 : ∀ g, (Value.slice a8 (t + 1) c8).ownBlock = some g → g ≠ w.heap.size := fun g hg => by
              rcases HW8.out with e | ⟨g', e, hle⟩
              · rw [e] at hg; have := ob hg; omega
              · rw [e] at hg; obtain rfl := Option.some.inj hg; omega
            have hn58 : (Value.slice a5 (t + 1) c5).ownBlock = none ∨ (Value.slice a5 (t + 1) c5).ownBlock ≠ (Value.slice a8 (t + 1) c8).ownBlock := by
              cases hv : (Value.slice a5 (t + 1) c5).ownBlock with
              | none => exact .inl rfl
              | some g =>
                refine .inr (fun e => ?_)
                have h5 := (HO7.out.lt g hv).2
                rcases HW8.out with e' | ⟨g', e', hle⟩
                · rw [e'] at e
                  have := ob e.symm
                  have := HN5.out g hv
                  omega
                · rw [e'] at e; obtain rfl := Option.some.inj e; omega
            have HN58 := Lib.hid hn58
            have HRW := Lib.hid (show X9.ownsRow b1 3 1 (.slice a5 (t + 1) c5) (t + 1) ((I.take t ++ [x]).map (Value.int .i64)) from by rw [hX9]; exact own_far HI8.out (fun g hg => by have := HN5.out g hg; omega))
            have HPW := Lib.hid (show X9.ownsRow b2 3 1 (.slice a8 (t + 1) c8) (t + 1) ((P.take t ++ [nx]).map (Value.int .i64)) from by rw [hX9, List.map_append]; exact own_far HO8.out hn8)
            have HS9 := Lib.hid (show Box5 X9 w.heap.size 28 (.slice a5 (t + 1) c5) (.slice a8 (t + 1) c8) (.int .i64 fi) (.int .i64 nx) (.int .i64 (dr + ((n : Int) - (t : Int)))) from by rw [hX9]; exact HS9.out)
            have HR9 := Lib.hid (show Box5 X9 (w.heap.size + 1) 28 (.slice none 0 0) (.slice none 0 0) (.int .i64 0) (.int .i64 0) (.int .i64 0) from by rw [hX9]; exact HR8.out.other (by omega) _ _)
            have HT9 := Lib.hid (show Touch b1 w.heap.size w X9 from by rw [hX9]; exact HT8.out.far (Nat.le_refl _))
            have HPN := Lib.hid (show ∀ g, (Value.slice a8 (t + 1) c8).ownBlock = some g → g ≠ w.heap.size ∧ g ≠ w.heap.size + 1 from fun g hg => by
              rcases HW8.out with e | ⟨g', e, hle⟩
              · rw [e] at hg; have := ob hg; omega
              · rw [e] at hg; obtain rfl := Option.some.inj hg; omega)
            rw [← hX9]
            clear hX9 q0 q1 q2 q3 q4 f1 HS7 HS8 HR7 HR8 HO7 HO8 HI8 HP7 HT7 HT8 HW8 hn8 hn58 SQ HLIT
            obtain ⟨q0, q1, q2, q3, q4⟩ := HS9.out.cells
            have f9 := HS9.out.free
            obtain ⟨e0, e1, e2, e3, e4⟩ := HR9.out.cells
            have g9 := HR9.out.free
            have hrl9 := HR9.out.lt
            have hww : IntKind.i64.wrap (nx + 1) = nx + 1 := IntWalk.i64_in _ ⟨by omega, by omega⟩
            go_wp2_with fail
            refine bodyPost_ret (by simp [results, Tryz.results69, go_sem, *]; try rfl) rfl ?_
            have hk2 := HK3.out
            obtain ⟨Y, hY⟩ : ∃ Y, Y = X9.setCell ⟨w.heap.size, 3, none⟩ (.int .i64 (nx + 1)) := ⟨_, rfl⟩
            have a1 : Y.ownsRow b1 3 1 (.slice a5 (t + 1) c5) (t + 1) ((I.take t ++ [x]).map (Value.int .i64)) := by rw [hY]; exact own_far HRW.out (fun g hg => by have := HN5.out g hg; omega)
            have a2 : Y.ownsRow b2 3 1 (.slice a8 (t + 1) c8) (t + 1) ((P.take t ++ [nx]).map (Value.int .i64)) := by rw [hY]; exact own_far HPW.out (fun g hg => (HPN.out g hg).1)
            have a3 : Touch b1 w.heap.size w Y := by rw [hY]; exact HT9.out.far (Nat.le_refl _)
            have hYs : w.heap.size + 1 < Y.heap.size := by rw [hY]; simpa [World.setCell] using hrl9
            rw [← hY]
            exact po_fin hb HN58.out (fun g hg => by have := HN5.out g hg; omega) (fun g hg => (HPN.out g hg).2) HIL.out HPL.out hk2 a1 a2 a3 (by omega) hYs _ _ _ _ _
          · go_simp
            obtain ⟨X7, hX7⟩ : ∃ X7, X7 = (X6.alloc (.cells #[.int .i64 nx] 3)).drew := ⟨_, rfl⟩
            have hbn : Below X6.heap.size X6 X7 := by rw [hX7]; exact ((Below.refl _ _).alloc (Nat.le_refl _) _).drew
            have hs7 : X7.heap.size = X6.heap.size + 1 := by rw [hX7]; simp [World.drew]
            have HS7 := Lib.hid (HS6.out.call hbn)
            have HR7 := Lib.hid (HR6.out.call hbn)
            have HO7 := Lib.hid (HO6.out.kept (Below.grownNone hbn none) (by cases hv : (Value.slice a5 (t + 1) c5).ownBlock <;> simp))
            have HP7 := Lib.hid (HP6.out.kept (Below.grownNone hbn none) (by cases hv : (Value.slice (some ⟨g2, 0, none⟩) t pc).ownBlock <;> simp))
            have HT7 := Lib.hid (HT6.out.call hbn)
            have HLIT := Lib.hid (show ∀ j u, ([Value.int .i64 nx])[j]? = some u → X7.cell? ((⟨X6.heap.size, 0, none⟩ : Addr).add j) = some u from by rw [hX7]; exact cell_one_new X6 (.int .i64 nx) 3)
            rw [← hX7]
            clear hX7 hbn HS6 HR6 HO6 HP6 HT6
            (try dsimp only)
            refine hK.out _ _ (by exact SQ.out _ _ HS7.out) (fun hHeld => ?_)
            clear hK K
            (try simp only [Act.put, zq1, zq2, zq3, zq4, zq5, zq6])
            refine wpAnyH_ready (rs := [1]) (by kernel_rfl) (by simp) ?_
            refine AllReadyH.cons rfl (fun K hK => ?_) AllReadyH.nil
            obtain ⟨q0, q1, q2, q3, q4⟩ := HS7.out.cells
            go_simp
            clear q0 q1 q2 q3 q4
            (try dsimp only)
            refine hK.out _ _ (by exact SQ.out _ _ HS7.out) (fun hHeld => ?_)
            clear hK K
            (try simp only [Act.put, zq1, zq2, zq3, zq4, zq5, zq6])
            refine zqt 3 ?_ ?_ (by assumption) ?_; rotate_left; (intro X hSw; (try dsimp only at hSw); go_simp; (try with_reducible rfl)); (try simp only [Act.put, zq1, zq2, zq3, zq4, zq5, zq6])
            refine wpAnyH_ready (rs := [7]) (by kernel_rfl) (by simp) ?_
            refine AllReadyH.cons rfl (fun K hK => ?_) AllReadyH.nil
            go_must (refine step_append_whered (by rfl) (.tmp 44) (.tmp 47) 26 (by rfl) b2 3 i0 (.int .i64 0) 1 8 Tryz.underlying26 hi0 hz0 hz1 hz2 rfl (by decide) (.slice (some ⟨g2, 0, none⟩) t pc) t ((P.take t).map (Value.int .i64)) (by rfl) HP7.out ⟨X6.heap.size, 0, none⟩ 1 1 [.int .i64 nx] (by rfl) (by rfl) HLIT.out (ints_oneCell .i64 [nx]) (by unfold maxLen; omega) (by omega) (by omega) ?_)
            intro v8 w8 hown8 hgrow8 hwhere8
            obtain ⟨a8, c8, rfl⟩ := slice_own hown8
            have hs8 := hgrow8.size
            have HO8 := Lib.hid hown8
            have HW8 := Lib.hid hwhere8
            have HS8 := Lib.hid (HS7.out.grown hgrow8 (fun e => by have := ob e; omega))
            have HR8 := Lib.hid (HR7.out.grown hgrow8 (fun e => by have := ob e; omega))
            have HI8 := Lib.hid (HO7.out.kept hgrow8 (by cases hv : (Value.slice a5 (t + 1) c5).ownBlock with | none => exact .inl rfl | some g => exact .inr (fun e => by have := HN5.out g hv; have := ob e.symm; omega)))
            have HT8 := Lib.hid (HT7.out.trans (show Touch b1 w.heap.size X7 w8 from Touch.of hgrow8 (fun g hg => by have := ob hg; omega)))
            clear hown8 hgrow8 hwhere8
            (try dsimp only)
            refine hK.out _ _ (by exact SQ.out _ _ HS8.out) (fun hHeld => ?_)
            clear hK K
            (try simp only [Act.put, zq1, zq2, zq3, zq4, zq5, zq6])
            refine zqt 8 ?_ ?_ (by assumption) ?_; rotate_left; (intro X hSw; (try dsimp only at hSw); go_simp; (try with_reducible rfl)); (try simp only [Act.put, zq1, zq2, zq3, zq4, zq5, zq6])
            refine wpAnyH_ready (rs := [9]) (by kernel_rfl) (by simp) ?_
            refine AllReadyH.cons rfl (fun K hK => ?_) AllReadyH.nil
            have f1 := HS8.out.free 1
            obtain ⟨q0, q1, q2, q3, q4⟩ := HS8.out.cells
            go_simp
            have HS9 := Lib.hid (HS8.out.set1 (.slice a8 (t + 1) c8))
            (try dsimp only)
            refine hK.out _ _ (by exact SQ.out _ _ HS9.out) (fun hHeld => ?_)
            clear hK K
            (try simp only [Act.put, zq1, zq2, zq3, zq4, zq5, zq6])
            refine wpAnyH_done (by kernel_rfl) ?_ _
            obtain ⟨X9, hX9⟩ : ∃ X9, X9 = w8.setCell ⟨w.heap.size, 1, none⟩ (.slice a8 (t + 1) c8) := ⟨_, rfl⟩
            have hn8 : ∀ g, (Value.slice a8 (t + 1) c8).ownBlock = some g → g ≠ w.heap.size := fun g hg => by
              rcases HW8.out with e | ⟨g', e, hle⟩
              · rw [e] at hg; have := ob hg; omega
              · rw [e] at hg; obtain rfl := Option.some.inj hg; omega
            have hn58 : (Value.slice a5 (t + 1) c5).ownBlock = none ∨ (Value.slice a5 (t + 1) c5).ownBlock ≠ (Value.slice a8 (t + 1) c8).ownBlock := by
              cases hv : (Value.slice a5 (t + 1) c5).ownBlock with
              | none => exact .inl rfl
              | some g =>
                refine .inr (fun e => ?_)
                have h5 := (HO7.out.lt g hv).2
                rcases HW8.out with e' | ⟨g', e', hle⟩
                · rw [e'] at e
                  have := ob e.symm
                  have := HN5.out g hv
                  omega
                · rw [e'] at e; obtain rfl := Option.some.inj e; omega
            have HN58 := Lib.hid hn58
            have HRW := Lib.hid (show X9.ownsRow b1 3 1 (.slice a5 (t + 1) c5) (t + 1) ((I.take t ++ [x]).map (Value.int .i64)) from by rw [hX9]; exact own_far HI8.out (fun g hg => by have := HN5.out g hg; omega))
            have HPW := Lib.hid (show X9.ownsRow b2 3 1 (.slice a8 (t + 1) c8) (t + 1) ((P.take t ++ [nx]).map (Value.int .i64)) from by rw [hX9, List.map_append]; exact own_far HO8.out hn8)
            have HS9 := Lib.hid (show Box5 X9 w.heap.size 28 (.slice a5 (t + 1) c5) (.slice a8 (t + 1) c8) (.int .i64 fi) (.int .i64 nx) (.int .i64 (dr + ((n : Int) - (t : Int)))) from by rw [hX9]; exact HS9.out)
            have HR9 := Lib.hid (show Box5 X9 (w.heap.size + 1) 28 (.slice none 0 0) (.slice none 0 0) (.int .i64 0) (.int .i64 0) (.int .i64 0) from by rw [hX9]; exact HR8.out.other (by omega) _ _)
            have HT9 := Lib.hid (show Touch b1 w.heap.size w X9 from by rw [hX9]; exact HT8.out.far (Nat.le_refl _))
            have HPN := Lib.hid (show ∀ g, (Value.slice a8 (t + 1) c8).ownBlock = some g → g ≠ w.heap.size ∧ g ≠ w.heap.size + 1 from fun g hg => by
              rcases HW8.out with e | ⟨g', e, hle⟩
              · rw [e] at hg; have := ob hg; omega
              · rw [e] at hg; obtain rfl := Option.some.inj hg; omega)
            rw [← hX9]
            clear hX9 q0 q1 q2 q3 q4 f1 HS7 HS8 HR7 HR8 HO7 HO8 HI8 HP7 HT7 HT8 HW8 hn8 hn58 SQ HLIT
            obtain ⟨q0, q1, q2, q3, q4⟩ := HS9.out.cells
            have f9 := HS9.out.free
            obtain ⟨e0, e1, e2, e3, e4⟩ := HR9.out.cells
            have g9 := HR9.out.free
            have hrl9 := HR9.out.lt
            have hww : IntKind.i64.wrap (nx + 1) = nx + 1 := IntWalk.i64_in _ ⟨by omega, by omega⟩
            go_wp2_with fail
            refine bodyPost_ret (by simp [results, Tryz.results69, go_sem, *]; try rfl) rfl ?_
            have hk2 := HK3.out
            obtain ⟨Y, hY⟩ : ∃ Y, Y = X9.setCell ⟨w.heap.size, 3, none⟩ (.int .i64 (nx + 1)) := ⟨_, rfl⟩
            have a1 : Y.ownsRow b1 3 1 (.slice a5 (t + 1) c5) (t + 1) ((I.take t ++ [x]).map (Value.int .i64)) := by rw [hY]; exact own_far HRW.out (fun g hg => by have := HN5.out g hg; omega)
            have a2 : Y.ownsRow b2 3 1 (.slice a8 (t + 1) c8) (t + 1) ((P.take t ++ [nx]).map (Value.int .i64)) := by rw [hY]; exact own_far HPW.out (fun g hg => (HPN.out g hg).1)
            have a3 : Touch b1 w.heap.size w Y := by rw [hY]; exact HT9.out.far (Nat.le_refl _)
            have hYs : w.heap.size + 1 < Y.heap.size := by rw [hY]; simpa [World.setCell] using hrl9
            rw [← hY]
            exact po_fin hb HN58.out (fun g hg => by have := HN5.out g hg; omega) (fun g hg => (HPN.out g hg).2) HIL.out HPL.out hk2 a1 a2 a3 (by omega) hYs _ _ _ _ _
        · obtain ⟨q0, q1, q2, q3, q4⟩ := HS3.out.cells
          have f4 := HS3.out.free
          have hdd : dr + ((n : Int) - (t : Int)) + 1 = dr + ((n : Int) - (M0 : Int)) := by have := HM.out; omega
          have hdw : IntKind.i64.wrap (dr + ((n : Int) - (t : Int)) + 1) = dr + ((n : Int) - (M0 : Int)) := by rw [hdd]; exact IntWalk.i64_in _ ⟨by omega, by omega⟩
          have hdw2 : IntKind.i64.wrap (dr + ((n : Int) - (M0 : Int))) = dr + ((n : Int) - (M0 : Int)) := IntWalk.i64_in _ ⟨by omega, by omega⟩
          go_wp2_with fail
          go_roundw
          case rel => exact ⟨M0, by omega, by go_num, Lib.hid (by rw [← hke.out]; have := HKN.out; simpa using this.symm), Lib.hid (by first | exact HS3.out.set4 _ | (rw [← hdd]; exact HS3.out.set4 _)), Lib.hid (HR3.out.other (by omega) _ _), Lib.hid (HB3.out.setCell (Nat.le_refl _) _)⟩
          case measure => have := HM.out; simp [intOf]; omega
end Go.Proofs.YtolgclajlklmaaaGreat

namespace Go.Proofs.YtolgclajlklmaaaGreat
set_option linter.unusedSimpArgs false
set_option linter.unusedVariables false
open Go.RowKit
theorem OwnS.put {w : World} {lo hi n c o : Nat} {v u : Value} {l : List Int} (h : OwnS w lo hi v n l) (hc : c < lo) : OwnS (w.setCell ⟨c, o, none⟩ u) lo hi v n l :=
  h.kept (row := some c) ⟨rfl, rfl, rfl, by simp [World.setCell], fun k hk hne => Below.heap_setCell _ _ _ _ (fun e => hne (by rw [e]))⟩ (fun j e => .inl (.inl (by have := Option.some.inj e; omega)))
theorem own_hiS {w : World} {lo hi n : Nat} {v : Value} {l : List Int} (h : OwnS w lo hi v n l) : hi ≤ w.heap.size := h.2.2.1
def OwnD (w : World) (lo hi : Nat) (u v : Value) (n : Nat) (l : List Int) : Prop := OwnS w lo hi v n l ∧ (u.ownBlock = none ∨ u.ownBlock ≠ v.ownBlock)
section
variable {w w' : World} {lo hi lo' hi' n : Nat} {u v : Value} {l : List Int}
theorem OwnD.kept {row : Option Nat} (h : OwnD w lo hi u v n l) (hg : w.grownBy w' row) (hr : ∀ j, row = some j → (j < lo ∨ hi ≤ j) ∨ v.ownBlock ≠ some j) : OwnD w' lo hi u v n l := ⟨h.1.kept hg hr, h.2⟩
theorem OwnD.below (h : OwnD w lo hi u v n l) (hb : Below w.heap.size w w') : OwnD w' lo hi u v n l := ⟨h.1.below hb, h.2⟩
theorem OwnD.wide (h : OwnD w lo hi u v n l) (h1 : lo' ≤ lo) (h2 : hi ≤ hi') (h3 : hi' ≤ w.heap.size) : OwnD w lo' hi' u v n l := ⟨h.1.wide h1 h2 h3, h.2⟩
theorem OwnD.nums (h : OwnD w lo hi u v n l) : ∃ a cap, v = .slice a n cap ∧ Nums .i64 w a n cap l := h.1.nums
theorem OwnD.put {c o : Nat} {x : Value} (h : OwnD w lo hi u v n l) (hc : c < lo) : OwnD (w.setCell ⟨c, o, none⟩ x) lo hi u v n l := ⟨h.1.put hc, h.2⟩
theorem own_hiD (h : OwnD w lo hi u v n l) : hi ≤ w.heap.size := h.1.2.2.1
end
end Go.Proofs.YtolgclajlklmaaaGreat

namespace Go.Proofs.YtolgclajlklmaaaGreat
set_option linter.unusedSimpArgs false
set_option linter.unusedVariables false
open Go.RowKit
def dqCells (v0 v1 : Value) (s : Agg.Dq) : List Value := [v0, v1, .int .i64 s.first, .int .i64 s.next, .int .i64 s.drops]
def DqRow (w : World) (base lo0 c : Nat) (v : Value) (n : Nat) (S : Nat → Agg.Dq) : Prop :=
  ∃ C : Nat → List Value, w.ownsRow base 28 5 v n (flat C n) ∧ ∀ i, i < n → ∃ v0 v1 lo hi, C i = dqCells v0 v1 (S i) ∧ OwnS w lo hi v0 (S i).items.length (S i).items ∧ OwnD w lo hi v0 v1 (S i).places.length (S i).places ∧ lo0 ≤ lo ∧ (∀ g, v.ownBlock = some g → g < lo ∨ hi ≤ g) ∧ (c < lo ∨ hi ≤ c)
theorem DqRow.below {w w' : World} {base lo0 c n : Nat} {v : Value} {S : Nat → Agg.Dq} (h : DqRow w base lo0 c v n S) (hb : Below w.heap.size w w') : DqRow w' base lo0 c v n S := by
  obtain ⟨C, h1, h2⟩ := h
  refine ⟨C, h1.kept (Below.grownNone hb none) (by cases hv : v.ownBlock <;> simp), fun i hi => ?_⟩
  obtain ⟨v0, v1, lo, hi', e, h10, h11, d⟩ := h2 i hi
  exact ⟨v0, v1, lo, hi', e, h10.below hb, h11.below hb, d⟩
theorem DqRow.lower {w : World} {base base' lo0 lo0' c n : Nat} {v : Value} {S : Nat → Agg.Dq} (h : DqRow w base lo0 c v n S) (h1 : base' ≤ base) (h2 : lo0' ≤ lo0) : DqRow w base' lo0' c v n S := by
  obtain ⟨C, g1, g2⟩ := h
  refine ⟨C, owns_lower g1 h1, fun i hi => ?_⟩
  obtain ⟨v0, v1, lo, hi', e, h10, h11, d1, d2⟩ := g2 i hi
  exact ⟨v0, v1, lo, hi', e, h10, h11, by omega, d2⟩
theorem DqRow.set {w : World} {base lo0 c o n : Nat} {u v : Value} {S : Nat → Agg.Dq} (h : DqRow w base lo0 c v n S) (hc : c < base) : DqRow (w.setCell ⟨c, o, none⟩ u) base lo0 c v n S := by
  obtain ⟨C, g1, g2⟩ := h
  have hset : w.grownBy (w.setCell ⟨c, o, none⟩ u) (some c) := ⟨rfl, rfl, rfl, by simp [World.setCell], fun k hk hne => Below.heap_setCell _ _ _ _ (fun e => hne (by rw [e]))⟩
  refine ⟨C, g1.kept hset ?_, fun i hi => ?_⟩
  · cases hv : v.ownBlock with
    | none => exact .inl rfl
    | some g => exact .inr (fun e => by have := (g1.lt g hv).1; have := Option.some.inj e; omega)
  · obtain ⟨v0, v1, lo, hi', e, h10, h11, d1, d2, d3⟩ := g2 i hi
    exact ⟨v0, v1, lo, hi', e, h10.kept hset (fun j e => .inl (by have := Option.some.inj e; omega)), h11.kept hset (fun j e => .inl (by have := Option.some.inj e; omega)), d1, d2, d3⟩
def DqsAt (w : World) (a : Option Addr) (n cap : Nat) (S : Nat → Agg.Dq) : Prop :=
  n ≤ cap ∧ cap ≤ 9223372036854775807 ∧ (n = 0 ∨ ∃ b off, a = some ⟨b, off, none⟩ ∧ b < w.heap.size ∧ ∀ i, i < n → ∃ ia ic pa pc, (w.cell? ⟨b, off + i * 5, none⟩ = some (.slice ia (S i).items.length ic) ∧ w.cell? ⟨b, off + i * 5 + 1, none⟩ = some (.slice pa (S i).places.length pc) ∧ w.cell? ⟨b, off + i * 5 + 2, none⟩ = some (.int .i64 (S i).first) ∧ w.cell? ⟨b, off + i * 5 + 3, none⟩ = some (.int .i64 (S i).next) ∧ w.cell? ⟨b, off + i * 5 + 4, none⟩ = some (.int .i64 (S i).drops)) ∧ Nums .i64 w ia (S i).items.length ic (S i).items ∧ Nums .i64 w pa (S i).places.length pc (S i).places)
theorem DqsAt.below {w w' : World} {a : Option Addr} {n cap : Nat} {S : Nat → Agg.Dq} (h : DqsAt w a n cap S) (hb : Below w.heap.size w w') : DqsAt w' a n cap S := by
  obtain ⟨h1, h2, h3⟩ := h
  refine ⟨h1, h2, ?_⟩
  rcases h3 with h3 | ⟨b, off, ha, hlt, hc⟩
  · exact .inl h3
  · refine .inr ⟨b, off, ha, Nat.lt_of_lt_of_le hlt hb.size, fun i hi => ?_⟩
    obtain ⟨ia, ic, pa, pc, ⟨q0, q1, q2, q3, q4⟩, h10, h11⟩ := hc i hi
    have k := fun o => hb.cell (p := ⟨b, o, none⟩) hlt
    exact ⟨ia, ic, pa, pc, ⟨(k _).trans q0, (k _).trans q1, (k _).trans q2, (k _).trans q3, (k _).trans q4⟩, h10.below hb, h11.below hb⟩
theorem DqRow.read {w : World} {base lo0 c n : Nat} {v : Value} {S : Nat → Agg.Dq} (h : DqRow w base lo0 c v n S) (hn : 0 < n) :
    ∃ g cap, v = .slice (some ⟨g, 0, none⟩) n cap ∧ base ≤ g ∧ g < w.heap.size ∧ n ≤ cap ∧ cap ≤ 9223372036854775807 ∧ ∀ i, i ≤ n → DqsAt w (some ⟨g, i * 5, none⟩) (n - i) (cap - i) (fun j => S (i + j)) := by
  obtain ⟨C, h1, h2⟩ := h
  obtain ⟨g, cap, rfl, hb, hg, hnc, hcm, hcell⟩ := own_cells h1 hn
  refine ⟨g, cap, rfl, hb, hg, hnc, hcm, fun i hi => ⟨by omega, by omega, .inr ⟨g, i * 5, rfl, hg, fun j hj => ?_⟩⟩⟩
  have hlen : ∀ q, q < n → (C q).length = 5 := fun q hq => by
    obtain ⟨v0, v1, lo, hi', e, -⟩ := h2 q hq
    rw [e]; rfl
  obtain ⟨v0, v1, lo, hi', e, h10, h11, -⟩ := h2 (i + j) (by omega)
  obtain ⟨ia, ic, rfl, h20⟩ := h10.nums
  obtain ⟨pa, pc, rfl, h21⟩ := h11.nums
  have hc : ∀ c, c < 5 → w.cell? ⟨g, i * 5 + j * 5 + c, none⟩ = (C (i + j))[c]? := fun c hc => by
    rw [hcell _ (by omega), show i * 5 + j * 5 + c = (i + j) * 5 + c by omega]
    exact flat_at hlen _ _ (by omega) hc
  refine ⟨ia, ic, pa, pc, ⟨?_, ?_, ?_, ?_, ?_⟩, h20, h21⟩
  · have := hc 0 (by omega); rw [e] at this; exact this
  · have := hc 1 (by omega); rw [e] at this; exact this
  · have := hc 2 (by omega); rw [e] at this; exact this
  · have := hc 3 (by omega); rw [e] at this; exact this
  · have := hc 4 (by omega); rw [e] at this; exact this
theorem DqRow.own {w : World} {base lo0 c n : Nat} {v : Value} {S : Nat → Agg.Dq} (h : DqRow w base lo0 c v n S) {i : Nat} (hi : i < n) :
    ∃ g cap v0 v1 lo, v = .slice (some ⟨g, 0, none⟩) n cap ∧ (w.cell? ⟨g, i * 5, none⟩ = some v0 ∧ w.cell? ⟨g, i * 5 + 1, none⟩ = some v1 ∧ w.cell? ⟨g, i * 5 + 2, none⟩ = some (.int .i64 (S i).first) ∧ w.cell? ⟨g, i * 5 + 3, none⟩ = some (.int .i64 (S i).next) ∧ w.cell? ⟨g, i * 5 + 4, none⟩ = some (.int .i64 (S i).drops)) ∧ lo0 ≤ lo ∧ OwnS w lo w.heap.size v0 (S i).items.length (S i).items ∧ OwnD w lo w.heap.size v0 v1 (S i).places.length (S i).places := by
  obtain ⟨C, h1, h2⟩ := h
  obtain ⟨g, cap, rfl, hb, hg, hnc, hcm, hcell⟩ := own_cells h1 (by omega)
  have hlen : ∀ q, q < n → (C q).length = 5 := fun q hq => by
    obtain ⟨v0, v1, lo, hi', e, -⟩ := h2 q hq
    rw [e]; rfl
  obtain ⟨v0, v1, lo, hi', e, h10, h11, hlo, -⟩ := h2 i hi
  have hc : ∀ c, c < 5 → w.cell? ⟨g, i * 5 + c, none⟩ = (C i)[c]? := fun c hc => by
    rw [hcell _ (by omega)]
    exact flat_at hlen _ _ (by omega) hc
  refine ⟨g, cap, v0, v1, lo, rfl, ⟨?_, ?_, ?_, ?_, ?_⟩, hlo, h10.wide (Nat.le_refl _) (own_hiS h10) (Nat.le_refl _), h11.wide (Nat.le_refl _) (own_hiD h11) (Nat.le_refl _)⟩
  · have := hc 0 (by omega); rw [e] at this; exact this
  · have := hc 1 (by omega); rw [e] at this; exact this
  · have := hc 2 (by omega); rw [e] at this; exact this
  · have := hc 3 (by omega); rw [e] at this; exact this
  · have := hc 4 (by omega); rw [e] at this; exact this
theorem DqRow.more {w w1 w2 : World} {base lo0 c n lo hi : Nat} {v v' v0 v1 : Value} {S : Nat → Agg.Dq} {C : Nat → List Value}
    (h2 : ∀ i, i < n → ∃ v0 v1 lo hi, C i = dqCells v0 v1 (S i) ∧ OwnS w lo hi v0 (S i).items.length (S i).items ∧ OwnD w lo hi v0 v1 (S i).places.length (S i).places ∧ lo0 ≤ lo ∧ (∀ g, v.ownBlock = some g → g < lo ∨ hi ≤ g) ∧ (c < lo ∨ hi ≤ c))
    (hb : Below w.heap.size w w1) (hV : OwnS w1 lo hi v0 (S n).items.length (S n).items ∧ OwnD w1 lo hi v0 v1 (S n).places.length (S n).places) (hlo : lo0 ≤ lo) (hnew : ∀ g, v.ownBlock = some g → g < lo ∨ hi ≤ g) (hcc : c < lo ∨ hi ≤ c)
    (hg : w1.grownBy w2 v.ownBlock) (hown : w2.ownsRow base 28 5 v' (n + 1) (flat C n ++ dqCells v0 v1 (S n))) (hwh : v'.ownBlock = v.ownBlock ∨ ∃ g, v'.ownBlock = some g ∧ w1.heap.size ≤ g) : DqRow w2 base lo0 c v' (n + 1) S := by
  refine ⟨fun i => if i = n then dqCells v0 v1 (S n) else C i, by rw [flat_put]; exact hown, fun i hi => ?_⟩
  have hout : ∀ {lo hi : Nat}, hi ≤ w1.heap.size → (∀ g, v.ownBlock = some g → g < lo ∨ hi ≤ g) → ∀ g, v'.ownBlock = some g → g < lo ∨ hi ≤ g := fun hle hh g hgv => by
    rcases hwh with e | ⟨g', e, hge⟩
    · exact hh g (e ▸ hgv)
    · rw [e] at hgv
      obtain rfl := Option.some.inj hgv
      exact .inr (by omega)
  by_cases hin : i = n
  · subst hin
    obtain ⟨h10, h11⟩ := hV
    exact ⟨v0, v1, lo, _, by simp, h10.kept hg (fun g e => .inl (hnew g e)), h11.kept hg (fun g e => .inl (hnew g e)), hlo, hout (own_hiS h10) hnew, hcc⟩
  · obtain ⟨v0', v1', lo', hi', e, h10, h11, d0, d, d3⟩ := h2 i (by omega)
    have h20 := h10.below hb
    have h21 := h11.below hb
    exact ⟨v0', v1', lo', hi', by simp [hin, e], h20.kept hg (fun g e => .inl (d g e)), h21.kept hg (fun g e => .inl (d g e)), d0, hout (own_hiS h20) d, d3⟩
end Go.Proofs.YtolgclajlklmaaaGreat

namespace Go.Proofs.YtolgclajlklmaaaGreat
set_option linter.unusedSimpArgs false
set_option linter.unusedVariables false
open Go.RowKit
theorem Box5.news {w : World} {c : Nat} {T : TypeId} {v0 v1 v2 v3 v4 : Value} (h : Box5 w c T v0 v1 v2 v3 v4) : ∀ j u, [v0, v1, v2, v3, v4][j]? = some u → w.cell? ((⟨c, 0, none⟩ : Addr).add j) = some u := by
  obtain ⟨h0, h1, h2, h3, h4⟩ := h.cells
  intro j u hj
  rw [Addr.add_lit, Nat.zero_add]
  match j, hj with
  | 0, hj => simp at hj; subst hj; exact h0
  | 1, hj => simp at hj; subst hj; exact h1
  | 2, hj => simp at hj; subst hj; exact h2
  | 3, hj => simp at hj; subst hj; exact h3
  | 4, hj => simp at hj; subst hj; exact h4
  | j + 5, hj => simp at hj
def DqMade (b : Bool) (s : Agg.Dq) (w : World) (e : Ending) (w' : World) : Prop :=
  ∃ v0 v1, e = .returned (.tuple #[.agg #[v0, v1, .int .i64 s.first, .int .i64 s.next, .int .i64 s.drops], .bool b]) ∧ (OwnS w' w.heap.size w'.heap.size v0 s.items.length s.items ∧ OwnD w' w.heap.size w'.heap.size v0 v1 s.places.length s.places) ∧ Below w.heap.size w w'
def DqStates (b : Bool) (n : Nat) (S : Nat → Agg.Dq) (w : World) (e : Ending) (w' : World) : Prop :=
  ∃ v, e = .returned (.tuple #[v, .bool b]) ∧ (b = true → ∃ c, DqRow w' w.heap.size w.heap.size c v n S) ∧ Below w.heap.size w w'
theorem infoDq : (Tryz.prog.info? 28).map (fun i => (i.zero, i.size, i.bytes)) = some (some (.agg #[.slice none 0 0, .slice none 0 0, .int .i64 0, .int .i64 0, .int .i64 0]), 5, 72) := by kernel_rfl
set_option maxRecDepth 8000 in
set_option maxHeartbeats 4000000 in
theorem statesOf_dq (k : Int) (f0 f1 : Nat) (c0 : ∀ args w, Sem.run Tryz.prog (Go.callFunc f0 args) w = .ok (.enter f0 args) w) (c1 : ∀ args w, Sem.run Tryz.prog (Go.callFunc f1 args) w = .ok (.enter f1 args) w)
    (kb : Bool) (S : Nat → Agg.Dq) (a : Option Addr) (n cap : Nat) (l : List (Bool × Int)) (w : World) (h : Ops w a n cap l)
    (hstart : ∀ w', Calls Tryz.prog f0 #[.int .i64 k] w' (DqMade kb (S 0) w'))
    (hstep : kb = true → Agg.opsOk l = true → ∀ j, j < n → ∀ w' ia ic pa pc, Nums .i64 w' ia (S j).items.length ic (S j).items → Nums .i64 w' pa (S j).places.length pc (S j).places →
      Calls Tryz.prog f1 #[.int .i64 k, .agg #[.slice ia (S j).items.length ic, .slice pa (S j).places.length pc, .int .i64 (S j).first, .int .i64 (S j).next, .int .i64 (S j).drops], .agg #[.bool (Agg.opAt l j).1, .int .i64 (Agg.opAt l j).2]] w' (DqMade true (S (j + 1)) w')) :
    Calls Tryz.prog 32 #[.int .i64 k, .slice a n cap, .func (.func f0) #[] #[], .func (.func f1) #[] #[]] w (DqStates (kb && Agg.opsOk l) (n + 1) S w) := by
  obtain ⟨i0, hi0, hz0, hz1, hz2⟩ := info_parts infoDq
  have hll : l.length = n := h.1
  have hnc : n ≤ cap := h.2.1
  have hcm : cap ≤ 9223372036854775807 := by have := h.2.2.1; unfold maxLen at this; omega
  have H0 := Lib.hid h
  have HLL := Lib.hid hll
  have HC0 := Lib.hid (hstart w)
  have HSTP := Lib.hid hstep
  clear h hll hstart hstep
  obtain ⟨lb, hlb⟩ : ∃ lb, lb = Agg.opsOk l := ⟨_, rfl⟩
  rw [← hlb]
  have HLB := Lib.hid hlb
  clear hlb
  go_enter Tryz.func32, Tryz.ntmps32
  go_wp2_with fail
  refine HC0.out.mono ?_
  rintro e w1 ⟨v0, v1, rfl, ⟨h10, h11⟩, hb1⟩
  obtain ⟨ia, ic, rfl, -⟩ := id h10.nums
  obtain ⟨pa, pc, rfl, -⟩ := id h11.nums
  obtain ⟨W2, hW2⟩ : ∃ W2, W2 = w1.alloc (.cells #[.slice ia (S 0).items.length ic, .slice pa (S 0).places.length pc, .int .i64 (S 0).first, .int .i64 (S 0).next, .int .i64 (S 0).drops] 28) := ⟨_, rfl⟩
  have hbn : Below w1.heap.size w1 W2 := by rw [hW2]; exact (Below.refl _ _).alloc (Nat.le_refl _) _
  have HX2 := Lib.hid (show Box5 W2 w1.heap.size 28 (.slice ia (S 0).items.length ic) (.slice pa (S 0).places.length pc) (.int .i64 (S 0).first) (.int .i64 (S 0).next) (.int .i64 (S 0).drops) from by rw [hW2]; exact Box5.new w1 _ _ _ _ _ _)
  have HB2 := Lib.hid (hb1.trans (hbn.mono hb1.size))
  have HV2 := Lib.hid (show OwnS W2 w.heap.size w1.heap.size (.slice ia (S 0).items.length ic) (S 0).items.length (S 0).items ∧ OwnD W2 w.heap.size w1.heap.size (.slice ia (S 0).items.length ic) (.slice pa (S 0).places.length pc) (S 0).places.length (S 0).places from ⟨h10.below hbn, h11.below hbn⟩)
  have hsv1 : w.heap.size ≤ w1.heap.size := hb1.size
  clear hb1 hbn h10 h11
  go_upto_region 2 with (fail)
  rw [← hW2]
  clear hW2
  obtain ⟨sv, hsv⟩ : ∃ sv, sv = w1.heap.size := ⟨_, rfl⟩
  rw [← hsv] at HX2 HV2 hsv1 ⊢
  clear hsv
  cases kb
  · go_wp2
    go_returns
    exact ⟨_, rfl, (fun h => by simp at h), HB2.out⟩
  · go_wp2_with fail
    refine (opsValid_any a n cap l _ (H0.out.below HB2.out)).mono ?_
    rintro e w3 ⟨rfl, hb3⟩
    rw [← HLB.out]
    have HX3 := Lib.hid (HX2.out.call hb3)
    have HB3 := Lib.hid (HB2.out.trans (hb3.mono HB2.out.size))
    have HV3 := Lib.hid (show OwnS w3 w.heap.size sv (.slice ia (S 0).items.length ic) (S 0).items.length (S 0).items ∧ OwnD w3 w.heap.size sv (.slice ia (S 0).items.length ic) (.slice pa (S 0).places.length pc) (S 0).places.length (S 0).places from by obtain ⟨h10, h11⟩ := HV2.out; exact ⟨h10.below hb3, h11.below hb3⟩)
    clear hb3 HX2 HB2 HV2 HC0
    cases lb
    · go_wp2
      go_returns
      exact ⟨_, rfl, (fun h => by simp at h), HB3.out⟩
    · have hops := HLB.out.symm
      have HSTJ := Lib.hid (HSTP.out (by first | rfl | trivial) hops)
      clear HSTP
      have hn2 : n ≤ 200 := by
        simp only [Agg.opsOk, Bool.and_eq_true, decide_eq_true_eq] at hops
        have := hops.1.1
        have := HLL.out
        omega
      have hlx := HX3.out.lt
      obtain ⟨q0, q1, q2, q3, q4⟩ := HX3.out.cells
      obtain ⟨W4, hW4⟩ : ∃ W4, W4 = w3.alloc (.cells #[.slice ia (S 0).items.length ic, .slice pa (S 0).places.length pc, .int .i64 (S 0).first, .int .i64 (S 0).next, .int .i64 (S 0).drops] 28) := ⟨_, rfl⟩
      have hbn : Below w3.heap.size w3 W4 := by rw [hW4]; exact (Below.refl _ _).alloc (Nat.le_refl _) _
      have HX4 := Lib.hid (HX3.out.call hbn)
      have HB4 := Lib.hid (HB3.out.trans (hbn.mono HB3.out.size))
      have HS4 := Lib.hid (show DqRow W4 (sv + 1) w.heap.size sv (.slice (some ⟨w3.heap.size, 0, none⟩) 1 1) 1 S ∧ (∃ lo hi, OwnS W4 lo hi (.slice ia (S 0).items.length ic) (S 0).items.length (S 0).items ∧ OwnD W4 lo hi (.slice ia (S 0).items.length ic) (.slice pa (S 0).places.length pc) (S 0).places.length (S 0).places) from by
        have hVV : OwnS W4 w.heap.size sv (.slice ia (S 0).items.length ic) (S 0).items.length (S 0).items ∧ OwnD W4 w.heap.size sv (.slice ia (S 0).items.length ic) (.slice pa (S 0).places.length pc) (S 0).places.length (S 0).places := by obtain ⟨h10, h11⟩ := HV3.out; exact ⟨h10.below hbn, h11.below hbn⟩
        have hgg : ∀ g, (Value.slice (some ⟨w3.heap.size, 0, none⟩) 1 1).ownBlock = some g → g < w.heap.size ∨ sv ≤ g := fun g hg => by
          simp only [Value.ownBlock, Option.some.injEq] at hg
          exact .inr (by omega)
        refine ⟨⟨fun _ => dqCells (.slice ia (S 0).items.length ic) (.slice pa (S 0).places.length pc) (S 0), ?_, fun i hi => ?_⟩, w.heap.size, sv, hVV⟩
        · rw [hW4]
          have := own_lit (w := w3) (base := sv + 1) (n := 1) (size := 5) (e := 28) #[.slice ia (S 0).items.length ic, .slice pa (S 0).places.length pc, .int .i64 (S 0).first, .int .i64 (S 0).next, .int .i64 (S 0).drops] (by omega) (by simp [maxLen]) (by simp)
          simpa [flat, dqCells] using this
        · obtain rfl : i = 0 := by omega
          obtain ⟨h10, h11⟩ := hVV
          exact ⟨_, _, w.heap.size, sv, rfl, h10, h11, Nat.le_refl _, hgg, .inr (Nat.le_refl _)⟩)
      clear hbn HX3 HB3 HV3 hops
      go_upto_region 5 with (fail)
      rw [← hW4]
      obtain ⟨rv, hrv⟩ : ∃ rv, rv = Value.slice (some ⟨w3.heap.size, 0, none⟩) 1 1 := ⟨_, rfl⟩
      rw [← hrv] at HS4 ⊢
      clear hW4 hrv q0 q1 q2 q3 q4
      go_wp2_with fail
      go_loopw [12, 32] (fun ov i wr => ∃ (j lo hi : Nat) (ia : Option Addr) (ic : Nat) (pa : Option Addr) (pc : Nat), j ≤ n ∧ i = .int .i64 j ∧ Hid (DqRow wr (sv + 1) w.heap.size sv ov (j + 1) S) ∧ Hid (Box5 wr sv 28 (.slice ia (S j).items.length ic) (.slice pa (S j).places.length pc) (.int .i64 (S j).first) (.int .i64 (S j).next) (.int .i64 (S j).drops)) ∧ Hid (OwnS wr lo hi (.slice ia (S j).items.length ic) (S j).items.length (S j).items ∧ OwnD wr lo hi (.slice ia (S j).items.length ic) (.slice pa (S j).places.length pc) (S j).places.length (S j).places) ∧ Hid (Below w.heap.size w wr)) (fun _ i _ => n - (intOf i).toNat)
      case atStart =>
        obtain ⟨hs4, lo4, hi4, hV4⟩ := HS4.out
        exact ⟨0, lo4, hi4, ia, ic, pa, pc, Nat.zero_le _, rfl, Lib.hid hs4, HX4, Lib.hid hV4, HB4⟩
      case round =>
        clear HX4 HB4 HS4
        obtain ⟨j, lo, hi, gia, gic, gpa, gpc, hj, rfl, ho, hx, hrows, hw⟩ := hrel
        have hwr := hw.out.size
        have hxl := hx.out.lt
        by_cases hlt : j < n
        · rcases H0.out.2.2.2 with h4 | ⟨b, off, rfl, hbl, hcs⟩
          · omega
          · have hc0 := (hcs j hlt).1
            have hd0 := (hcs j hlt).2
            clear hcs
            obtain ⟨h10, h11⟩ := hrows.out
            have r0 : Nums .i64 wr gia (S j).items.length gic (S j).items := by
              obtain ⟨a1, b1, e1, hX⟩ := h10.nums
              simp only [Value.slice.injEq, true_and] at e1
              obtain ⟨rfl, rfl⟩ := e1
              exact hX
            have r1 : Nums .i64 wr gpa (S j).places.length gpc (S j).places := by
              obtain ⟨a1, b1, e1, hX⟩ := h11.nums
              simp only [Value.slice.injEq, true_and] at e1
              obtain ⟨rfl, rfl⟩ := e1
              exact hX
            have hst := HSTJ.out j hlt
            have hopat : Agg.opAt l j = l[j]?.getD (false, 0) := rfl
            obtain ⟨⟨p, x⟩, hpx⟩ : ∃ o, o = Agg.opAt l j := ⟨_, rfl⟩
            rw [← hopat, ← hpx] at hc0 hd0
            rw [← hpx] at hst
            obtain ⟨S1, hS1⟩ : ∃ S1, S1 = S (j + 1) := ⟨_, rfl⟩
            rw [← hS1] at hst
            obtain ⟨S0, hS0⟩ : ∃ S0, S0 = S j := ⟨_, rfl⟩
            rw [← hS0] at hst r0 r1 hx hrows
            have HST := Lib.hid hst
            have HS1 := Lib.hid hS1
            have hk0 : (0 : Int) ≤ (j : Int) := Int.natCast_nonneg _
            have hkn : (j : Int) < (n : Int) := by omega
            have hck := (hw.out.cell (p := ⟨b, off + j * 2, none⟩) hbl).trans hc0
            have hcl := (hw.out.cell (p := ⟨b, off + j * 2 + 1, none⟩) hbl).trans hd0
            obtain ⟨W5, hW5⟩ : ∃ W5, W5 = wr.alloc (.cells #[.bool p, .int .i64 x] 76) := ⟨_, rfl⟩
            have hbn : Below wr.heap.size wr W5 := by rw [hW5]; exact (Below.refl _ _).alloc (Nat.le_refl _) _
            have hnew : W5.heap[wr.heap.size]? = some (.cells #[.bool p, .int .i64 x] 76 (0, 0)) := by rw [hW5]; exact heap_alloc_new wr _
            have p0 : W5.cell? ⟨wr.heap.size, 0, none⟩ = some (.bool p) := by simp [World.cell?, hnew]
            have p1 : W5.cell? ⟨wr.heap.size, 1, none⟩ = some (.int .i64 x) := by simp [World.cell?, hnew]
            have HX5 := Lib.hid (hx.out.call hbn)
            have HO5 := Lib.hid (ho.out.below hbn)
            have HF5 := Lib.hid (show Nums .i64 W5 gia S0.items.length gic S0.items ∧ Nums .i64 W5 gpa S0.places.length gpc S0.places from ⟨r0.below hbn, r1.below hbn⟩)
            have HB5 := Lib.hid (hw.out.trans (hbn.mono hwr))
            have hs5 : wr.heap.size ≤ W5.heap.size := hbn.size
            have HLT := Lib.hid (show ∀ g, u12.ownBlock = some g → sv < g ∧ g < W5.heap.size from fun g hg => by
              obtain ⟨C, g1, -⟩ := ho.out
              have := g1.lt g hg
              omega)
            clear hbn hnew hst hopat hpx hc0 hd0 hS0 hS1 r0 r1 h10 h11 hrows
            go_upto_region 8 with (fail)
            rw [← hW5]
            clear hW5
            obtain ⟨q0, q1, q2, q3, q4⟩ := HX5.out.cells
            go_wp2_with fail
            refine (HST.out _ _ _ _ _ HF5.out.1 HF5.out.2).mono ?_
            rintro e w6 ⟨v0, v1, rfl, ⟨h10, h11⟩, hb6⟩
            obtain ⟨nia, nic, rfl, -⟩ := id h10.nums
            obtain ⟨npa, npc, rfl, -⟩ := id h11.nums
            have HX6 := Lib.hid (HX5.out.call hb6)
            have HO6 := Lib.hid (HO5.out.below hb6)
            have HB6 := Lib.hid (HB5.out.trans (hb6.mono HB5.out.size))
            have hs6 : W5.heap.size ≤ w6.heap.size := hb6.size
            clear hb6 q0 q1 q2 q3 q4 p0 p1 HX5 HO5 HB5 HF5
            obtain ⟨X6, hX6⟩ : ∃ X6, X6 = (((((w6.setCell ⟨sv, 0, none⟩ (.slice nia S1.items.length nic)).setCell ⟨sv, 1, none⟩ (.slice npa S1.places.length npc)).setCell ⟨sv, 2, none⟩ (.int .i64 S1.first)).setCell ⟨sv, 3, none⟩ (.int .i64 S1.next)).setCell ⟨sv, 4, none⟩ (.int .i64 S1.drops)) := ⟨_, rfl⟩
            have hsz : w6.heap.size ≤ X6.heap.size := by rw [hX6]; simp [World.setCell]
            have hwr5 : sv < W5.heap.size := by omega
            have HX7 := Lib.hid (show Box5 X6 sv 28 (.slice nia S1.items.length nic) (.slice npa S1.places.length npc) (.int .i64 S1.first) (.int .i64 S1.next) (.int .i64 S1.drops) from by rw [hX6]; exact (((((HX6.out.set0 _).set1 _).set2 _).set3 _).set4 _))
            have HO7 := Lib.hid (show DqRow X6 (sv + 1) w.heap.size sv u12 (j + 1) S from by
              have hc : sv < sv + 1 := Nat.lt_succ_self _
              rw [hX6]
              exact (((((HO6.out.set hc).set hc).set hc).set hc).set hc))
            have HB7 := Lib.hid (show Below w.heap.size w X6 from by
              rw [hX6]
              exact (((((HB6.out.setCell hsv1 _).setCell hsv1 _).setCell hsv1 _).setCell hsv1 _).setCell hsv1 _))
            have HV7 := Lib.hid (show OwnS X6 W5.heap.size w6.heap.size (.slice nia S1.items.length nic) S1.items.length S1.items ∧ OwnD X6 W5.heap.size w6.heap.size (.slice nia S1.items.length nic) (.slice npa S1.places.length npc) S1.places.length S1.places from by
              have hc : sv < W5.heap.size := hwr5
              rw [hX6]
              exact ⟨(((((h10.put hc).put hc).put hc).put hc).put hc), (((((h11.put hc).put hc).put hc).put hc).put hc)⟩)
            clear h10 h11 HO6 HB6
            obtain ⟨q0, q1, q2, q3, q4⟩ := HX6.out.cells
            have q9 := HX6.out.free
            go_upto_region 9 with (fail)
            rw [← hX6]
            clear hX6 q0 q1 q2 q3 q4 q9 HX6
            obtain ⟨C, hown7, hst7⟩ := HO7.out
            have HOWN7 := Lib.hid hown7
            have HST7 := Lib.hid hst7
            clear hown7 hst7 HO7
            have hsz7 : sv < X6.heap.size := by omega
            obtain ⟨q0, q1, q2, q3, q4⟩ := HX7.out.cells
            go_wp2_with (
              at_builtin
              go_must (refine wpList_append_where rfl (.tmp 44) (.tmp 46) 64 rfl (sv + 1) 28 i0 (.agg #[.slice none 0 0, .slice none 0 0, .int .i64 0, .int .i64 0, .int .i64 0]) 5 72 Tryz.underlying64 hi0 hz0 hz1 hz2 rfl (by decide) _ _ _ rfl (HOWN7.out.alloc _) ⟨X6.heap.size, 0, none⟩ 1 1 [.slice nia S1.items.length nic, .slice npa S1.places.length npc, .int .i64 S1.first, .int .i64 S1.next, .int .i64 S1.drops] rfl rfl (Box5.news (Box5.new X6 _ _ _ _ _ _)) (fun u hu => by simp only [List.mem_cons, List.not_mem_nil, or_false] at hu; rcases hu with rfl | rfl | rfl | rfl | rfl <;> rfl) (by unfold maxLen; omega) (by omega) (by simp; omega) ?_)
              intro v9 w9 hown9 hgrow9 hwh9
              have hba : Below X6.heap.size X6 (X6.alloc (.cells #[.slice nia S1.items.length nic, .slice npa S1.places.length npc, .int .i64 S1.first, .int .i64 S1.next, .int .i64 S1.drops] 28)) := (Below.refl _ _).alloc (Nat.le_refl _) _
              have HR9 := Lib.hid (show DqRow w9 (sv + 1) w.heap.size sv v9 (j + 1 + 1) S from by
                have hh := HS1.out
                refine DqRow.more (lo := W5.heap.size) (hi := w6.heap.size) (v0 := .slice nia S1.items.length nic) (v1 := .slice npa S1.places.length npc) HST7.out hba ?_ ?_ ?_ (.inl hwr5) hgrow9 ?_ ?_
                · rw [← hh]
                  obtain ⟨h10, h11⟩ := HV7.out
                  exact ⟨h10.below hba, h11.below hba⟩
                · omega
                · exact fun g hg => .inl (HLT.out g hg).2
                · rw [← hh]; exact hown9
                · exact hwh9)
              have HX9 := Lib.hid ((HX7.out.call hba).grown hgrow9 (fun e => by have := (HLT.out _ e).1; omega))
              have HV9 := Lib.hid (show OwnS w9 W5.heap.size w6.heap.size (.slice nia S1.items.length nic) S1.items.length S1.items ∧ OwnD w9 W5.heap.size w6.heap.size (.slice nia S1.items.length nic) (.slice npa S1.places.length npc) S1.places.length S1.places from by
                obtain ⟨h10, h11⟩ := HV7.out
                exact ⟨(h10.below hba).kept hgrow9 (fun g hg => .inl (.inl (HLT.out g hg).2)), (h11.below hba).kept hgrow9 (fun g hg => .inl (.inl (HLT.out g hg).2))⟩)
              have HB9 := Lib.hid ((HB7.out.trans (hba.mono HB7.out.size)).grown hgrow9 (by have := hba.size; omega) (fun g hg => by have := (HLT.out g hg).1; omega))
              clear hown9 hgrow9 hwh9 hba)
            go_roundw
            case rel =>
              have hh := HS1.out
              refine ⟨j + 1, W5.heap.size, w6.heap.size, nia, nic, npa, npc, by omega, by go_num, HR9, ?_, ?_, HB9⟩
              · rw [← hh]; exact HX9
              · rw [← hh]; exact HV9
            case measure => simp [intOf]; omega
        · obtain rfl : j = n := by omega
          have hlt' : ¬ (j : Int) < (j : Int) := by omega
          go_wp2
          go_returns
          exact ⟨_, rfl, fun _ => ⟨sv, ho.out.lower (by omega) (Nat.le_refl _)⟩, hw.out⟩
end Go.Proofs.YtolgclajlklmaaaGreat
