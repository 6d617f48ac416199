/-
  Rows of aggregates, collected and combined.
-/
import Derived.Test.YtfmkjpbmaogjpaaGreat5h
import Derived.Test.YtfmkjpbmaogjpaaGreat5a
import Derived.Test.YtfmkjpbmaogjpaaGreatRw
import Derived.Test.YtfmkjpbmaogjpaaGreatKi
namespace Go.Proofs.YtfmkjpbmaogjpaaGreat
set_option linter.unusedSimpArgs false
set_option linter.unusedVariables false
open Go.RowKit
theorem Vals.part {w : World} {b off n cap : Nat} {l : List Agg.V} (h : Vals w (some ⟨b, off, none⟩) n cap l) {i s : Nat} (hi : i + s ≤ n) : Vals w (some ⟨b, off + i * 3, none⟩) s (cap - i) ((l.drop i).take s) := by
  obtain ⟨h1, h2, h3, h4⟩ := h
  refine ⟨by simp; omega, by omega, by omega, ?_⟩
  rcases h4 with h4 | ⟨b', off', ha, hb, hc⟩
  · exact .inl (by omega)
  · simp only [Option.some.injEq, Addr.mk.injEq, and_true] at ha
    obtain ⟨rfl, rfl⟩ := ha
    refine .inr ⟨b, off + i * 3, rfl, hb, fun j hj => ?_⟩
    have e : ((l.drop i).take s)[j]?.getD Agg.zero = l[i + j]?.getD Agg.zero := by rw [List.getElem?_take, if_pos hj, List.getElem?_drop]
    rw [e, show off + i * 3 + j * 3 = off + (i + j) * 3 by omega]
    exact hc (i + j) (by omega)
/-- A slice of slices of aggregates. -/
def RowsV (w : World) (a : Option Addr) (n cap : Nat) (f : Nat → List Agg.V) (s : Nat) : Prop :=
  n ≤ cap ∧ cap ≤ 9223372036854775807 ∧ (n = 0 ∨ ∃ b off, a = some ⟨b, off, none⟩ ∧ b < w.heap.size ∧ ∀ i, i < n → ∃ a' c, w.cell? ⟨b, off + i, none⟩ = some (.slice a' s c) ∧ Vals w a' s c (f i))
theorem RowsV.below {w w' : World} {a : Option Addr} {n cap s : Nat} {f : Nat → List Agg.V} (h : RowsV w a n cap f s) (hb : Below w.heap.size w w') : RowsV w' a n cap f s := by
  obtain ⟨h1, h2, h3⟩ := h
  refine ⟨h1, h2, ?_⟩
  rcases h3 with h3 | ⟨b, off, ha, hlt, hc⟩
  · exact .inl h3
  · refine .inr ⟨b, off, ha, Nat.lt_of_lt_of_le hlt hb.size, fun i hi => ?_⟩
    obtain ⟨a', c, e, hN⟩ := hc i hi
    exact ⟨a', c, (hb.cell (p := ⟨b, off + i, none⟩) hlt).trans e, hN.below hb⟩
/-- Slices of aggregates in a row of the call's own. -/
def RowsVMade (f : Nat → List Agg.V) (s n : Nat) (w : World) (e : Ending) (w' : World) : Prop :=
  ∃ (a : Option Addr) (cap : Nat), e = .returned (.slice a n cap) ∧ RowsV w' a n cap f s ∧ Below w.heap.size w w'
theorem infoRowV : (Tryz.prog.info? 60).map (fun i => (i.zero, i.size, i.bytes)) = some (some (.slice none 0 0), 1, 24) := by kernel_rfl
theorem RowsVMade.of {f : Nat → List Agg.V} {s n : Nat} {w w' : World} {v : Value} {cs : List Value} (h : w'.ownsRow w.heap.size 60 1 v n cs) (hc : ∀ j, j < n → ∃ a c, cs[j]? = some (.slice a s c) ∧ Vals w' a s c (f j)) (hb : Below w.heap.size w w') : RowsVMade f s n w (.returned v) w' := by
  rcases h.2 with ⟨rfl, rfl⟩ | ⟨g, cap, cur, rfl, hlo, hg, h1, h2, -⟩
  · exact ⟨none, 0, rfl, ⟨Nat.le_refl _, by omega, .inl rfl⟩, hb⟩
  · refine ⟨_, cap, rfl, ⟨h1, by unfold maxLen at h2; omega, .inr ⟨g, 0, rfl, (Array.getElem?_eq_some_iff.1 hg).1, fun i hi => ?_⟩⟩, hb⟩
    obtain ⟨a, c, e, hN⟩ := hc i hi
    exact ⟨a, c, by rw [Nat.zero_add]; exact (h.cellAt i (by omega)).trans e, hN⟩
set_option maxRecDepth 4000 in
set_option maxHeartbeats 1000000 in
theorem rowsOf_val (a : Option Addr) (n cap : Nat) (l : List Agg.V) (s h : Nat) (hn : n ≤ 60) (hs1 : 1 ≤ s) (hs2 : s ≤ 60) (hh1 : 1 ≤ h) (hh2 : h ≤ 60) (w : World) (hl : Vals w a n cap l) :
    Calls Tryz.prog 82 #[.slice a n cap, .int .i64 s, .int .i64 h] w (RowsVMade (fun j => (l.drop (j * h)).take s) s (Agg.rowsN n s h) w) := by
  obtain ⟨i0, hi0, hz0, hz1, hz2⟩ := info_parts infoRowV
  have hnc : n ≤ cap := hl.2.1
  have hcm : cap ≤ 9223372036854775807 := by have := hl.2.2.1; unfold maxLen at this; omega
  have HN := Lib.hid hl; clear hl
  have hR := fun j => Agg.rowsN_lt (n := n) (s := s) (h := h) (j := j) hh1
  have hR60 := Agg.rowsN_le (n := n) (s := s) (h := h) hs1
  obtain ⟨R, hRe⟩ : ∃ R, R = Agg.rowsN n s h := ⟨_, rfl⟩
  rw [← hRe] at hR60 ⊢
  simp only [← hRe] at hR
  have HR := Lib.hid hR
  clear hR hRe
  go_enter Tryz.func82, Tryz.ntmps82
  go_wp2_with fail
  go_loopw [7, 8] (fun ov i wr => ∃ (j e : Nat) (cs : List Value), j ≤ R ∧ Hid (e = j * h) ∧ e ≤ 120 ∧ i = .int .i64 ((s : Int) + e) ∧ Hid (wr.ownsRow w.heap.size 60 1 ov j cs) ∧ Hid (∀ q, q < j → ∃ a c, cs[q]? = some (.slice a s c) ∧ Vals w a s c ((l.drop (q * h)).take s)) ∧ Hid (Below w.heap.size w wr)) (fun _ i _ => 200 - (intOf i).toNat)
  case atStart => exact ⟨0, 0, [], Nat.zero_le _, Lib.hid (by simp), by omega, by go_num, World.ownsRow_nil _ _ _ _, fun q hq => by omega, Below.refl _ _⟩
  case round =>
    obtain ⟨j, e, cs, hj, he, he2, rfl, ho, hc, hw⟩ := hrel
    have hwr := hw.out.size
    by_cases hlt : s + e ≤ n
    · have hjR : j < R := (HR.out j).2 (by have := he.out; omega)
      rcases HN.out.2.2.2 with h0 | ⟨b, off, rfl, hbw, hcs⟩
      · omega
      · clear hcs
        have hP := Vals.part (i := e) (s := s) HN.out (by omega)
        have HP := Lib.hid hP
        clear hP
        have hj1 : (0 : Int) ≤ (s : Int) + e - s := by omega
        have hj2 : (s : Int) + e ≤ (n : Int) := by omega
        have hj3 : (s : Int) + (e : Int) - (s : Int) = (e : Int) := by omega
        have hj4 : (s : Int) + (e : Int) - (e : Int) = (s : Int) := by omega
        have hlt' : ∀ q, u7.ownBlock = some q → w.heap.size ≤ q := fun q hq => (ho.out.lt q hq).1
        go_wp2_with (at_builtin; refine wpList_append_own _ rfl (.tmp 17) (.tmp 24) 106 rfl w.heap.size 60 i0 (.slice none 0 0) 1 24 Tryz.underlying106 hi0 hz0 hz1 hz2 rfl (by decide) _ _ _ rfl (ho.out.alloc _) ⟨wr.heap.size, 0, none⟩ 1 1 [.slice (some ⟨b, off + e * 3, none⟩) s (cap - e)] rfl rfl (cell_one_new _ _ _) (fun u hu => by rw [List.mem_singleton.1 hu]; rfl) (by unfold maxLen; omega) (by omega) (by simp; omega) ?_; intro v3 w3 hown3 hgrow3 hnil3; have HO3 := Lib.hid hown3; have HW3 := Lib.hid ((hw.out.alloc hwr _).grown hgrow3 (by simp; omega) hlt'); clear hown3 hgrow3 hnil3)
        go_roundw
        case rel =>
          refine ⟨j + 1, e + h, _, hjR, Lib.hid (by rw [he.out, Nat.add_mul, Nat.one_mul]), by omega, by go_num, HO3, Lib.hid ?_, HW3⟩
          intro q hq
          have hcl : cs.length = j := by have := ho.out.1; simpa using this
          by_cases hqj : q < j
          · obtain ⟨a', c, e1, e2⟩ := hc.out q hqj
            exact ⟨a', c, by rw [List.getElem?_append_left (by omega)]; exact e1, e2⟩
          · obtain rfl : q = j := by omega
            refine ⟨_, _, by rw [List.getElem?_append_right (by omega), hcl, Nat.sub_self]; rfl, ?_⟩
            rw [← he.out]; exact HP.out
        case measure => simp [intOf]; omega
    · obtain rfl : j = R := by
        have := (HR.out j)
        have h2 := he.out
        rcases Nat.lt_or_ge j R with h3 | h3
        · have := this.1 h3; omega
        · omega
      have hlt2 : ¬ ((s : Int) + e ≤ (n : Int)) := by omega
      go_wp2
      go_returns
      exact RowsVMade.of ho.out (fun q hq => by obtain ⟨a', c, e1, e2⟩ := hc.out q hq; exact ⟨a', c, e1, e2.below hw.out⟩) hw.out
set_option maxRecDepth 4000 in
set_option maxHeartbeats 1000000 in
theorem combineAll_any {k : Int} {T fu fl fc : Nat} (K : KindAt k T fu fl fc) (a : Option Addr) (n cap : Nat) (L : List Agg.V) (G : Nat → Agg.V) (hn : n ≤ 1000) (h0 : G 0 = Agg.unit k)
    (hG : ∀ t, t < n → Agg.ok k (G t) = true ∧ Agg.ok k (L[t]?.getD Agg.zero) = true ∧ Agg.comb k (G t) (L[t]?.getD Agg.zero) = G (t + 1)) (w : World) (hV : Vals w a n cap L) :
    Calls Tryz.prog 84 #[.iface T (.agg #[]), .slice a n cap] w fun e w' => e = .returned (.agg #[.int .i64 (G n).x, .int .i64 (G n).y, .int .i64 (G n).z]) ∧ Below w.heap.size w w' := by
  have hU := K.unit
  rw [← h0] at hU
  obtain ⟨⟨ux, uy, uz⟩, hu⟩ : ∃ u, u = G 0 := ⟨_, rfl⟩
  rw [← hu] at hU
  have HU := Lib.hid hU
  have hmu := K.mu
  have hcu := K.cu
  have hau := K.au
  have hmc := K.mc
  have hcc := K.cc
  have hac := K.ac
  have hcapm : cap ≤ 9223372036854775807 := by have := hV.2.2.1; unfold maxLen at this; omega
  have hnc := hV.2.1
  have HV := Lib.hid hV
  have HG := Lib.hid hG
  have HU0 := Lib.hid hu
  clear hU h0 hV hG hu
  go_enter Tryz.func84, Tryz.ntmps84
  go_wp2_with fail
  refine (HU.out _).mono ?_
  rintro e w1 ⟨rfl, hb1⟩
  have HR1 := Lib.hid ((Box.new w 24 0 0 0).call hb1)
  have HW1 := Lib.hid (((Below.refl w.heap.size w).alloc (Nat.le_refl _) (.cells #[.int .i64 0, .int .i64 0, .int .i64 0] 24)).trans (hb1.mono (by simp)))
  have hs1 : w.heap.size < w1.heap.size := HR1.out.lt
  clear hb1
  go_wp2_with fail
  go_loopw [12] (fun i wr => ∃ (j : Nat) (V : Agg.V), j ≤ n ∧ i = .int .i64 j ∧ Hid (V = G j) ∧ Hid (Box wr w.heap.size 24 0 0 0) ∧ Hid (Box wr w1.heap.size 24 V.x V.y V.z) ∧ Hid (Below w.heap.size w wr)) (fun i _ => n - (intOf i).toNat)
  case atStart => exact ⟨0, ⟨ux, uy, uz⟩, Nat.zero_le _, rfl, HU0, Lib.hid (HR1.out.alloc _), Lib.hid (Box.new _ _ _ _ _), Lib.hid (HW1.out.alloc HW1.out.size _)⟩
  case round =>
    obtain ⟨j, ⟨ax, ay, az⟩, hj, rfl, hval, hr, hvb, hw⟩ := hrel
    have hwr := hw.out.size
    have hvl := hvb.out.lt
    have hrl := hr.out.lt
    by_cases hlt : j < n
    · rcases (HV.out.below hw.out).2.2.2 with h4 | ⟨b, off, rfl, hbw, hcs⟩
      · omega
      · obtain ⟨o1, o2, o3⟩ := HG.out j hlt
        obtain ⟨p0, p1, p2⟩ := hcs j hlt
        obtain ⟨⟨x, y, z⟩, hx⟩ : ∃ x, x = L[j]?.getD Agg.zero := ⟨_, rfl⟩
        obtain ⟨⟨rx, ry, rz⟩, hrr⟩ : ∃ x, x = G (j + 1) := ⟨_, rfl⟩
        rw [← hval.out] at o1 o3
        rw [← hx] at o2 o3 p0 p1 p2
        have hC := fun w => K.comb ax ay az x y z w o1 o2
        rw [o3, ← hrr] at hC
        have HC := Lib.hid hC
        have HRR := Lib.hid hrr
        obtain ⟨v0, v1, v2⟩ := hvb.out.cells
        have hj0 : (0 : Int) ≤ (j : Int) := by omega
        have hjn : (j : Int) < (n : Int) := by omega
        clear hC o1 o2 o3 hx hrr hcs
        go_wp2_with fail
        refine (HC.out _).mono ?_
        rintro e w3 ⟨rfl, hb3⟩
        have HV3 := Lib.hid ((hvb.out.alloc (.cells #[.int .i64 x, .int .i64 y, .int .i64 z] 24)).call hb3)
        have HR3 := Lib.hid ((hr.out.alloc (.cells #[.int .i64 x, .int .i64 y, .int .i64 z] 24)).call hb3)
        have HW3 := Lib.hid ((hw.out.alloc hwr (.cells #[.int .i64 x, .int .i64 y, .int .i64 z] 24)).trans (hb3.mono (by simp; omega)))
        obtain ⟨q0, q1, q2⟩ := HV3.out.cells
        have f0 := HV3.out.free 0
        have f1 := HV3.out.free 1
        have f2 := HV3.out.free 2
        clear hb3 v0 v1 v2 p0 p1 p2 HC
        go_wp2_with fail
        go_roundw
        case rel => exact ⟨j + 1, ⟨rx, ry, rz⟩, by omega, by go_num, HRR, Lib.hid (((HR3.out.set_other (c := w1.heap.size) (by omega) 0 _).set_other (c := w1.heap.size) (by omega) 1 _).set_other (c := w1.heap.size) (by omega) 2 _), Lib.hid (HV3.out.set rx ry rz), Lib.hid (((HW3.out.setCell (Nat.le_of_lt hs1) _).setCell (Nat.le_of_lt hs1) _).setCell (Nat.le_of_lt hs1) _)⟩
        case measure => simp [intOf]; omega
    · obtain rfl : j = n := by omega
      obtain ⟨v0, v1, v2⟩ := hvb.out.cells
      obtain ⟨r0, r1, r2⟩ := hr.out.cells
      have f0 := hr.out.free 0
      have f1 := hr.out.free 1
      have f2 := hr.out.free 2
      go_wp2_with fail
      refine bodyPost_ret (by simp [results, Tryz.results84, go_sem, *]; try rfl) rfl ?_
      exact ⟨by rw [← hval.out], ((hw.out.setCell (Nat.le_refl _) _).setCell (Nat.le_refl _) _).setCell (Nat.le_refl _) _⟩
end Go.Proofs.YtfmkjpbmaogjpaaGreat
