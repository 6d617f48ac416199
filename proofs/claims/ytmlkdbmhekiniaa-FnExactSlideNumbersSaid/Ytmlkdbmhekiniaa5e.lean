/-
  Rows of a list, one some elements behind the other: collected, and their numbers.
-/
import Derived.Test.Ytmlkdbmhekiniaa2n
import Derived.Deep.RegionHeld3
namespace Go.Proofs.Ytmlkdbmhekiniaa
set_option linter.unusedSimpArgs false
set_option linter.unusedVariables false
open Go.RowKit
theorem Nums.part {k : IntKind} {w : World} {b off n cap : Nat} {l : List Int} (h : Nums k w (some ⟨b, off, none⟩) n cap l) {i s : Nat} (hi : i + s ≤ n) : Nums k w (some ⟨b, off + i, none⟩) s (cap - i) ((l.drop i).take s) := by
  obtain ⟨h1, h2, h3, h4⟩ := h
  refine ⟨by simp; omega, by omega, by omega, ?_⟩
  rcases h4 with h4 | ⟨b', off', ha, hb, hc⟩
  · exact .inl (by omega)
  · simp only [Option.some.injEq, Addr.mk.injEq, and_true] at ha
    obtain ⟨rfl, rfl⟩ := ha
    refine .inr ⟨b, off + i, rfl, hb, fun j hj => ?_⟩
    rw [Nat.add_assoc, hc (i + j) (by omega), List.getElem?_take, if_pos hj, List.getElem?_drop]
theorem part_ok {l : List Int} (h : Agg.itemsOk l = true) (i s : Nat) : Agg.itemsOk ((l.drop i).take s) = true := Agg.items_take (Agg.items_drop h i) s
/-- A row of numbers of the call's own, and whether there is one. -/
def RowOut (l : List Int) (b : Bool) (w : World) (e : Ending) (w' : World) : Prop :=
  ∃ (v : Value) (n : Nat), e = .returned (.tuple #[v, .bool b]) ∧ OwnR w' w.heap.size w'.heap.size v n l ∧ Below w.heap.size w w'
theorem RowOut.none_ {w w' : World} (h : Below w.heap.size w w') : RowOut [] false w (.returned (.tuple #[.slice none 0 0, .bool false])) w' :=
  ⟨_, 0, rfl, OwnR.made (World.ownsRow_nil _ _ _ _) h.size, h⟩
/-- How many rows of s elements of n there are that begin h elements apart. -/
def Agg.rowsN (n s h : Nat) : Nat := if n < s then 0 else (n - s) / h + 1
theorem Agg.rowsN_lt {n s h j : Nat} (hh : 1 ≤ h) : j < Agg.rowsN n s h ↔ s + j * h ≤ n := by
  unfold Agg.rowsN
  split
  · constructor
    · intro h2; omega
    · intro h2; have := Nat.zero_le (j * h); omega
  · have := Nat.le_div_iff_mul_le (x := j) (y := n - s) (k := h) (by omega)
    constructor
    · intro h2; have := this.1 (by omega); omega
    · intro h2; have := this.2 (by omega); omega
theorem Agg.rowsN_le {n s h : Nat} (hs : 1 ≤ s) : Agg.rowsN n s h ≤ n := by
  unfold Agg.rowsN
  split
  · omega
  · have := Nat.div_le_self (n - s) h; omega
theorem Agg.rowsN_one {n s : Nat} (hs : 1 ≤ s) : Agg.rowsN n s 1 = n + 1 - s := by
  unfold Agg.rowsN
  split <;> (try rw [Nat.div_one]) <;> omega
/-- The numbers of n rows. -/
def Agg.nums (k : Int) (f : Nat → List Int) (n : Nat) : List Int := (List.range n).map fun i => Agg.number k (f i)
theorem Agg.nums_len (k : Int) (f : Nat → List Int) (n : Nat) : (Agg.nums k f n).length = n := by simp [Agg.nums]
theorem Agg.nums_step (k : Int) (f : Nat → List Int) (n j : Nat) (h : j < n) : (Agg.nums k f n).take (j + 1) = (Agg.nums k f n).take j ++ [Agg.number k (f j)] := by
  rw [List.take_succ_eq_append_getElem (by rw [Agg.nums_len]; exact h)]
  simp [Agg.nums]
/-- The numbers of the rows of s items that begin h items apart. -/
def Agg.hops (k : Int) (l : List Int) (s h : Nat) : List Int := Agg.nums k (fun j => (l.drop (j * h)).take s) (Agg.rowsN l.length s h)
theorem Agg.slides_hops (k : Int) (l : List Int) {s : Nat} (hs : 1 ≤ s) : Agg.slides k l s = Agg.hops k l s 1 := by
  simp [Agg.slides, Agg.hops, Agg.nums, Agg.rowsN_one hs]
/-- A slice of slices of numbers. -/
def Rows2 (w : World) (a : Option Addr) (n cap : Nat) (f : Nat → List Int) : Prop :=
  n ≤ cap ∧ cap ≤ 9223372036854775807 ∧ (n = 0 ∨ ∃ b off, a = some ⟨b, off, none⟩ ∧ b < w.heap.size ∧ ∀ i, i < n → ∃ a' m c, w.cell? ⟨b, off + i, none⟩ = some (.slice a' m c) ∧ Nums .i64 w a' m c (f i))
theorem Rows2.below {w w' : World} {a : Option Addr} {n cap : Nat} {f : Nat → List Int} (h : Rows2 w a n cap f) (hb : Below w.heap.size w w') : Rows2 w' a n cap f := by
  obtain ⟨h1, h2, h3⟩ := h
  refine ⟨h1, h2, ?_⟩
  rcases h3 with h3 | ⟨b, off, ha, hlt, hc⟩
  · exact .inl h3
  · refine .inr ⟨b, off, ha, Nat.lt_of_lt_of_le hlt hb.size, fun i hi => ?_⟩
    obtain ⟨a', m, c, e, hN⟩ := hc i hi
    exact ⟨a', m, c, (hb.cell (p := ⟨b, off + i, none⟩) hlt).trans e, hN.below hb⟩
theorem Rows2.zero (w : World) (a : Option Addr) (cap : Nat) (f : Nat → List Int) (h : cap ≤ 9223372036854775807) : Rows2 w a 0 cap f := ⟨Nat.zero_le _, h, .inl rfl⟩
/-- Slices of numbers in a row of the call's own. -/
def RowsMade (f : Nat → List Int) (n : Nat) (w : World) (e : Ending) (w' : World) : Prop :=
  ∃ (a : Option Addr) (cap : Nat), e = .returned (.slice a n cap) ∧ Rows2 w' a n cap f ∧ Below w.heap.size w w'
theorem infoWin5 : (Try.prog.info? 22).map (fun i => (i.zero, i.size, i.bytes)) = some (some (.slice none 0 0), 1, 24) := by kernel_rfl
theorem RowsMade.of {f : Nat → List Int} {n : Nat} {w w' : World} {v : Value} {cs : List Value} (h : w'.ownsRow w.heap.size 22 1 v n cs) (hc : ∀ j, j < n → ∃ a m c, cs[j]? = some (.slice a m c) ∧ Nums .i64 w' a m c (f j)) (hb : Below w.heap.size w w') : RowsMade f n w (.returned v) w' := by
  rcases h.2 with ⟨rfl, rfl⟩ | ⟨g, cap, cur, rfl, hlo, hg, h1, h2, -⟩
  · exact ⟨none, 0, rfl, Rows2.zero _ _ _ _ (by omega), hb⟩
  · refine ⟨_, cap, rfl, ⟨h1, by unfold maxLen at h2; omega, .inr ⟨g, 0, rfl, (Array.getElem?_eq_some_iff.1 hg).1, fun i hi => ?_⟩⟩, hb⟩
    obtain ⟨a, m, c, e, hN⟩ := hc i hi
    exact ⟨a, m, c, by rw [Nat.zero_add]; exact (h.cellAt i (by omega)).trans e, hN⟩
set_option maxRecDepth 4000 in
set_option maxHeartbeats 1000000 in
theorem rowsOf_int (a : Option Addr) (n cap : Nat) (l : List Int) (s h : Nat) (hn : n ≤ 60) (hs1 : 1 ≤ s) (hs2 : s ≤ 60) (hh1 : 1 ≤ h) (hh2 : h ≤ 60) (w : World) (hl : Nums .i64 w a n cap l) :
    Calls Try.prog 21 #[.slice a n cap, .int .i64 s, .int .i64 h] w (RowsMade (fun j => (l.drop (j * h)).take s) (Agg.rowsN n s h) w) := by
  obtain ⟨i0, hi0, hz0, hz1, hz2⟩ := info_parts infoWin5
  have hnc : n ≤ cap := hl.2.1
  have hcm : cap ≤ 9223372036854775807 := by have := hl.2.2.1; unfold maxLen at this; omega
  have HN := Lib.hid hl; clear hl
  have hR := fun j => Agg.rowsN_lt (n := n) (s := s) (h := h) (j := j) hh1
  have hR60 := Agg.rowsN_le (n := n) (s := s) (h := h) hs1
  obtain ⟨R, hRe⟩ : ∃ R, R = Agg.rowsN n s h := ⟨_, rfl⟩
  rw [← hRe] at hR60 ⊢
  simp only [← hRe] at hR
  have HR := Lib.hid hR
  clear hR hRe
  go_enter Try.func21, Try.ntmps21
  go_wp2_with fail
  go_loopw [7, 8] (fun ov i wr => ∃ (j e : Nat) (cs : List Value), j ≤ R ∧ Hid (e = j * h) ∧ e ≤ 120 ∧ i = .int .i64 ((s : Int) + e) ∧ Hid (wr.ownsRow w.heap.size 22 1 ov j cs) ∧ Hid (∀ q, q < j → ∃ a m c, cs[q]? = some (.slice a m c) ∧ Nums .i64 w a m c ((l.drop (q * h)).take s)) ∧ Hid (Below w.heap.size w wr)) (fun _ i _ => 200 - (intOf i).toNat)
  case atStart => exact ⟨0, 0, [], Nat.zero_le _, Lib.hid (by simp), by omega, by go_num, World.ownsRow_nil _ _ _ _, fun q hq => by omega, Below.refl _ _⟩
  case round =>
    obtain ⟨j, e, cs, hj, he, he2, rfl, ho, hc, hw⟩ := hrel
    have hwr := hw.out.size
    by_cases hlt : s + e ≤ n
    · have hjR : j < R := (HR.out j).2 (by have := he.out; omega)
      rcases HN.out.2.2.2 with h0 | ⟨b, off, rfl, hbw, hcs⟩
      · omega
      · clear hcs
        have hP := Nums.part (i := e) (s := s) HN.out (by omega)
        have HP := Lib.hid hP
        clear hP
        have hj1 : (0 : Int) ≤ (s : Int) + e - s := by omega
        have hj2 : (s : Int) + e ≤ (n : Int) := by omega
        have hj3 : (s : Int) + (e : Int) - (s : Int) = (e : Int) := by omega
        have hj4 : (s : Int) + (e : Int) - (e : Int) = (s : Int) := by omega
        have hlt' : ∀ q, u7.ownBlock = some q → w.heap.size ≤ q := fun q hq => (ho.out.lt q hq).1
        go_wp2_with (at_builtin; refine wpList_append_own _ rfl (.tmp 17) (.tmp 24) 39 rfl w.heap.size 22 i0 (.slice none 0 0) 1 24 Try.underlying39 hi0 hz0 hz1 hz2 rfl (by decide) _ _ _ rfl (ho.out.alloc _) ⟨wr.heap.size, 0, none⟩ 1 1 [.slice (some ⟨b, off + e, none⟩) s (cap - e)] rfl rfl (cell_one_new _ _ _) (fun u hu => by rw [List.mem_singleton.1 hu]; rfl) (by unfold maxLen; omega) (by omega) (by simp; omega) ?_; intro v3 w3 hown3 hgrow3 hnil3; have HO3 := Lib.hid hown3; have HW3 := Lib.hid ((hw.out.alloc hwr _).grown hgrow3 (by simp; omega) hlt'); clear hown3 hgrow3 hnil3)
        go_roundw
        case rel =>
          refine ⟨j + 1, e + h, _, hjR, Lib.hid (by rw [he.out, Nat.add_mul, Nat.one_mul]), by omega, by go_num, HO3, Lib.hid ?_, HW3⟩
          intro q hq
          have hcl : cs.length = j := by have := ho.out.1; simpa using this
          by_cases hqj : q < j
          · obtain ⟨a', m, c, e1, e2⟩ := hc.out q hqj
            exact ⟨a', m, c, by rw [List.getElem?_append_left (by omega)]; exact e1, e2⟩
          · obtain rfl : q = j := by omega
            refine ⟨_, _, _, by rw [List.getElem?_append_right (by omega), hcl, Nat.sub_self]; rfl, ?_⟩
            rw [← he.out]; exact HP.out
        case measure => simp [intOf]; omega
    · obtain rfl : j = R := by
        have := (HR.out j)
        have h2 := he.out
        rcases Nat.lt_or_ge j R with h3 | h3
        · have := this.1 h3; omega
        · omega
      have hlt2 : ¬ ((s : Int) + e ≤ (n : Int)) := by omega
      go_wp2
      go_returns
      exact RowsMade.of ho.out (fun q hq => by obtain ⟨a', m, c, e1, e2⟩ := hc.out q hq; exact ⟨a', m, c, e1, e2.below hw.out⟩) hw.out
set_option maxRecDepth 4000 in
set_option maxHeartbeats 1000000 in
theorem foldNumbers_any (k : Int) (hk : Agg.isKind k = true) (a : Option Addr) (n cap : Nat) (f : Nat → List Int) (hn : n ≤ 1000) (hok : ∀ i, i < n → Agg.itemsOk (f i) = true) (w : World) (h : Rows2 w a n cap f) :
    Calls Try.prog 20 #[.int .i64 k, .slice a n cap] w (MadeRow (Agg.nums k f n) n w) := by
  obtain ⟨i0, hi0, hz0, hz1, hz2⟩ := info_parts infoInt
  have hnc := h.1
  have hcm := h.2.1
  have HN := Lib.hid h; clear h
  have HOK := Lib.hid hok; clear hok
  have hsl := Agg.nums_len k f n
  have hst := fun j => Agg.nums_step k f n j
  obtain ⟨S, hS⟩ : ∃ S, S = Agg.nums k f n := ⟨_, rfl⟩
  rw [← hS] at hsl hst ⊢
  have HSL := Lib.hid hsl
  have HST := Lib.hid hst
  clear hsl hst hS
  go_enter Try.func20, Try.ntmps20
  go_wp2_with (at_make; refine wpList_make_own _ rfl _ _ 22 rfl w.heap.size 3 i0 (.int .i64 0) 1 Try.underlying22 hi0 hz0 hz1 .i64 .i64 _ n rfl rfl rfl ?b1 ?b2 ?b3 ?_)
  case b1 => rw [hz2]; omega
  case b2 => unfold maxLen; omega
  case b3 => exact Nat.le_refl _
  intro w1 hown hgrow
  have HO := Lib.hid (show w1.ownsRow w.heap.size 3 1 (.slice (some ⟨w.heap.size, 0, none⟩) 0 n) 0 ((S.take 0).map (Value.int .i64)) from hown)
  have HB := Lib.hid ((Below.refl w.heap.size w).grown hgrow (Nat.le_refl _) (fun k hk => by simp at hk))
  clear hown hgrow
  go_wp2
  go_loopw [5, 15] (fun ov i wr => ∃ j : Nat, j ≤ n ∧ i = .int .i64 j ∧ Hid (wr.ownsRow w.heap.size 3 1 ov j ((S.take j).map (Value.int .i64))) ∧ Hid (Below w.heap.size w wr)) (fun _ i _ => n - (intOf i).toNat)
  case atStart => exact ⟨0, Nat.zero_le _, rfl, HO, HB⟩
  case round =>
    obtain ⟨j, hj, rfl, ho, hw⟩ := hrel
    clear HO HB
    have hwr := hw.out.size
    by_cases hlt : j < n
    · rcases (HN.out.below hw.out).2.2 with h0 | ⟨b, off, rfl, hbw, hcs⟩
      · omega
      · obtain ⟨a2, m, c, hcell, hN⟩ := hcs j hlt
        clear hcs
        have HNN := Lib.hid hN; clear hN
        have hst := HST.out j hlt
        have hF := fun w h => foldItems_any k a2 m c (f j) w h
        rw [Agg.aFold_of hk (HOK.out j hlt)] at hF
        obtain ⟨⟨vx, vy, vz⟩, hV⟩ : ∃ V, V = Agg.fold k (f j) := ⟨_, rfl⟩
        obtain ⟨x, hx⟩ : ∃ x, x = Agg.number k (f j) := ⟨_, rfl⟩
        have hxe : Agg.num k ⟨vx, vy, vz⟩ = x := by rw [hx, Agg.number, hV]
        have hG := fun w => numberOf_any k vx vy vz w
        rw [hxe] at hG
        rw [← hV] at hF
        rw [← hx] at hst
        have HF := Lib.hid hF
        have HG := Lib.hid hG
        have HS2 := Lib.hid hst
        clear hF hG hst hV hx hxe
        have hk0 : (0 : Int) ≤ (j : Int) := Int.natCast_nonneg _
        have hkn : (j : Int) < (n : Int) := by omega
        have hlt' : ∀ q, u5.ownBlock = some q → w.heap.size ≤ q := fun q hq => (ho.out.lt q hq).1
        go_wp2_with fail
        refine (HF.out _ HNN.out).mono ?_
        rintro e w3 ⟨rfl, hb3⟩
        have HO3 := Lib.hid ((ho.out.kept (Below.grownNone hb3 none) (by cases hv : u5.ownBlock <;> simp)).alloc (.cells #[.int .i64 vx, .int .i64 vy, .int .i64 vz] 35))
        have hs3 : w.heap.size ≤ w3.heap.size := Nat.le_trans hwr hb3.size
        have HW3 := Lib.hid ((hw.out.trans (hb3.mono hwr)).alloc hs3 (.cells #[.int .i64 vx, .int .i64 vy, .int .i64 vz] 35))
        clear hb3 hcell HF
        go_wp2_with fail
        refine (HG.out _).mono ?_
        rintro e w4 ⟨rfl, hb4⟩
        have HO4 := Lib.hid (HO3.out.kept (Below.grownNone hb4 none) (by cases hv : u5.ownBlock <;> simp))
        have HW4 := Lib.hid (HW3.out.trans (hb4.mono HW3.out.size))
        have hs4 := HW4.out.size
        clear hb4 HG HO3 HW3
        go_wp2_with (at_builtin; refine wpList_append_own _ rfl (.tmp 25) (.tmp 29) 22 rfl w.heap.size 3 i0 (.int .i64 0) 1 8 Try.underlying22 hi0 hz0 hz1 hz2 rfl (by decide) _ _ _ rfl (HO4.out.alloc _) ⟨w4.heap.size, 0, none⟩ 1 1 [.int .i64 x] rfl rfl (cell_one_new _ _ _) (ints_oneCell .i64 [x]) (by unfold maxLen; omega) (by omega) (by simp; omega) ?_; intro v' w5 hown5 hgrow5 hnil5; have HO5 := Lib.hid hown5; have HW5 := Lib.hid ((HW4.out.alloc HW4.out.size _).grown hgrow5 (by have := HW4.out.size; simp; omega) hlt'); clear hown5 hgrow5 hnil5)
        go_roundw
        case rel =>
          refine ⟨j + 1, by omega, by go_num, Lib.hid ?_, HW5⟩
          rw [HS2.out, List.map_append]
          exact HO5.out
        case measure => simp [intOf]; omega
    · obtain rfl : j = n := by omega
      have ho2 := ho.out
      rw [List.take_of_length_le (by have := HSL.out; omega)] at ho2
      have HO2 := Lib.hid ho2
      clear ho2
      go_wp2
      go_returns
      exact ⟨_, rfl, OwnR.made HO2.out hw.out.size, hw.out⟩
end Go.Proofs.Ytmlkdbmhekiniaa
