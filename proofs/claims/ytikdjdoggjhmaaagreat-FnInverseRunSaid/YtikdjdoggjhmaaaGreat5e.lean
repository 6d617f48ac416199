/-
  Rows of a list, one some elements behind the other: collected, and their numbers.
-/
import Derived.Test.YtikdjdoggjhmaaaGreat2n
import Derived.Deep.RegionHeld3
namespace Go.Proofs.YtikdjdoggjhmaaaGreat
set_option linter.unusedSimpArgs false
set_option linter.unusedVariables false
open Go.RowKit
theorem Nums.part {k : IntKind} {w : World} {b off n cap : Nat} {l : List Int} (h : Nums k w (some ⟨b, off, none⟩) n cap l) {i s : Nat} (hi : i + s ≤ n) : Nums k w (some ⟨b, off + i, none⟩) s (cap - i) ((l.drop i).take s) := by
  obtain ⟨h1, h2, h3, h4⟩ := h
  refine ⟨by simp; omega, by omega, by omega, ?_⟩
  rcases h4 with h4 | ⟨b', off', ha, hb, hc⟩
  · exact .inl (by omega)
  · simp only [Option.some.injEq, Addr.mk.injEq, and_true] at ha
    obtain ⟨rfl, rfl⟩ := ha
    refine .inr ⟨b, off + i, rfl, hb, fun j hj => ?_⟩
    rw [Nat.add_assoc, hc (i + j) (by omega), List.getElem?_take, if_pos hj, List.getElem?_drop]
theorem part_ok {l : List Int} (h : Agg.itemsOk l = true) (i s : Nat) : Agg.itemsOk ((l.drop i).take s) = true := Agg.items_take (Agg.items_drop h i) s
/-- A row of numbers of the call's own, and whether there is one. -/
def RowOut (l : List Int) (b : Bool) (w : World) (e : Ending) (w' : World) : Prop :=
  ∃ (v : Value) (n : Nat), e = .returned (.tuple #[v, .bool b]) ∧ OwnR w' w.heap.size w'.heap.size v n l ∧ Below w.heap.size w w'
theorem RowOut.none_ {w w' : World} (h : Below w.heap.size w w') : RowOut [] false w (.returned (.tuple #[.slice none 0 0, .bool false])) w' :=
  ⟨_, 0, rfl, OwnR.made (World.ownsRow_nil _ _ _ _) h.size, h⟩
/-- How many rows of s elements of n there are that begin h elements apart. -/
def Agg.rowsN (n s h : Nat) : Nat := if n < s then 0 else (n - s) / h + 1
theorem Agg.rowsN_lt {n s h j : Nat} (hh : 1 ≤ h) : j < Agg.rowsN n s h ↔ s + j * h ≤ n := by
  unfold Agg.rowsN
  split
  · constructor
    · intro h2; omega
    · intro h2; have := Nat.zero_le (j * h); omega
  · have := Nat.le_div_iff_mul_le (x := j) (y := n - s) (k := h) (by omega)
    constructor
    · intro h2; have := this.1 (by omega); omega
    · intro h2; have := this.2 (by omega); omega
theorem Agg.rowsN_le {n s h : Nat} (hs : 1 ≤ s) : Agg.rowsN n s h ≤ n := by
  unfold Agg.rowsN
  split
  · omega
  · have := Nat.div_le_self (n - s) h; omega
theorem Agg.rowsN_one {n s : Nat} (hs : 1 ≤ s) : Agg.rowsN n s 1 = n + 1 - s := by
  unfold Agg.rowsN
  split <;> (try rw [Nat.div_one]) <;> omega
/-- The numbers of n rows. -/
def Agg.nums (k : Int) (f : Nat → List Int) (n : Nat) : List Int := (List.range n).map fun i => Agg.number k (f i)
theorem Agg.nums_len (k : Int) (f : Nat → List Int) (n : Nat) : (Agg.nums k f n).length = n := by simp [Agg.nums]
theorem Agg.nums_step (k : Int) (f : Nat → List Int) (n j : Nat) (h : j < n) : (Agg.nums k f n).take (j + 1) = (Agg.nums k f n).take j ++ [Agg.number k (f j)] := by
  rw [List.take_succ_eq_append_getElem (by rw [Agg.nums_len]; exact h)]
  simp [Agg.nums]
/-- The numbers of the rows of s items that begin h items apart. -/
def Agg.hops (k : Int) (l : List Int) (s h : Nat) : List Int := Agg.nums k (fun j => (l.drop (j * h)).take s) (Agg.rowsN l.length s h)
theorem Agg.slides_hops (k : Int) (l : List Int) {s : Nat} (hs : 1 ≤ s) : Agg.slides k l s = Agg.hops k l s 1 := by
  simp [Agg.slides, Agg.hops, Agg.nums, Agg.rowsN_one hs]
/-- A slice of slices of numbers. -/
def Rows2 (w : World) (a : Option Addr) (n cap : Nat) (f : Nat → List Int) : Prop :=
  n ≤ cap ∧ cap ≤ 9223372036854775807 ∧ (n = 0 ∨ ∃ b off, a = some ⟨b, off, none⟩ ∧ b < w.heap.size ∧ ∀ i, i < n → ∃ a' m c, w.cell? ⟨b, off + i, none⟩ = some (.slice a' m c) ∧ Nums .i64 w a' m c (f i))
theorem Rows2.below {w w' : World} {a : Option Addr} {n cap : Nat} {f : Nat → List Int} (h : Rows2 w a n cap f) (hb : Below w.heap.size w w') : Rows2 w' a n cap f := by
  obtain ⟨h1, h2, h3⟩ := h
  refine ⟨h1, h2, ?_⟩
  rcases h3 with h3 | ⟨b, off, ha, hlt, hc⟩
  · exact .inl h3
  · refine .inr ⟨b, off, ha, Nat.lt_of_lt_of_le hlt hb.size, fun i hi => ?_⟩
    obtain ⟨a', m, c, e, hN⟩ := hc i hi
    exact ⟨a', m, c, (hb.cell (p := ⟨b, off + i, none⟩) hlt).trans e, hN.below hb⟩
theorem Rows2.zero (w : World) (a : Option Addr) (cap : Nat) (f : Nat → List Int) (h : cap ≤ 9223372036854775807) : Rows2 w a 0 cap f := ⟨Nat.zero_le _, h, .inl rfl⟩
/-- Slices of numbers in a row of the call's own. -/
def RowsMade (f : Nat → List Int) (n : Nat) (w : World) (e : Ending) (w' : World) : Prop :=
  ∃ (a : Option Addr) (cap : Nat), e = .returned (.slice a n cap) ∧ Rows2 w' a n cap f ∧ Below w.heap.size w w'
theorem infoWin5 : (Tryz.prog.info? 27).map (fun i => (i.zero, i.size, i.bytes)) = some (some (.slice none 0 0), 1, 24) := by kernel_rfl
theorem RowsMade.of {f : Nat → List Int} {n : Nat} {w w' : World} {v : Value} {cs : List Value} (h : w'.ownsRow w.heap.size 27 1 v n cs) (hc : ∀ j, j < n → ∃ a m c, cs[j]? = some (.slice a m c) ∧ Nums .i64 w' a m c (f j)) (hb : Below w.heap.size w w') : RowsMade f n w (.returned v) w' := by
  rcases h.2 with ⟨rfl, rfl⟩ | ⟨g, cap, cur, rfl, hlo, hg, h1, h2, -⟩
  · exact ⟨none, 0, rfl, Rows2.zero _ _ _ _ (by omega), hb⟩
  · refine ⟨_, cap, rfl, ⟨h1, by unfold maxLen at h2; omega, .inr ⟨g, 0, rfl, (Array.getElem?_eq_some_iff.1 hg).1, fun i hi => ?_⟩⟩, hb⟩
    obtain ⟨a, m, c, e, hN⟩ := hc i hi
    exact ⟨a, m, c, by rw [Nat.zero_add]; exact (h.cellAt i (by omega)).trans e, hN⟩
set_option maxRecDepth 4000 in
set_option maxHeartbeats 1000000 in
theorem foldNumbers_any (k : Int) (hk : Agg.isKind k = true) (a : Option Addr) (n cap : Nat) (f : Nat → List Int) (hn : n ≤ 1000) (hok : ∀ i, i < n → Agg.itemsOk (f i) = true) (w : World) (h : Rows2 w a n cap f) :
    Calls Tryz.prog 64 #[.int .i64 k, .slice a n cap] w (MadeRow (Agg.nums k f n) n w) := by
  obtain ⟨i0, hi0, hz0, hz1, hz2⟩ := info_parts infoInt
  have hnc := h.1
  have hcm := h.2.1
  have HN := Lib.hid h; clear h
  have HOK := Lib.hid hok; clear hok
  have hsl := Agg.nums_len k f n
  have hst := fun j => Agg.nums_step k f n j
  obtain ⟨S, hS⟩ : ∃ S, S = Agg.nums k f n := ⟨_, rfl⟩
  rw [← hS] at hsl hst ⊢
  have HSL := Lib.hid hsl
  have HST := Lib.hid hst
  clear hsl hst hS
  go_enter Tryz.func64, Tryz.ntmps64
  go_wp2_with (at_make; refine wpList_make_own _ rfl _ _ 27 rfl w.heap.size 3 i0 (.int .i64 0) 1 Tryz.underlying27 hi0 hz0 hz1 .i64 .i64 _ n rfl rfl rfl ?b1 ?b2 ?b3 ?_)
  case b1 => rw [hz2]; omega
  case b2 => unfold maxLen; omega
  case b3 => exact Nat.le_refl _
  intro w1 hown hgrow
  have HO := Lib.hid (show w1.ownsRow w.heap.size 3 1 (.slice (some ⟨w.heap.size, 0, none⟩) 0 n) 0 ((S.take 0).map (Value.int .i64)) from hown)
  have HB := Lib.hid ((Below.refl w.heap.size w).grown hgrow (Nat.le_refl _) (fun k hk => by simp at hk))
  clear hown hgrow
  go_wp2
  go_loopw [5, 15] (fun ov i wr => ∃ j : Nat, j ≤ n ∧ i = .int .i64 j ∧ Hid (wr.ownsRow w.heap.size 3 1 ov j ((S.take j).map (Value.int .i64))) ∧ Hid (Below w.heap.size w wr)) (fun _ i _ => n - (intOf i).toNat)
  case atStart => exact ⟨0, Nat.zero_le _, rfl, HO, HB⟩
  case round =>
    obtain ⟨j, hj, rfl, ho, hw⟩ := hrel
    clear HO HB
    have hwr := hw.out.size
    by_cases hlt : j < n
    · rcases (HN.out.below hw.out).2.2 with h0 | ⟨b, off, rfl, hbw, hcs⟩
      · omega
      · obtain ⟨a2, m, c, hcell, hN⟩ := hcs j hlt
        clear hcs
        have HNN := Lib.hid hN; clear hN
        have hst := HST.out j hlt
        have hF := fun w h => foldItems_any k a2 m c (f j) w h
        rw [Agg.aFold_of hk (HOK.out j hlt)] at hF
        obtain ⟨⟨vx, vy, vz⟩, hV⟩ : ∃ V, V = Agg.fold k (f j) := ⟨_, rfl⟩
        obtain ⟨x, hx⟩ : ∃ x, x = Agg.number k (f j) := ⟨_, rfl⟩
        have hxe : Agg.num k ⟨vx, vy, vz⟩ = x := by rw [hx, Agg.number, hV]
        have hG := fun w => numberOf_any k vx vy vz w
        rw [hxe] at hG
        rw [← hV] at hF
        rw [← hx] at hst
        have HF := Lib.hid hF
        have HG := Lib.hid hG
        have HS2 := Lib.hid hst
        clear hF hG hst hV hx hxe
        have hk0 : (0 : Int) ≤ (j : Int) := Int.natCast_nonneg _
        have hkn : (j : Int) < (n : Int) := by omega
        have hlt' : ∀ q, u5.ownBlock = some q → w.heap.size ≤ q := fun q hq => (ho.out.lt q hq).1
        go_wp2_with fail
        refine (HF.out _ HNN.out).mono ?_
        rintro e w3 ⟨rfl, hb3⟩
        have HO3 := Lib.hid ((ho.out.kept (Below.grownNone hb3 none) (by cases hv : u5.ownBlock <;> simp)).alloc (.cells #[.int .i64 vx, .int .i64 vy, .int .i64 vz] 29))
        have hs3 : w.heap.size ≤ w3.heap.size := Nat.le_trans hwr hb3.size
        have HW3 := Lib.hid ((hw.out.trans (hb3.mono hwr)).alloc hs3 (.cells #[.int .i64 vx, .int .i64 vy, .int .i64 vz] 29))
        clear hb3 hcell HF
        go_wp2_with fail
        refine (HG.out _).mono ?_
        rintro e w4 ⟨rfl, hb4⟩
        have HO4 := Lib.hid (HO3.out.kept (Below.grownNone hb4 none) (by cases hv : u5.ownBlock <;> simp))
        have HW4 := Lib.hid (HW3.out.trans (hb4.mono HW3.out.size))
        have hs4 := HW4.out.size
        clear hb4 HG HO3 HW3
        go_wp2_with (at_builtin; refine wpList_append_own _ rfl (.tmp 25) (.tmp 29) 27 rfl w.heap.size 3 i0 (.int .i64 0) 1 8 Tryz.underlying27 hi0 hz0 hz1 hz2 rfl (by decide) _ _ _ rfl (HO4.out.alloc _) ⟨w4.heap.size, 0, none⟩ 1 1 [.int .i64 x] rfl rfl (cell_one_new _ _ _) (ints_oneCell .i64 [x]) (by unfold maxLen; omega) (by omega) (by simp; omega) ?_; intro v' w5 hown5 hgrow5 hnil5; have HO5 := Lib.hid hown5; have HW5 := Lib.hid ((HW4.out.alloc HW4.out.size _).grown hgrow5 (by have := HW4.out.size; simp; omega) hlt'); clear hown5 hgrow5 hnil5)
        go_roundw
        case rel =>
          refine ⟨j + 1, by omega, by go_num, Lib.hid ?_, HW5⟩
          rw [HS2.out, List.map_append]
          exact HO5.out
        case measure => simp [intOf]; omega
    · obtain rfl : j = n := by omega
      have ho2 := ho.out
      rw [List.take_of_length_le (by have := HSL.out; omega)] at ho2
      have HO2 := Lib.hid ho2
      clear ho2
      go_wp2
      go_returns
      exact ⟨_, rfl, OwnR.made HO2.out hw.out.size, hw.out⟩
end Go.Proofs.YtikdjdoggjhmaaaGreat
