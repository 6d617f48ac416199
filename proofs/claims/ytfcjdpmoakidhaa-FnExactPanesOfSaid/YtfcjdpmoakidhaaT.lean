/-
  Copies of slices of numbers, and their comparison, as the exact laws make them.
-/
import Derived.Test.YtfcjdpmoakidhaaRow
import Derived.Deep.OwnRows
namespace Go.Proofs.Ytfcjdpmoakidhaa
set_option linter.unusedSimpArgs false
set_option linter.unusedVariables false
open Go.RowKit

/-- A slice of new memory that reads as l. -/
def MadeNums (l : List Int) (n : Nat) (w : World) (e : Ending) (w' : World) : Prop :=
  ∃ b, e = .returned (.slice (some ⟨b, 0, none⟩) n n) ∧ Nums .i64 w' (some ⟨b, 0, none⟩) n n l ∧ Below w.heap.size w w' ∧ w.heap.size ≤ b

theorem Nums.of_owns {w : World} {base e g n cap : Nat} {l : List Int} (h : w.ownsRow base e 1 (.slice (some ⟨g, 0, none⟩) n cap) n (l.map (Value.int .i64))) : Nums .i64 w (some ⟨g, 0, none⟩) n cap l := by
  have hl : l.length = n := by have := h.1; simpa using this
  have hcells : ∀ j, j < n → w.cell? ⟨g, j, none⟩ = some (.int .i64 (l[j]?.getD 0)) := by
    intro j hj
    rw [World.ownsRow.cellAt h j (by omega)]
    simp [List.getElem?_map, List.getElem?_eq_getElem (show j < l.length by omega)]
  rcases h.2 with ⟨hv, _⟩ | ⟨g', cap', cur, hv, hb, hg, h1, h2, h3, h4⟩
  · simp at hv
  · simp only [Value.slice.injEq, Option.some.injEq, Addr.mk.injEq] at hv
    obtain ⟨⟨rfl, -, -⟩, -, rfl⟩ := hv
    exact ⟨hl, h1, h2, .inr ⟨g, 0, rfl, (Array.getElem?_eq_some_iff.1 hg).1, fun i hi => by rw [Nat.zero_add]; exact hcells i hi⟩⟩

/-- The first k numbers of l, and zeros behind them. -/
def partly (l : List Int) (k : Nat) : List Int := l.take k ++ List.replicate (l.length - k) 0
theorem partly_zero (l : List Int) : partly l 0 = List.replicate l.length 0 := by simp [partly]
theorem partly_all (l : List Int) : partly l l.length = l := by simp [partly]
theorem partly_set (l : List Int) (k : Nat) (h : k < l.length) : (partly l k).set k (l[k]?.getD 0) = partly l (k + 1) := by
  apply List.ext_getElem?
  intro i
  simp only [partly, List.getElem?_set, List.getElem?_append, List.length_append, List.length_take, List.length_replicate, List.getElem?_take, List.getElem?_replicate]
  by_cases hik : k = i
  · subst hik
    simp [h, Nat.min_eq_left (Nat.le_of_lt h), Nat.min_eq_left (show k + 1 ≤ l.length by omega)] <;> omega
  · rw [if_neg hik]
    rw [Nat.min_eq_left (Nat.le_of_lt h), Nat.min_eq_left (show k + 1 ≤ l.length by omega)]
    by_cases h1 : i < k
    · rw [if_pos h1, if_pos (show i < k + 1 by omega)]; simp [h1, show i < k + 1 by omega]
    · rw [if_neg h1, if_neg (show ¬ i < k + 1 by omega)]
      by_cases h2 : i < l.length
      · rw [if_pos (by omega), if_pos (by omega)]
      · rw [if_neg (by omega), if_neg (by omega)]

theorem infoInt : (Try.prog.info? 3).map (fun i => (i.zero, i.size, i.bytes)) = some (some (.int .i64 0), 1, 8) := by kernel_rfl

set_option maxHeartbeats 1000000 in
theorem toIntS_any (a : Option Addr) (n cap : Nat) (l : List Int) (w : World) (h : Nums .i64 w a n cap l) (hn : n ≤ 1048576) :
    Calls Try.prog 16 #[.slice a n cap] w (MadeNums l n w) := by
  obtain ⟨i0, hi, hz0, hz1, hz2⟩ := info_parts infoInt
  obtain ⟨hl, hcap, hm, h4⟩ := h
  unfold maxLen at hm
  have HL := Lib.hid hl; clear hl
  have H4 := Lib.hid h4; clear h4
  go_enter Try.func16, Try.ntmps16
  go_wp2_with (at_make; refine wpList_make_full _ rfl _ _ 29 rfl w.heap.size 3 i0 (.int .i64 0) 1 Try.underlying29 hi hz0 hz1 .i64 .i64 _ _ n rfl rfl rfl rfl ?b1 ?b2 ?b3 ?_)
  case b1 => rw [hz2]; omega
  case b2 => unfold maxLen; omega
  case b3 => exact Nat.le_refl _
  intro w1 hown hgrow
  have hown' : w1.ownsRow w.heap.size 3 1 (.slice (some ⟨w.heap.size, 0, none⟩) n n) n ((partly l 0).map (Value.int .i64)) := by
    have e : (madeCells #[Value.int .i64 0] n).toList = (partly l 0).map (Value.int .i64) := by
      rw [toList_madeCells_one, partly_zero, HL.out, List.map_replicate]
    rw [← e]; exact hown
  have hB : Below w.heap.size w w1 := (Below.refl _ _).grown hgrow (Nat.le_refl _) (fun k hk => by simp at hk)
  have HO := Lib.hid hown'; clear hown' hown
  have HB := Lib.hid hB; clear hB hgrow
  clear hi hz0 hz1 hz2
  go_wp2
  go_loopw [4] (fun i wr => ∃ k : Nat, k ≤ n ∧ i = .int .i64 k ∧ Hid (wr.ownsRow w.heap.size 3 1 (.slice (some ⟨w.heap.size, 0, none⟩) n n) n ((partly l k).map (Value.int .i64))) ∧ Hid (Below w.heap.size w wr)) (fun i _ => n - (intOf i).toNat)
  case atStart => exact ⟨0, Nat.zero_le _, rfl, HO, HB⟩
  case round =>
    obtain ⟨k, hk, rfl, HR, HW⟩ := hrel
    clear HO HB
    by_cases hlt : k < n
    · rcases H4.out with h4 | ⟨b, off, rfl, hb, hcs⟩
      · omega
      · have hck := (HW.out.cell (p := ⟨b, off + k, none⟩) hb).trans (hcs k hlt)
        clear hcs
        obtain ⟨x, hx⟩ : ∃ x, x = l[k]?.getD 0 := ⟨_, rfl⟩
        rw [← hx] at hck
        have hst := partly_set l k (by have := HL.out; omega)
        rw [← hx] at hst
        have HX := Lib.hid hx; clear hx
        have HST := Lib.hid hst; clear hst
        have hfr := HR.out.frozenAt k
        have hcd : ∃ y, wr.cell? ⟨w.heap.size, k, none⟩ = some y := by
          have hh := HR.out.cellAt k (by omega)
          have hlen : k < ((partly l k).map (Value.int .i64)).length := by rw [HR.out.1]; omega
          exact ⟨_, hh.trans (List.getElem?_eq_getElem hlen)⟩
        obtain ⟨y, hcd⟩ := hcd
        have hk0 : (0 : Int) ≤ (k : Int) := Int.natCast_nonneg _
        have hkn : (k : Int) < (n : Int) := by omega
        go_wp2
        go_roundw
        case rel =>
          refine ⟨k + 1, by omega, by go_num, ?_, HW.out.setCell (Nat.le_refl _) _⟩
          have hs := HR.out.stored k (Value.int .i64 x)
          rw [← List.map_set, HST.out] at hs
          exact hs.1
        case measure => simp [intOf]; omega
    · have hkn : k = l.length := by have := HL.out; omega
      have HKN := Lib.hid hkn; clear hkn
      have hlt' : n ≤ k := by omega
      clear hlt
      go_wp2
      go_returns
      refine ⟨w.heap.size, rfl, Nums.of_owns (base := w.heap.size) (e := 3) ?_, HW.out, Nat.le_refl _⟩
      have := HR.out
      rw [HKN.out, partly_all] at this
      exact this

set_option maxHeartbeats 1000000 in
theorem eqIntS_same (a1 : Option Addr) (n1 cap1 : Nat) (a2 : Option Addr) (n2 cap2 : Nat) (l : List Int) (w : World) (h1 : Nums .i64 w a1 n1 cap1 l) (h2 : Nums .i64 w a2 n2 cap2 l) :
    Calls Try.prog 19 #[.slice a1 n1 cap1, .slice a2 n2 cap2] w fun e w' => e = .returned (.bool true) ∧ Below w.heap.size w w' := by
  obtain ⟨hl1, hcap1, hm1, h41⟩ := h1
  obtain ⟨hl2, hcap2, hm2, h42⟩ := h2
  obtain rfl : n1 = n2 := by omega
  unfold maxLen at hm1
  have HL := Lib.hid hl1; clear hl1 hl2 hm2 hcap2
  have H1 := Lib.hid h41; clear h41
  have H2 := Lib.hid h42; clear h42
  go_enter Try.func19, Try.ntmps19
  go_wp2
  go_loopw [5] (fun i wr => ∃ k : Nat, k ≤ n1 ∧ i = .int .i64 k ∧ Hid (Below w.heap.size w wr)) (fun i _ => n1 - (intOf i).toNat)
  case atStart => exact ⟨0, Nat.zero_le _, rfl, Below.refl _ _⟩
  case round =>
    obtain ⟨k, hk, rfl, HW⟩ := hrel
    by_cases hlt : k < n1
    · rcases H1.out with h4 | ⟨b, off, rfl, hb, hcs⟩
      · omega
      · rcases H2.out with h4 | ⟨b', off', rfl, hb', hcs'⟩
        · omega
        · have hck := (HW.out.cell (p := ⟨b, off + k, none⟩) hb).trans (hcs k hlt)
          have hck' := (HW.out.cell (p := ⟨b', off' + k, none⟩) hb').trans (hcs' k hlt)
          clear hcs hcs'
          obtain ⟨x, hx⟩ : ∃ x, x = l[k]?.getD 0 := ⟨_, rfl⟩
          rw [← hx] at hck hck'
          clear hx
          have hk0 : (0 : Int) ≤ (k : Int) := Int.natCast_nonneg _
          have hkn : (k : Int) < (n1 : Int) := by omega
          go_wp2
          go_quiet (fail)
          go_wp2
          go_roundw
          case rel => exact ⟨k + 1, by omega, by go_num, below_drewN HW.out _⟩
          case measure => simp [intOf]; omega
    · have hlt' : n1 ≤ k := by omega
      clear hlt
      go_wp2
      go_returns
      exact ⟨rfl, HW.out⟩
end Go.Proofs.Ytfcjdpmoakidhaa
