/-
  Queries: copied, measured.
-/
import Derived.Test.Ytolgclajlklmaaa9a
import Derived.OwnWalk
namespace Go.Proofs.Ytolgclajlklmaaa
set_option linter.unusedSimpArgs false
set_option linter.unusedVariables false
open Go.RowKit
def qryAt (l : List (Int × Int)) (i : Nat) : Int × Int := l[i]?.getD (0, 0)
theorem szQueryS_any (a : Option Addr) (n cap : Nat) (left : Int) (w : World) (hn : n ≤ 4611686018427387904) (h0 : 0 ≤ left) (h1 : left ≤ 1048576) :
    Calls Try.prog 35 #[.slice a n cap, .int .i64 left] w fun e w' => e = .returned (.int .i64 (if left < n then -1 else left - n)) ∧ w = w' := by
  by_cases h : left < (n : Int)
  · rw [if_pos h]
    have h2 : left - (n : Int) < 0 := by omega
    go_enter Try.func35, Try.ntmps35
    go_wp2
    go_returns
    exact ⟨rfl, rfl⟩
  · rw [if_neg h]
    have h2 : ¬ (left - (n : Int) < 0) := by omega
    go_enter Try.func35, Try.ntmps35
    go_wp2
    go_returns
    exact ⟨rfl, rfl⟩
theorem toQuery_any (p : Int) (x : Int) (w : World) :
    Calls Try.prog 41 #[.agg #[.int .i64 p, .int .i64 x]] w fun e w' => e = .returned (.agg #[.int .i64 p, .int .i64 x]) ∧ Below w.heap.size w w' := by
  go_enter Try.func41, Try.ntmps41
  go_wp2
  refine bodyPost_ret (by simp [results, Try.results41, go_sem, *]; try rfl) rfl ?_
  exact ⟨rfl, (by first | (go_grown; done) | (refine below_drewN ?_ _; go_grown; done) | (refine (below_drewN _ ?_); go_grown; done))⟩
def partlyQy (l : List (Int × Int)) (k : Nat) : List (Int × Int) := l.take k ++ List.replicate (l.length - k) (0, 0)
theorem partlyQy_all (l : List (Int × Int)) : partlyQy l l.length = l := by simp [partlyQy]
theorem partlyQy_set (l : List (Int × Int)) (k : Nat) (h : k < l.length) : ((qryRow (partlyQy l k)).set (k * 2) (.int .i64 (qryAt l k).1)).set (k * 2 + 1) (.int .i64 (qryAt l k).2) = qryRow (partlyQy l (k + 1)) := by
  obtain ⟨m, hm⟩ : ∃ m, l.length - k = m + 1 := ⟨l.length - k - 1, by omega⟩
  have e : l.take (k + 1) = l.take k ++ [qryAt l k] := by
    rw [List.take_succ_eq_append_getElem h]; simp [qryAt, h]
  have e2 : l.length - (k + 1) = m := by omega
  have hk : (qryRow (l.take k)).length = k * 2 := by rw [qryRow_length]; simp; omega
  unfold partlyQy
  rw [hm, e, e2, List.append_assoc, qryRow_append, qryRow_append, List.replicate_succ]
  rw [List.set_append_right _ _ (by rw [hk]; omega), List.set_append_right _ _ (by rw [hk]; omega), hk, Nat.sub_self, show k * 2 + 1 - k * 2 = 1 by omega]
  simp [qryRow, qryCells]
theorem made_qrys (n : Nat) : (madeCells #[Value.int .i64 0, Value.int .i64 0] (n * 2)).toList = qryRow (List.replicate n (0, 0)) := by
  apply List.ext_getElem
  · rw [qryRow_length]; simp [madeCells]
  · intro i h1 h2
    have hi : i < n * 2 := by simpa [madeCells] using h1
    obtain ⟨q, hq⟩ : ∃ q, i = q * 2 ∨ i = q * 2 + 1 := ⟨i / 2, by omega⟩
    have hqn : q < n := by omega
    have := qryRow_at (List.replicate n (0, 0)) q (by simpa using hqn)
    simp only [List.getElem?_replicate, hqn, if_true, Option.getD_some] at this
    rcases hq with rfl | rfl
    · rw [List.getElem?_eq_getElem h2] at this
      rw [Option.some.inj this.1]
      simp [madeCells, Nat.mul_mod_left]
    · rw [List.getElem?_eq_getElem h2] at this
      rw [Option.some.inj this.2]
      have e : (q * 2 + 1) % 2 = 1 := by omega
      simp [madeCells, e]
/-- A row of queries is made. -/
def MadeQrys (l : List (Int × Int)) (n : Nat) (w : World) (e : Ending) (w' : World) : Prop :=
  ∃ v, e = .returned v ∧ OwnQy w' w.heap.size w'.heap.size v n l ∧ Below w.heap.size w w'
set_option maxHeartbeats 2000000 in
theorem toQueryS_own (a : Option Addr) (n cap : Nat) (l : List (Int × Int)) (w : World) (h : Qrs w a n cap l) (hn : n ≤ 1048576) :
    Calls Try.prog 37 #[.slice a n cap] w (MadeQrys l n w) := by
  obtain ⟨i0, hi, hz0, hz1, hz2⟩ := info_parts infoQy
  obtain ⟨hl, hcap, hm, h4⟩ := h
  unfold maxLen at hm
  have HL := Lib.hid hl; clear hl
  have H4 := Lib.hid h4; clear h4
  go_enter Try.func37, Try.ntmps37
  go_wp2_with (at_make; refine wpList_make_full _ rfl _ _ 58 rfl w.heap.size 66 i0 (.agg #[.int .i64 0, .int .i64 0]) 2 Try.underlying58 hi hz0 hz1 .i64 .i64 _ _ n rfl rfl rfl rfl ?b1 ?b2 ?b3 ?_)
  case b1 => rw [hz2]; omega
  case b2 => unfold maxLen; omega
  case b3 => exact Nat.le_refl _
  intro w1 hown hgrow
  have hown' : w1.ownsRow w.heap.size 66 2 (.slice (some ⟨w.heap.size, 0, none⟩) n n) n (qryRow (partlyQy l 0)) := by
    have e : (madeCells (Value.agg #[.int .i64 0, .int .i64 0]).cells (n * 2)).toList = qryRow (partlyQy l 0) := by
      have : partlyQy l 0 = List.replicate n (0, 0) := by simp [partlyQy, HL.out]
      rw [this]; exact made_qrys n
    rw [← e]; exact hown
  have hB : Below w.heap.size w w1 := (Below.refl _ _).grown hgrow (Nat.le_refl _) (fun k hk => by simp at hk)
  have HO := Lib.hid hown'; clear hown' hown
  have HB := Lib.hid hB; clear hB hgrow
  clear hi hz0 hz1 hz2
  go_wp2
  go_loopw [4] (fun i wr => ∃ k : Nat, k ≤ n ∧ i = .int .i64 k ∧ Hid (wr.ownsRow w.heap.size 66 2 (.slice (some ⟨w.heap.size, 0, none⟩) n n) n (qryRow (partlyQy l k))) ∧ Hid (Below w.heap.size w wr)) (fun i _ => n - (intOf i).toNat)
  case atStart => exact ⟨0, Nat.zero_le _, rfl, HO, HB⟩
  case round =>
    obtain ⟨k, hk, rfl, HR, HW⟩ := hrel
    clear HO HB
    by_cases hlt : k < n
    · rcases H4.out with h4 | ⟨b, off, rfl, hb, hcs⟩
      · omega
      · have hck := (HW.out.cell (p := ⟨b, off + k * 2, none⟩) hb).trans (hcs k hlt).1
        have hcl := (HW.out.cell (p := ⟨b, off + k * 2 + 1, none⟩) hb).trans (hcs k hlt).2
        clear hcs
        have hst := partlyQy_set l k (by have := HL.out; omega)
        simp only [qryAt] at hst
        obtain ⟨⟨p, x⟩, hx⟩ : ∃ x, x = l[k]?.getD (0, 0) := ⟨_, rfl⟩
        rw [← hx] at hck hcl hst
        have HST := Lib.hid hst
        clear hst hx
        have hk0 : (0 : Int) ≤ (k : Int) := Int.natCast_nonneg _
        have hkn : (k : Int) < (n : Int) := by omega
        have hkn2 : k * 2 + 1 < n * 2 := by omega
        go_wp2_with fail
        refine (toQuery_any p x _).mono ?_
        rintro e w2 ⟨rfl, hb2⟩
        have hHR := HR.out.kept (Below.grownNone hb2 none) (.inr (by simp [Value.ownBlock]))
        have HW2 := Lib.hid (HW.out.trans (hb2.mono HW.out.size))
        have hlen : (qryRow (partlyQy l k)).length = n * 2 := hHR.1
        have hfr := hHR.frozenAt (k * 2)
        have hfr1 := hHR.frozenAt (k * 2 + 1)
        obtain ⟨y, hcd⟩ : ∃ y, w2.cell? ⟨w.heap.size, k * 2, none⟩ = some y := ⟨_, (hHR.cellAt (k * 2) (by omega)).trans (List.getElem?_eq_getElem (by omega))⟩
        obtain ⟨y1, hcd1⟩ : ∃ y, w2.cell? ⟨w.heap.size, k * 2 + 1, none⟩ = some y := ⟨_, (hHR.cellAt (k * 2 + 1) (by omega)).trans (List.getElem?_eq_getElem (by omega))⟩
        have HR2 := Lib.hid hHR
        clear hHR hlen hb2
        go_wp2
        go_roundw
        case rel =>
          have hs := HR2.out.stored (k * 2) (Value.int .i64 p)
          have hs2 := hs.1.stored (k * 2 + 1) (Value.int .i64 x)
          rw [HST.out] at hs2
          exact ⟨k + 1, by omega, by go_num, hs2.1, (HW2.out.setCell (Nat.le_refl _) _).setCell (Nat.le_refl _) _⟩
        case measure => simp [intOf]; omega
    · have hkn : k = l.length := by have := HL.out; omega
      have HKN := Lib.hid hkn; clear hkn
      have hlt' : n ≤ k := by omega
      clear hlt
      go_wp2
      go_returns
      refine ⟨_, rfl, OwnQy.made ?_ HW.out.size, HW.out⟩
      have := HR.out
      rw [HKN.out, partlyQy_all] at this
      exact this
theorem szQueryS_big (a : Option Addr) (n cap : Nat) (w : World) (hn : n ≤ 1048576) :
    Calls Try.prog 35 #[.slice a n cap, .int .i64 1048576] w fun e w' => e = .returned (.int .i64 (1048576 - n)) ∧ w = w' := by
  have := szQueryS_any a n cap 1048576 w (by omega) (by omega) (by omega)
  rw [if_neg (by omega)] at this
  exact this
theorem szQueryS_neg (a : Option Addr) (n cap : Nat) (w : World) (hn : 1048576 < n) (hc : n ≤ 9223372036854775807) :
    Calls Try.prog 35 #[.slice a n cap, .int .i64 1048576] w fun e w' => e = .returned (.int .i64 (-1)) ∧ w = w' := by
  have h2 : (1048576 : Int) - (n : Int) < 0 := by omega
  go_enter Try.func35, Try.ntmps35
  go_wp2
  go_returns
  exact ⟨rfl, rfl⟩
end Go.Proofs.Ytolgclajlklmaaa
