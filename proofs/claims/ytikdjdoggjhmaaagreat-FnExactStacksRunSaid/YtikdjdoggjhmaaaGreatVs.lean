/-
  Rows of aggregates: marked, held, copied, as the exact laws do.
-/
import Derived.Test.YtikdjdoggjhmaaaGreatRw
namespace Go.Proofs.YtikdjdoggjhmaaaGreat
set_option linter.unusedSimpArgs false
set_option linter.unusedVariables false
open Go.RowKit
/-- The marks of aggregates from k on. -/
def seqV (k : Int) : Nat → List Agg.V
  | 0 => []
  | n + 1 => ⟨k, k + 1, k + 2⟩ :: seqV (k + 3) n
theorem seqV_length (k : Int) (n : Nat) : (seqV k n).length = n := by
  induction n generalizing k with
  | zero => rfl
  | succ n ih => simp [seqV, ih]
theorem seqV_at (k : Int) (n i : Nat) (h : i < n) : (seqV k n)[i]?.getD Agg.zero = ⟨k + 3 * i, k + 3 * i + 1, k + 3 * i + 2⟩ := by
  induction n generalizing k i with
  | zero => omega
  | succ n ih =>
    cases i with
    | zero => simp [seqV]
    | succ i =>
      simp only [seqV, List.getElem?_cons_succ]
      rw [ih (k + 3) i (by omega), show k + 3 + 3 * (i : Int) = k + 3 * ((i + 1 : Nat) : Int) by omega]
theorem seqV_snoc (k : Int) (n : Nat) : seqV k (n + 1) = seqV k n ++ [⟨k + 3 * n, k + 3 * n + 1, k + 3 * n + 2⟩] := by
  induction n generalizing k with
  | zero => simp [seqV]
  | succ n ih =>
    rw [seqV, ih (k + 3), seqV, List.cons_append, show k + 3 + 3 * (n : Int) = k + 3 * ((n + 1 : Nat) : Int) by omega]
def markedV (k : Int) (l : List Agg.V) (i : Nat) : List Agg.V := seqV k i ++ l.drop i
theorem markedV_zero (k : Int) (l : List Agg.V) : markedV k l 0 = l := by simp [markedV, seqV]
theorem markedV_all (k : Int) (l : List Agg.V) : markedV k l l.length = seqV k l.length := by simp [markedV]
theorem markedV_set (k : Int) (l : List Agg.V) (i : Nat) (h : i < l.length) : (((valRow (markedV k l i)).set (i * 3) (.int .i64 (k + 3 * i))).set (i * 3 + 1) (.int .i64 (k + 3 * i + 1))).set (i * 3 + 2) (.int .i64 (k + 3 * i + 1 + 1)) = valRow (markedV k l (i + 1)) := by
  rw [show k + 3 * (i : Int) + 1 + 1 = k + 3 * i + 2 by omega]
  obtain ⟨o, t, ht, hd⟩ : ∃ o t, l.drop i = o :: t ∧ l.drop (i + 1) = t := ⟨_, _, List.drop_eq_getElem_cons h, rfl⟩
  unfold markedV
  rw [ht, hd, seqV_snoc, List.append_assoc, valRow_append, valRow_append]
  rw [List.set_append_right _ _ (by rw [valRow_length, seqV_length]; omega), List.set_append_right _ _ (by rw [valRow_length, seqV_length]; omega), List.set_append_right _ _ (by rw [valRow_length, seqV_length]; omega)]
  rw [valRow_length, seqV_length, Nat.sub_self, show i * 3 + 1 - i * 3 = 1 by omega, show i * 3 + 2 - i * 3 = 2 by omega]
  simp [valRow, valCells]
theorem v_grownR {a b d : World} {c : Nat} (h : a.grownBy b (some c)) (k : b.grownBy d (some c)) : a.grownBy d (some c) :=
  ⟨k.os.trans h.os, k.tape.trans h.tape, k.output.trans h.output, Nat.le_trans h.size k.size, fun i hi hne => (k.block i (Nat.lt_of_lt_of_le hi h.size) hne).trans (h.block i hi hne)⟩

set_option maxHeartbeats 2000000 in
theorem markValueS_own {lo hi n : Nat} {v : Value} {l : List Agg.V} (w : World) (k : Int) (h : OwnV w lo hi v n l) (hk0 : 0 ≤ k) (hk1 : k ≤ 1000000) (hn : n ≤ 1048576) :
    Calls Tryz.prog 78 #[v, .int .i64 k] w fun e w' => e = .returned (.int .i64 (k + 3 * n)) ∧ OwnV w' lo hi v n (seqV k n) ∧ w.grownBy w' v.ownBlock := by
  have hl : l.length = n := h.len
  obtain ⟨h1, h2, h3, h4⟩ := h
  rcases h1.2 with ⟨rfl, rfl⟩ | ⟨g, cap, cur, rfl, hlo, hg, hnc, hcm, -, -⟩
  · go_enter Tryz.func78, Tryz.ntmps78
    go_wp2
    go_loopw [1, 5] (fun kv i wr => kv = .int .i64 k ∧ i = .int .i64 0 ∧ wr = w) (fun _ i _ => 0)
    case atStart => exact ⟨rfl, rfl, rfl⟩
    case round =>
      obtain ⟨rfl, rfl, rfl⟩ := hrel
      go_wp2
      go_returns
      exact ⟨by simp, ⟨⟨by simp [valRow, seqV], .inl ⟨rfl, rfl⟩⟩, h2, h3, h4⟩, ⟨rfl, rfl, rfl, Nat.le_refl _, fun _ _ _ => rfl⟩⟩
  · unfold maxLen at hcm
    have H1 := Lib.hid h1; clear h1 hg
    have HL := Lib.hid hl; clear hl
    have hgw : g < w.heap.size := by have := h4 g rfl; omega
    have HB := Lib.hid (show w.grownBy w (some g) from ⟨rfl, rfl, rfl, Nat.le_refl _, fun _ _ _ => rfl⟩)
    have H1' := Lib.hid (show w.ownsRow lo 29 3 (.slice (some ⟨g, 0, none⟩) n cap) n (valRow (markedV k l 0)) by rw [markedV_zero]; exact H1.out)
    have H4 := Lib.hid h4; clear h4
    clear H1
    go_enter Tryz.func78, Tryz.ntmps78
    go_wp2
    go_loopw [1, 5] (fun kv i wr => ∃ j : Nat, j ≤ n ∧ i = .int .i64 j ∧ kv = .int .i64 (k + 3 * j) ∧ Hid (wr.ownsRow lo 29 3 (.slice (some ⟨g, 0, none⟩) n cap) n (valRow (markedV k l j))) ∧ Hid (w.grownBy wr (some g))) (fun _ i _ => n - (intOf i).toNat)
    case atStart => exact ⟨0, Nat.zero_le _, rfl, by simp, H1', HB⟩
    case round =>
      obtain ⟨j, hj, rfl, rfl, HR, HG⟩ := hrel
      clear H1' HB
      by_cases hlt : j < n
      · have hst := markedV_set k l j (by have := HL.out; omega)
        have HST := Lib.hid hst; clear hst
        have hlen : (valRow (markedV k l j)).length = n * 3 := HR.out.1
        have hfr := HR.out.frozenAt (j * 3)
        have hfr1 := HR.out.frozenAt (j * 3 + 1)
        have hfr2 := HR.out.frozenAt (j * 3 + 2)
        have hcd : ∃ y, wr.cell? ⟨g, j * 3, none⟩ = some y := ⟨_, (HR.out.cellAt (j * 3) (by omega)).trans (List.getElem?_eq_getElem (by omega))⟩
        have hcd1 : ∃ y, wr.cell? ⟨g, j * 3 + 1, none⟩ = some y := ⟨_, (HR.out.cellAt (j * 3 + 1) (by omega)).trans (List.getElem?_eq_getElem (by omega))⟩
        have hcd2 : ∃ y, wr.cell? ⟨g, j * 3 + 2, none⟩ = some y := ⟨_, (HR.out.cellAt (j * 3 + 2) (by omega)).trans (List.getElem?_eq_getElem (by omega))⟩
        obtain ⟨y, hcd⟩ := hcd
        obtain ⟨y1, hcd1⟩ := hcd1
        obtain ⟨y2, hcd2⟩ := hcd2
        clear hlen
        have hk0' : (0 : Int) ≤ (j : Int) := Int.natCast_nonneg _
        have hkn : (j : Int) < (n : Int) := by omega
        go_wp2
        go_roundw
        case rel =>
          have hs := HR.out.stored (j * 3) (Value.int .i64 (k + 3 * (j : Int)))
          have hs2 := hs.1.stored (j * 3 + 1) (Value.int .i64 (k + 3 * (j : Int) + 1))
          have hs3 := hs2.1.stored (j * 3 + 2) (Value.int .i64 (k + 3 * (j : Int) + 1 + 1))
          rw [HST.out] at hs3
          exact ⟨j + 1, by omega, by go_num, by go_num, hs3.1, v_grownR (v_grownR (v_grownR HG.out hs.2) hs2.2) hs3.2⟩
        case measure => simp [intOf]; omega
      · obtain rfl : j = n := by omega
        go_wp2
        go_returns
        refine ⟨rfl, ⟨?_, h2, Nat.le_trans h3 HG.out.size, H4.out⟩, HG.out⟩
        have := HR.out
        rw [← HL.out, markedV_all, HL.out] at this
        exact this
set_option maxHeartbeats 2000000 in
theorem heldValueS_own {lo hi n : Nat} {v : Value} (w : World) (k : Int) (h : OwnV w lo hi v n (seqV k n)) (hk0 : 0 ≤ k) (hk1 : k ≤ 1000000) (hn : n ≤ 1048576) :
    Calls Tryz.prog 79 #[v, .int .i64 k] w fun e w' => e = .returned (.int .i64 (k + 3 * n)) ∧ Below w.heap.size w w' := by
  obtain ⟨a, cap, rfl, hN⟩ := h.vals
  have hcm : cap ≤ 9223372036854775807 := by have := hN.2.2.1; unfold maxLen at this; omega
  have hnc := hN.2.1
  have H4 := Lib.hid hN.2.2.2
  clear hN h
  go_enter Tryz.func79, Tryz.ntmps79
  go_wp2
  go_loopw [1, 5] (fun kv i wr => ∃ j : Nat, j ≤ n ∧ i = .int .i64 j ∧ kv = .int .i64 (k + 3 * j) ∧ Hid (Below w.heap.size w wr)) (fun _ i _ => n - (intOf i).toNat)
  case atStart => exact ⟨0, Nat.zero_le _, rfl, by simp, Below.refl _ _⟩
  case round =>
    obtain ⟨j, hj, rfl, rfl, HW⟩ := hrel
    by_cases hlt : j < n
    · rcases H4.out with h4 | ⟨b, off, rfl, hb, hcs⟩
      · omega
      · have hck := (HW.out.cell (p := ⟨b, off + j * 3, none⟩) hb).trans (hcs j hlt).1
        have hcl := (HW.out.cell (p := ⟨b, off + j * 3 + 1, none⟩) hb).trans (hcs j hlt).2.1
        have hcn := (HW.out.cell (p := ⟨b, off + j * 3 + 2, none⟩) hb).trans (hcs j hlt).2.2
        rw [seqV_at k n j hlt] at hck hcl hcn
        clear hcs
        have hk0' : (0 : Int) ≤ (j : Int) := Int.natCast_nonneg _
        have hkn : (j : Int) < (n : Int) := by omega
        go_wp2
        go_roundw
        case rel => exact ⟨j + 1, by omega, by go_num, by go_num, HW.out⟩
        case measure => simp [intOf]; omega
    · obtain rfl : j = n := by omega
      go_wp2
      go_returns
      exact ⟨rfl, HW.out⟩
def partlyV (l : List Agg.V) (k : Nat) : List Agg.V := l.take k ++ List.replicate (l.length - k) Agg.zero
theorem partlyV_all (l : List Agg.V) : partlyV l l.length = l := by simp [partlyV]
theorem partlyV_set (l : List Agg.V) (k : Nat) (h : k < l.length) : (((valRow (partlyV l k)).set (k * 3) (.int .i64 (l[k]?.getD Agg.zero).x)).set (k * 3 + 1) (.int .i64 (l[k]?.getD Agg.zero).y)).set (k * 3 + 2) (.int .i64 (l[k]?.getD Agg.zero).z) = valRow (partlyV l (k + 1)) := by
  obtain ⟨m, hm⟩ : ∃ m, l.length - k = m + 1 := ⟨l.length - k - 1, by omega⟩
  have e : l.take (k + 1) = l.take k ++ [l[k]?.getD Agg.zero] := by
    rw [List.take_succ_eq_append_getElem h]; simp [h]
  have e2 : l.length - (k + 1) = m := by omega
  have hk : (valRow (l.take k)).length = k * 3 := by rw [valRow_length]; simp; omega
  unfold partlyV
  rw [hm, e, e2, List.append_assoc, valRow_append, valRow_append, List.replicate_succ]
  rw [List.set_append_right _ _ (by rw [hk]; omega), List.set_append_right _ _ (by rw [hk]; omega), List.set_append_right _ _ (by rw [hk]; omega), hk, Nat.sub_self, show k * 3 + 1 - k * 3 = 1 by omega, show k * 3 + 2 - k * 3 = 2 by omega]
  simp [valRow, valCells]
theorem made_vals (n : Nat) : (madeCells #[Value.int .i64 0, Value.int .i64 0, Value.int .i64 0] (n * 3)).toList = valRow (List.replicate n Agg.zero) := by
  apply List.ext_getElem
  · rw [valRow_length]; simp [madeCells]
  · intro i h1 h2
    have hi : i < n * 3 := by simpa [madeCells] using h1
    obtain ⟨q, hq⟩ : ∃ q, i = q * 3 ∨ i = q * 3 + 1 ∨ i = q * 3 + 2 := ⟨i / 3, by omega⟩
    have hqn : q < n := by omega
    have := valRow_at (List.replicate n Agg.zero) q (by simpa using hqn)
    simp only [List.getElem?_replicate, hqn, if_true, Option.getD_some] at this
    rcases hq with rfl | rfl | rfl
    · rw [List.getElem?_eq_getElem h2] at this
      rw [Option.some.inj this.1]
      simp [madeCells, Nat.mul_mod_left, Agg.zero]
    · rw [List.getElem?_eq_getElem h2] at this
      rw [Option.some.inj this.2.1]
      have e : (q * 3 + 1) % 3 = 1 := by omega
      simp [madeCells, e, Agg.zero]
    · rw [List.getElem?_eq_getElem h2] at this
      rw [Option.some.inj this.2.2]
      have e : (q * 3 + 2) % 3 = 2 := by omega
      simp [madeCells, e, Agg.zero]
/-- A row of aggregates is made. -/
def MadeVals (l : List Agg.V) (n : Nat) (w : World) (e : Ending) (w' : World) : Prop :=
  ∃ v, e = .returned v ∧ OwnV w' w.heap.size w'.heap.size v n l ∧ Below w.heap.size w w'
end Go.Proofs.YtikdjdoggjhmaaaGreat
