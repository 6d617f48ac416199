/-
  Rows of changes of the call's own: compared, marked, held, as the exact laws do.
-/
import Derived.Test.YtionbdjcpfbejaaOp
namespace Go.Proofs.Ytionbdjcpfbejaa
set_option linter.unusedSimpArgs false
set_option linter.unusedVariables false
open Go.RowKit
theorem eqOpS_own {lo hi n lo' hi' n' : Nat} {v v' : Value} {l : List (Bool × Int)} (w : World) (h : OwnO w lo hi v n l) (h' : OwnO w lo' hi' v' n' l) :
    Calls Try.prog 12 #[v, v'] w fun e w' => e = .returned (.bool true) ∧ Below w.heap.size w w' := by
  obtain ⟨a, cap, rfl, hN⟩ := h.ops
  obtain ⟨a', cap', rfl, hN'⟩ := h'.ops
  exact eqOpS_same _ _ _ _ _ _ l _ hN hN'
/-- The marks of changes from k on. -/
def seqO (k : Int) : Nat → List (Bool × Int)
  | 0 => []
  | n + 1 => (k % 3 == 0, k + 1) :: seqO (k + 2) n
theorem seqO_length (k : Int) (n : Nat) : (seqO k n).length = n := by
  induction n generalizing k with
  | zero => rfl
  | succ n ih => simp [seqO, ih]
theorem seqO_at (k : Int) (n i : Nat) (h : i < n) : (seqO k n)[i]?.getD (false, 0) = ((k + 2 * i) % 3 == 0, k + 2 * i + 1) := by
  induction n generalizing k i with
  | zero => omega
  | succ n ih =>
    cases i with
    | zero => simp [seqO]
    | succ i =>
      simp only [seqO, List.getElem?_cons_succ]
      rw [ih (k + 2) i (by omega), show k + 2 + 2 * (i : Int) = k + 2 * ((i + 1 : Nat) : Int) by omega]
theorem seqO_snoc (k : Int) (n : Nat) : seqO k (n + 1) = seqO k n ++ [((k + 2 * n) % 3 == 0, k + 2 * n + 1)] := by
  induction n generalizing k with
  | zero => simp [seqO]
  | succ n ih =>
    rw [seqO, ih (k + 2), seqO, List.cons_append, show k + 2 + 2 * (n : Int) = k + 2 * ((n + 1 : Nat) : Int) by omega]
def markedO (k : Int) (l : List (Bool × Int)) (i : Nat) : List (Bool × Int) := seqO k i ++ l.drop i
theorem markedO_zero (k : Int) (l : List (Bool × Int)) : markedO k l 0 = l := by simp [markedO, seqO]
theorem markedO_all (k : Int) (l : List (Bool × Int)) : markedO k l l.length = seqO k l.length := by simp [markedO]
theorem opRow_append (a b : List (Bool × Int)) : opRow (a ++ b) = opRow a ++ opRow b := by simp [opRow]
theorem markedO_set (k : Int) (l : List (Bool × Int)) (i : Nat) (h : i < l.length) : ((opRow (markedO k l i)).set (i * 2) (.bool ((k + 2 * i) % 3 == 0))).set (i * 2 + 1) (.int .i64 (k + 2 * i + 1)) = opRow (markedO k l (i + 1)) := by
  obtain ⟨o, t, ht, hd⟩ : ∃ o t, l.drop i = o :: t ∧ l.drop (i + 1) = t := ⟨_, _, List.drop_eq_getElem_cons h, rfl⟩
  unfold markedO
  rw [ht, hd, seqO_snoc, List.append_assoc, opRow_append, opRow_append]
  rw [List.set_append_right _ _ (by rw [opRow_length, seqO_length]; omega), List.set_append_right _ _ (by rw [opRow_length, seqO_length]; omega)]
  rw [opRow_length, seqO_length, Nat.sub_self, show i * 2 + 1 - i * 2 = 1 by omega]
  simp [opRow, opCells]
theorem grownR {a b d : World} {c : Nat} (h : a.grownBy b (some c)) (k : b.grownBy d (some c)) : a.grownBy d (some c) :=
  ⟨k.os.trans h.os, k.tape.trans h.tape, k.output.trans h.output, Nat.le_trans h.size k.size, fun i hi hne => (k.block i (Nat.lt_of_lt_of_le hi h.size) hne).trans (h.block i hi hne)⟩

set_option maxHeartbeats 2000000 in
theorem markOpS_own {lo hi n : Nat} {v : Value} {l : List (Bool × Int)} (w : World) (k : Int) (h : OwnO w lo hi v n l) (hk0 : 0 ≤ k) (hk1 : k ≤ 1000000) (hn : n ≤ 1048576) :
    Calls Try.prog 16 #[v, .int .i64 k] w fun e w' => e = .returned (.int .i64 (k + 2 * n)) ∧ OwnO w' lo hi v n (seqO k n) ∧ w.grownBy w' v.ownBlock := by
  have hl : l.length = n := h.len
  obtain ⟨h1, h2, h3, h4⟩ := h
  rcases h1.2 with ⟨rfl, rfl⟩ | ⟨g, cap, cur, rfl, hlo, hg, hnc, hcm, -, -⟩
  · go_enter Try.func16, Try.ntmps16
    go_wp2
    go_loopw [1, 5] (fun kv i wr => kv = .int .i64 k ∧ i = .int .i64 0 ∧ wr = w) (fun _ i _ => 0)
    case atStart => exact ⟨rfl, rfl, rfl⟩
    case round =>
      obtain ⟨rfl, rfl, rfl⟩ := hrel
      go_wp2
      go_returns
      exact ⟨by simp, ⟨⟨by simp [opRow, seqO], .inl ⟨rfl, rfl⟩⟩, h2, h3, h4⟩, ⟨rfl, rfl, rfl, Nat.le_refl _, fun _ _ _ => rfl⟩⟩
  · unfold maxLen at hcm
    have H1 := Lib.hid h1; clear h1 hg
    have HL := Lib.hid hl; clear hl
    have hgw : g < w.heap.size := by have := h4 g rfl; omega
    have HB := Lib.hid (show w.grownBy w (some g) from ⟨rfl, rfl, rfl, Nat.le_refl _, fun _ _ _ => rfl⟩)
    have H1' := Lib.hid (show w.ownsRow lo 55 2 (.slice (some ⟨g, 0, none⟩) n cap) n (opRow (markedO k l 0)) by rw [markedO_zero]; exact H1.out)
    have H4 := Lib.hid h4; clear h4
    clear H1
    go_enter Try.func16, Try.ntmps16
    go_wp2
    go_loopw [1, 5] (fun kv i wr => ∃ j : Nat, j ≤ n ∧ i = .int .i64 j ∧ kv = .int .i64 (k + 2 * j) ∧ Hid (wr.ownsRow lo 55 2 (.slice (some ⟨g, 0, none⟩) n cap) n (opRow (markedO k l j))) ∧ Hid (w.grownBy wr (some g))) (fun _ i _ => n - (intOf i).toNat)
    case atStart => exact ⟨0, Nat.zero_le _, rfl, by simp, H1', HB⟩
    case round =>
      obtain ⟨j, hj, rfl, rfl, HR, HG⟩ := hrel
      clear H1' HB
      by_cases hlt : j < n
      · have hst := markedO_set k l j (by have := HL.out; omega)
        have HST := Lib.hid hst; clear hst
        have hlen : (opRow (markedO k l j)).length = n * 2 := HR.out.1
        have hfr := HR.out.frozenAt (j * 2)
        have hfr1 := HR.out.frozenAt (j * 2 + 1)
        have hcd : ∃ y, wr.cell? ⟨g, j * 2, none⟩ = some y := ⟨_, (HR.out.cellAt (j * 2) (by omega)).trans (List.getElem?_eq_getElem (by omega))⟩
        have hcd1 : ∃ y, wr.cell? ⟨g, j * 2 + 1, none⟩ = some y := ⟨_, (HR.out.cellAt (j * 2 + 1) (by omega)).trans (List.getElem?_eq_getElem (by omega))⟩
        obtain ⟨y, hcd⟩ := hcd
        obtain ⟨y1, hcd1⟩ := hcd1
        clear hlen
        have hk0' : (0 : Int) ≤ (j : Int) := Int.natCast_nonneg _
        have hkn : (j : Int) < (n : Int) := by omega
        go_wp2
        go_roundw
        case rel =>
          have hs := HR.out.stored (j * 2) (Value.bool ((k + 2 * (j : Int)) % 3 == 0))
          have hs2 := hs.1.stored (j * 2 + 1) (Value.int .i64 (k + 2 * (j : Int) + 1))
          rw [HST.out] at hs2
          exact ⟨j + 1, by omega, by go_num, by go_num, hs2.1, grownR (grownR HG.out hs.2) hs2.2⟩
        case measure => simp [intOf]; omega
      · obtain rfl : j = n := by omega
        go_wp2
        go_returns
        refine ⟨rfl, ⟨?_, h2, Nat.le_trans h3 HG.out.size, H4.out⟩, HG.out⟩
        have := HR.out
        rw [← HL.out, markedO_all, HL.out] at this
        exact this
end Go.Proofs.Ytionbdjcpfbejaa
