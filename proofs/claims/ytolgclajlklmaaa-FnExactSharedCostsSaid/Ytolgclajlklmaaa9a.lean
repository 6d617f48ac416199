/-
  Rows of queries: a slice of pairs of numbers; rows of the call's own; comparison, marks.
-/
import Derived.Test.YtolgclajlklmaaaRw
import Derived.Deep.RegionHeld3
namespace Go.Proofs.Ytolgclajlklmaaa
set_option linter.unusedSimpArgs false
set_option linter.unusedVariables false
open Go.RowKit

def qryCells (o : Int × Int) : List Value := [.int .i64 o.1, .int .i64 o.2]
def qryRow (l : List (Int × Int)) : List Value := l.flatMap qryCells
theorem qryRow_nil : qryRow [] = [] := rfl
theorem qryRow_snoc (l : List (Int × Int)) (o : Int × Int) : qryRow (l ++ [o]) = qryRow l ++ [.int .i64 o.1, .int .i64 o.2] := by simp [qryRow, qryCells]
theorem qryRow_length (l : List (Int × Int)) : (qryRow l).length = l.length * 2 := by
  induction l with
  | nil => rfl
  | cons o l ih => simp only [qryRow, List.flatMap_cons, List.length_append] at ih ⊢; simp [qryCells, ih]; omega
theorem qryRow_at (l : List (Int × Int)) : ∀ i, i < l.length → (qryRow l)[i * 2]? = some (.int .i64 (l[i]?.getD (0, 0)).1) ∧ (qryRow l)[i * 2 + 1]? = some (.int .i64 (l[i]?.getD (0, 0)).2) := by
  induction l with
  | nil => intro i h; simp at h
  | cons o l ih =>
    intro i h
    cases i with
    | zero => simp [qryRow, qryCells]
    | succ i =>
      have := ih i (by simpa using h)
      rw [show (i + 1) * 2 = i * 2 + 2 by omega, show i * 2 + 2 + 1 = (i * 2 + 1) + 2 by omega]
      simpa [qryRow, qryCells] using this

/-- The slice with this address, length and capacity reads as the list l of queries. -/
def Qrs (w : World) (a : Option Addr) (n cap : Nat) (l : List (Int × Int)) : Prop :=
  l.length = n ∧ n ≤ cap ∧ cap ≤ maxLen ∧
  (n = 0 ∨ ∃ b off, a = some ⟨b, off, none⟩ ∧ b < w.heap.size ∧ ∀ i, i < n → w.cell? ⟨b, off + i * 2, none⟩ = some (.int .i64 (l[i]?.getD (0, 0)).1) ∧ w.cell? ⟨b, off + i * 2 + 1, none⟩ = some (.int .i64 (l[i]?.getD (0, 0)).2))
theorem Qrs.below {w w' : World} {a : Option Addr} {n cap : Nat} {l : List (Int × Int)} (h : Qrs w a n cap l) (hb : Below w.heap.size w w') : Qrs w' a n cap l := by
  obtain ⟨h1, h2, h3, h4⟩ := h
  refine ⟨h1, h2, h3, ?_⟩
  rcases h4 with h4 | ⟨b, off, ha, hlt, hc⟩
  · exact .inl h4
  · exact .inr ⟨b, off, ha, Nat.lt_of_lt_of_le hlt hb.size, fun i hi => ⟨(hb.cell (p := ⟨b, off + i * 2, none⟩) hlt).trans (hc i hi).1, (hb.cell (p := ⟨b, off + i * 2 + 1, none⟩) hlt).trans (hc i hi).2⟩⟩

/-- A row of queries whose block, if it has one, is not below lo and below hi. -/
def OwnQy (w : World) (lo hi : Nat) (v : Value) (n : Nat) (l : List (Int × Int)) : Prop :=
  w.ownsRow lo 66 2 v n (qryRow l) ∧ lo ≤ hi ∧ hi ≤ w.heap.size ∧ (∀ g, v.ownBlock = some g → g < hi)
theorem OwnQy.kept {w w' : World} {lo hi n : Nat} {v : Value} {l : List (Int × Int)} {row : Option Nat} (h : OwnQy w lo hi v n l) (hg : w.grownBy w' row) (hr : ∀ j, row = some j → j < lo ∨ hi ≤ j) : OwnQy w' lo hi v n l := by
  obtain ⟨h1, h2, h3, h4⟩ := h
  refine ⟨h1.kept hg ?_, h2, Nat.le_trans h3 hg.size, h4⟩
  cases hv : v.ownBlock with
  | none => exact .inl rfl
  | some g =>
    refine .inr (fun e => ?_)
    have := (h1.lt g hv).1
    have := h4 g hv
    have := hr g e.symm
    omega
theorem OwnQy.below {w w' : World} {lo hi n : Nat} {v : Value} {l : List (Int × Int)} (h : OwnQy w lo hi v n l) (hb : Below w.heap.size w w') : OwnQy w' lo hi v n l :=
  h.kept (row := none) (Below.grownNone hb _) (fun j e => by cases e)
theorem OwnQy.len {w : World} {lo hi n : Nat} {v : Value} {l : List (Int × Int)} (h : OwnQy w lo hi v n l) : l.length = n := by
  have := h.1.1
  rw [qryRow_length] at this
  omega
theorem OwnQy.ops {w : World} {lo hi n : Nat} {v : Value} {l : List (Int × Int)} (h : OwnQy w lo hi v n l) : ∃ a cap, v = .slice a n cap ∧ Qrs w a n cap l := by
  have hl := h.len
  rcases h.1.2 with ⟨rfl, rfl⟩ | ⟨g, cap, cur, rfl, -, hg, h1, h2, h3, h4⟩
  · exact ⟨none, 0, rfl, hl, Nat.le_refl _, by simp [maxLen], .inl rfl⟩
  · refine ⟨_, cap, rfl, hl, h1, h2, .inr ⟨g, 0, rfl, (Array.getElem?_eq_some_iff.1 hg).1, fun i hi => ?_⟩⟩
    have hcell : ∀ j, j < n * 2 → w.cell? ⟨g, j, none⟩ = (qryRow l)[j]? := by
      intro j hj
      have : cur[j]? = (qryRow l)[j]? := by
        rw [← h4, List.getElem?_take, if_pos hj, Array.getElem?_toList]
      simp [World.cell?, hg, this]
    have := qryRow_at l i (by omega)
    rw [Nat.zero_add, hcell _ (by omega), hcell _ (by omega)]
    exact this
theorem OwnQy.made {w w' : World} {n : Nat} {v : Value} {l : List (Int × Int)} (h : w'.ownsRow w.heap.size 66 2 v n (qryRow l)) (hs : w.heap.size ≤ w'.heap.size) : OwnQy w' w.heap.size w'.heap.size v n l :=
  ⟨h, hs, Nat.le_refl _, fun g hg => (h.lt g hg).2⟩
theorem infoQy : (Try.prog.info? 66).map (fun i => (i.zero, i.size, i.bytes)) = some (some (.agg #[.int .i64 0, .int .i64 0]), 2, 16) := by kernel_rfl
theorem cell_two_newQ (w : World) (p : Int) (x : Int) (T : TypeId) : ∀ j u, [Value.int .i64 p, Value.int .i64 x][j]? = some u → (w.alloc (.cells #[.int .i64 p, .int .i64 x] T)).cell? ((⟨w.heap.size, 0, none⟩ : Addr).add j) = some u := by
  intro j u h
  match j, h with
  | 0, h => simp at h; subst h; simp [Addr.add, World.cell?_alloc_new]
  | 1, h => simp at h; subst h; simp [Addr.add, World.cell?_alloc_new]
  | j + 2, h => simp at h
theorem two_oneCellQ (p : Int) (x : Int) : ∀ u ∈ [Value.int .i64 p, Value.int .i64 x], u.oneCell' = true := by
  intro u h
  simp only [List.mem_cons, List.not_mem_nil, or_false] at h
  rcases h with rfl | rfl <;> rfl

theorem eqQuery_same (p : Int) (x : Int) (w : World) :
    Calls Try.prog 84 #[.agg #[.int .i64 p, .int .i64 x], .agg #[.int .i64 p, .int .i64 x]] w fun e w' => e = .returned (.bool true) ∧ Below w.heap.size w w' := by
  go_enter Try.func84, Try.ntmps84
  go_wp2
  go_returns
  exact ⟨rfl, (by first | (go_grown; done) | (refine below_drewN ?_ _; go_grown; done) | (refine (below_drewN _ ?_); go_grown; done))⟩
set_option maxHeartbeats 1000000 in
theorem eqQueryS_same (a1 : Option Addr) (n1 cap1 : Nat) (a2 : Option Addr) (n2 cap2 : Nat) (l : List (Int × Int)) (w : World) (h1 : Qrs w a1 n1 cap1 l) (h2 : Qrs w a2 n2 cap2 l) :
    Calls Try.prog 39 #[.slice a1 n1 cap1, .slice a2 n2 cap2] w fun e w' => e = .returned (.bool true) ∧ Below w.heap.size w w' := by
  obtain ⟨hl1, hcap1, hm1, h41⟩ := h1
  obtain ⟨hl2, hcap2, hm2, h42⟩ := h2
  obtain rfl : n1 = n2 := by omega
  unfold maxLen at hm1
  have HL := Lib.hid hl1; clear hl1 hl2 hm2 hcap2
  have H1 := Lib.hid h41; clear h41
  have H2 := Lib.hid h42; clear h42
  go_enter Try.func39, Try.ntmps39
  go_wp2
  go_loopw [5] (fun i wr => ∃ k : Nat, k ≤ n1 ∧ i = .int .i64 k ∧ Hid (Below w.heap.size w wr)) (fun i _ => n1 - (intOf i).toNat)
  case atStart => exact ⟨0, Nat.zero_le _, rfl, Below.refl _ _⟩
  case round =>
    obtain ⟨k, hk, rfl, HW⟩ := hrel
    by_cases hlt : k < n1
    · rcases H1.out with h4 | ⟨b, off, rfl, hb, hcs⟩
      · omega
      · rcases H2.out with h4 | ⟨b', off', rfl, hb', hcs'⟩
        · omega
        · have hck := (HW.out.cell (p := ⟨b, off + k * 2, none⟩) hb).trans (hcs k hlt).1
          have hcl := (HW.out.cell (p := ⟨b, off + k * 2 + 1, none⟩) hb).trans (hcs k hlt).2
          have hck' := (HW.out.cell (p := ⟨b', off' + k * 2, none⟩) hb').trans (hcs' k hlt).1
          have hcl' := (HW.out.cell (p := ⟨b', off' + k * 2 + 1, none⟩) hb').trans (hcs' k hlt).2
          clear hcs hcs'
          obtain ⟨⟨p, x⟩, hx⟩ : ∃ x, x = l[k]?.getD (0, 0) := ⟨_, rfl⟩
          rw [← hx] at hck hck' hcl hcl'
          clear hx
          have hk0 : (0 : Int) ≤ (k : Int) := Int.natCast_nonneg _
          have hkn : (k : Int) < (n1 : Int) := by omega
          go_wp2
          go_region_with (go_at_call 84; refine (eqQuery_same _ _ _).mono ?_; rintro e w2 ⟨rfl, hb2⟩; have HW2 := Lib.hid (below_callD HW.out hb2); clear hb2)
          all_goals
            go_wp2
            go_roundw
            case rel => exact ⟨k + 1, by omega, by go_num, HW2.out⟩
            case measure => simp [intOf]; omega
    · have hlt' : n1 ≤ k := by omega
      clear hlt
      go_wp2
      go_returns
      exact ⟨rfl, HW.out⟩
theorem eqQueryS_own {lo hi n lo' hi' n' : Nat} {v v' : Value} {l : List (Int × Int)} (w : World) (h : OwnQy w lo hi v n l) (h' : OwnQy w lo' hi' v' n' l) :
    Calls Try.prog 39 #[v, v'] w fun e w' => e = .returned (.bool true) ∧ Below w.heap.size w w' := by
  obtain ⟨a, cap, rfl, hN⟩ := h.ops
  obtain ⟨a', cap', rfl, hN'⟩ := h'.ops
  exact eqQueryS_same _ _ _ _ _ _ l _ hN hN'
/-- The marks of queries from k on. -/
def seqQy (k : Int) : Nat → List (Int × Int)
  | 0 => []
  | n + 1 => (k, k + 1) :: seqQy (k + 2) n
theorem seqQy_length (k : Int) (n : Nat) : (seqQy k n).length = n := by
  induction n generalizing k with
  | zero => rfl
  | succ n ih => simp [seqQy, ih]
theorem seqQy_at (k : Int) (n i : Nat) (h : i < n) : (seqQy k n)[i]?.getD (0, 0) = (k + 2 * i, k + 2 * i + 1) := by
  induction n generalizing k i with
  | zero => omega
  | succ n ih =>
    cases i with
    | zero => simp [seqQy]
    | succ i =>
      simp only [seqQy, List.getElem?_cons_succ]
      rw [ih (k + 2) i (by omega), show k + 2 + 2 * (i : Int) = k + 2 * ((i + 1 : Nat) : Int) by omega]
theorem seqQy_snoc (k : Int) (n : Nat) : seqQy k (n + 1) = seqQy k n ++ [(k + 2 * n, k + 2 * n + 1)] := by
  induction n generalizing k with
  | zero => simp [seqQy]
  | succ n ih =>
    rw [seqQy, ih (k + 2), seqQy, List.cons_append, show k + 2 + 2 * (n : Int) = k + 2 * ((n + 1 : Nat) : Int) by omega]
def markedQy (k : Int) (l : List (Int × Int)) (i : Nat) : List (Int × Int) := seqQy k i ++ l.drop i
theorem markedQy_zero (k : Int) (l : List (Int × Int)) : markedQy k l 0 = l := by simp [markedQy, seqQy]
theorem markedQy_all (k : Int) (l : List (Int × Int)) : markedQy k l l.length = seqQy k l.length := by simp [markedQy]
theorem qryRow_append (a b : List (Int × Int)) : qryRow (a ++ b) = qryRow a ++ qryRow b := by simp [qryRow]
theorem markedQy_set (k : Int) (l : List (Int × Int)) (i : Nat) (h : i < l.length) : ((qryRow (markedQy k l i)).set (i * 2) (.int .i64 (k + 2 * i))).set (i * 2 + 1) (.int .i64 (k + 2 * i + 1)) = qryRow (markedQy k l (i + 1)) := by
  obtain ⟨o, t, ht, hd⟩ : ∃ o t, l.drop i = o :: t ∧ l.drop (i + 1) = t := ⟨_, _, List.drop_eq_getElem_cons h, rfl⟩
  unfold markedQy
  rw [ht, hd, seqQy_snoc, List.append_assoc, qryRow_append, qryRow_append]
  rw [List.set_append_right _ _ (by rw [qryRow_length, seqQy_length]; omega), List.set_append_right _ _ (by rw [qryRow_length, seqQy_length]; omega)]
  rw [qryRow_length, seqQy_length, Nat.sub_self, show i * 2 + 1 - i * 2 = 1 by omega]
  simp [qryRow, qryCells]
set_option maxHeartbeats 2000000 in
theorem markQueryS_own {lo hi n : Nat} {v : Value} {l : List (Int × Int)} (w : World) (k : Int) (h : OwnQy w lo hi v n l) (hk0 : 0 ≤ k) (hk1 : k ≤ 1000000) (hn : n ≤ 1048576) :
    Calls Try.prog 43 #[v, .int .i64 k] w fun e w' => e = .returned (.int .i64 (k + 2 * n)) ∧ OwnQy w' lo hi v n (seqQy k n) ∧ w.grownBy w' v.ownBlock := by
  have hl : l.length = n := h.len
  obtain ⟨h1, h2, h3, h4⟩ := h
  rcases h1.2 with ⟨rfl, rfl⟩ | ⟨g, cap, cur, rfl, hlo, hg, hnc, hcm, -, -⟩
  · go_enter Try.func43, Try.ntmps43
    go_wp2
    go_loopw [1, 5] (fun kv i wr => kv = .int .i64 k ∧ i = .int .i64 0 ∧ wr = w) (fun _ i _ => 0)
    case atStart => exact ⟨rfl, rfl, rfl⟩
    case round =>
      obtain ⟨rfl, rfl, rfl⟩ := hrel
      go_wp2
      go_returns
      exact ⟨by simp, ⟨⟨by simp [qryRow, seqQy], .inl ⟨rfl, rfl⟩⟩, h2, h3, h4⟩, ⟨rfl, rfl, rfl, Nat.le_refl _, fun _ _ _ => rfl⟩⟩
  · unfold maxLen at hcm
    have H1 := Lib.hid h1; clear h1 hg
    have HL := Lib.hid hl; clear hl
    have hgw : g < w.heap.size := by have := h4 g rfl; omega
    have HB := Lib.hid (show w.grownBy w (some g) from ⟨rfl, rfl, rfl, Nat.le_refl _, fun _ _ _ => rfl⟩)
    have H1' := Lib.hid (show w.ownsRow lo 66 2 (.slice (some ⟨g, 0, none⟩) n cap) n (qryRow (markedQy k l 0)) by rw [markedQy_zero]; exact H1.out)
    have H4 := Lib.hid h4; clear h4
    clear H1
    go_enter Try.func43, Try.ntmps43
    go_wp2
    go_loopw [1, 5] (fun kv i wr => ∃ j : Nat, j ≤ n ∧ i = .int .i64 j ∧ kv = .int .i64 (k + 2 * j) ∧ Hid (wr.ownsRow lo 66 2 (.slice (some ⟨g, 0, none⟩) n cap) n (qryRow (markedQy k l j))) ∧ Hid (w.grownBy wr (some g))) (fun _ i _ => n - (intOf i).toNat)
    case atStart => exact ⟨0, Nat.zero_le _, rfl, by simp, H1', HB⟩
    case round =>
      obtain ⟨j, hj, rfl, rfl, HR, HG⟩ := hrel
      clear H1' HB
      by_cases hlt : j < n
      · have hst := markedQy_set k l j (by have := HL.out; omega)
        have HST := Lib.hid hst; clear hst
        have hlen : (qryRow (markedQy k l j)).length = n * 2 := HR.out.1
        have hfr := HR.out.frozenAt (j * 2)
        have hfr1 := HR.out.frozenAt (j * 2 + 1)
        have hcd : ∃ y, wr.cell? ⟨g, j * 2, none⟩ = some y := ⟨_, (HR.out.cellAt (j * 2) (by omega)).trans (List.getElem?_eq_getElem (by omega))⟩
        have hcd1 : ∃ y, wr.cell? ⟨g, j * 2 + 1, none⟩ = some y := ⟨_, (HR.out.cellAt (j * 2 + 1) (by omega)).trans (List.getElem?_eq_getElem (by omega))⟩
        obtain ⟨y, hcd⟩ := hcd
        obtain ⟨y1, hcd1⟩ := hcd1
        clear hlen
        have hk0' : (0 : Int) ≤ (j : Int) := Int.natCast_nonneg _
        have hkn : (j : Int) < (n : Int) := by omega
        go_wp2
        go_roundw
        case rel =>
          have hs := HR.out.stored (j * 2) (Value.int .i64 (k + 2 * (j : Int)))
          have hs2 := hs.1.stored (j * 2 + 1) (Value.int .i64 (k + 2 * (j : Int) + 1))
          rw [HST.out] at hs2
          exact ⟨j + 1, by omega, by go_num, by go_num, hs2.1, grownR (grownR HG.out hs.2) hs2.2⟩
        case measure => simp [intOf]; omega
      · obtain rfl : j = n := by omega
        go_wp2
        go_returns
        refine ⟨rfl, ⟨?_, h2, Nat.le_trans h3 HG.out.size, H4.out⟩, HG.out⟩
        have := HR.out
        rw [← HL.out, markedQy_all, HL.out] at this
        exact this
set_option maxHeartbeats 2000000 in
theorem heldQueryS_own {lo hi n : Nat} {v : Value} (w : World) (k : Int) (h : OwnQy w lo hi v n (seqQy k n)) (hk0 : 0 ≤ k) (hk1 : k ≤ 1000000) (hn : n ≤ 1048576) :
    Calls Try.prog 44 #[v, .int .i64 k] w fun e w' => e = .returned (.int .i64 (k + 2 * n)) ∧ Below w.heap.size w w' := by
  obtain ⟨a, cap, rfl, hN⟩ := h.ops
  have hcm : cap ≤ 9223372036854775807 := by have := hN.2.2.1; unfold maxLen at this; omega
  have hnc := hN.2.1
  have H4 := Lib.hid hN.2.2.2
  clear hN h
  go_enter Try.func44, Try.ntmps44
  go_wp2
  go_loopw [1, 5] (fun kv i wr => ∃ j : Nat, j ≤ n ∧ i = .int .i64 j ∧ kv = .int .i64 (k + 2 * j) ∧ Hid (Below w.heap.size w wr)) (fun _ i _ => n - (intOf i).toNat)
  case atStart => exact ⟨0, Nat.zero_le _, rfl, by simp, Below.refl _ _⟩
  case round =>
    obtain ⟨j, hj, rfl, rfl, HW⟩ := hrel
    by_cases hlt : j < n
    · rcases H4.out with h4 | ⟨b, off, rfl, hb, hcs⟩
      · omega
      · have hck := (HW.out.cell (p := ⟨b, off + j * 2, none⟩) hb).trans (hcs j hlt).1
        have hcl := (HW.out.cell (p := ⟨b, off + j * 2 + 1, none⟩) hb).trans (hcs j hlt).2
        rw [seqQy_at k n j hlt] at hck hcl
        clear hcs
        simp only at hck hcl
        have hk0' : (0 : Int) ≤ (j : Int) := Int.natCast_nonneg _
        have hkn : (j : Int) < (n : Int) := by omega
        go_wp2
        go_roundw
        case rel => exact ⟨j + 1, by omega, by go_num, by go_num, HW.out⟩
        case measure => simp [intOf]; omega
    · obtain rfl : j = n := by omega
      go_wp2
      go_returns
      exact ⟨rfl, HW.out⟩
end Go.Proofs.Ytolgclajlklmaaa
