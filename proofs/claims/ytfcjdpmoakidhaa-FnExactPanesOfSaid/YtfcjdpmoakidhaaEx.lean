/-
  Rows of numbers in memory of the call's own, as the exact laws make, mark, compare and hold them.
-/
import Derived.Test.YtfcjdpmoakidhaaT
import Derived.Maps.AppendAt
namespace Go.Proofs.Ytfcjdpmoakidhaa
set_option linter.unusedSimpArgs false
set_option linter.unusedVariables false
open Go.RowKit

theorem Below.grownNone {w w' : World} (hb : Below w.heap.size w w') (row : Option Nat) : w.grownBy w' row :=
  ⟨hb.os, hb.tape, hb.output, hb.size, fun k hk _ => hb.block k hk⟩

/-- A row of numbers whose block, if it has one, is not below lo and below hi. -/
def OwnR (w : World) (lo hi : Nat) (v : Value) (n : Nat) (l : List Int) : Prop :=
  w.ownsRow lo 3 1 v n (l.map (Value.int .i64)) ∧ lo ≤ hi ∧ hi ≤ w.heap.size ∧ (∀ g, v.ownBlock = some g → g < hi)

theorem OwnR.kept {w w' : World} {lo hi n : Nat} {v : Value} {l : List Int} {row : Option Nat} (h : OwnR w lo hi v n l) (hg : w.grownBy w' row) (hr : ∀ j, row = some j → j < lo ∨ hi ≤ j) : OwnR w' lo hi v n l := by
  obtain ⟨h1, h2, h3, h4⟩ := h
  refine ⟨h1.kept hg ?_, h2, Nat.le_trans h3 hg.size, h4⟩
  cases hv : v.ownBlock with
  | none => exact .inl rfl
  | some g =>
    refine .inr (fun e => ?_)
    have := (h1.lt g hv).1
    have := h4 g hv
    have := hr g e.symm
    omega
theorem OwnR.below {w w' : World} {lo hi n : Nat} {v : Value} {l : List Int} (h : OwnR w lo hi v n l) (hb : Below w.heap.size w w') : OwnR w' lo hi v n l :=
  h.kept (row := none) (Below.grownNone hb _) (fun j e => by cases e)
theorem OwnR.nums {w : World} {lo hi n : Nat} {v : Value} {l : List Int} (h : OwnR w lo hi v n l) : ∃ a cap, v = .slice a n cap ∧ Nums .i64 w a n cap l ∧ l.length = n := by
  have hl : l.length = n := by have := h.1.1; simpa using this
  rcases h.1.2 with ⟨rfl, rfl⟩ | ⟨g, cap, cur, rfl, -, hg, h1, h2, -⟩
  · exact ⟨none, 0, rfl, ⟨hl, Nat.le_refl _, by simp [maxLen], .inl rfl⟩, hl⟩
  · exact ⟨_, cap, rfl, Nums.of_owns (g := g) h.1, hl⟩
theorem owns_lower {w : World} {base base' e size n : Nat} {v : Value} {xs : List Value} (h : w.ownsRow base e size v n xs) (hb : base' ≤ base) : w.ownsRow base' e size v n xs := by
  obtain ⟨h1, h2⟩ := h
  refine ⟨h1, ?_⟩
  rcases h2 with h2 | ⟨g, cap, cur, hv, hg, rest⟩
  · exact .inl h2
  · exact .inr ⟨g, cap, cur, hv, Nat.le_trans hb hg, rest⟩
/-- A row that a call has made. -/
theorem OwnR.made {w w' : World} {n : Nat} {v : Value} {l : List Int} (h : w'.ownsRow w.heap.size 3 1 v n (l.map (Value.int .i64))) (hs : w.heap.size ≤ w'.heap.size) : OwnR w' w.heap.size w'.heap.size v n l :=
  ⟨h, hs, Nat.le_refl _, fun g hg => (h.lt g hg).2⟩

/-- A row is made, with these numbers. -/
def MadeRow (l : List Int) (n : Nat) (w : World) (e : Ending) (w' : World) : Prop :=
  ∃ v, e = .returned v ∧ OwnR w' w.heap.size w'.heap.size v n l ∧ Below w.heap.size w w'

set_option maxHeartbeats 1000000 in
theorem toIntS_own (a : Option Addr) (n cap : Nat) (l : List Int) (w : World) (h : Nums .i64 w a n cap l) (hn : n ≤ 1048576) :
    Calls Try.prog 16 #[.slice a n cap] w (MadeRow l n w) := by
  obtain ⟨i0, hi, hz0, hz1, hz2⟩ := info_parts infoInt
  obtain ⟨hl, hcap, hm, h4⟩ := h
  unfold maxLen at hm
  have HL := Lib.hid hl; clear hl
  have H4 := Lib.hid h4; clear h4
  go_enter Try.func16, Try.ntmps16
  go_wp2_with (at_make; refine wpList_make_full _ rfl _ _ 29 rfl w.heap.size 3 i0 (.int .i64 0) 1 Try.underlying29 hi hz0 hz1 .i64 .i64 _ _ n rfl rfl rfl rfl ?b1 ?b2 ?b3 ?_)
  case b1 => rw [hz2]; omega
  case b2 => unfold maxLen; omega
  case b3 => exact Nat.le_refl _
  intro w1 hown hgrow
  have hown' : w1.ownsRow w.heap.size 3 1 (.slice (some ⟨w.heap.size, 0, none⟩) n n) n ((partly l 0).map (Value.int .i64)) := by
    have e : (madeCells #[Value.int .i64 0] n).toList = (partly l 0).map (Value.int .i64) := by
      rw [toList_madeCells_one, partly_zero, HL.out, List.map_replicate]
    rw [← e]; exact hown
  have hB : Below w.heap.size w w1 := (Below.refl _ _).grown hgrow (Nat.le_refl _) (fun k hk => by simp at hk)
  have HO := Lib.hid hown'; clear hown' hown
  have HB := Lib.hid hB; clear hB hgrow
  clear hi hz0 hz1 hz2
  go_wp2
  go_loopw [4] (fun i wr => ∃ k : Nat, k ≤ n ∧ i = .int .i64 k ∧ Hid (wr.ownsRow w.heap.size 3 1 (.slice (some ⟨w.heap.size, 0, none⟩) n n) n ((partly l k).map (Value.int .i64))) ∧ Hid (Below w.heap.size w wr)) (fun i _ => n - (intOf i).toNat)
  case atStart => exact ⟨0, Nat.zero_le _, rfl, HO, HB⟩
  case round =>
    obtain ⟨k, hk, rfl, HR, HW⟩ := hrel
    clear HO HB
    by_cases hlt : k < n
    · rcases H4.out with h4 | ⟨b, off, rfl, hb, hcs⟩
      · omega
      · have hck := (HW.out.cell (p := ⟨b, off + k, none⟩) hb).trans (hcs k hlt)
        clear hcs
        obtain ⟨x, hx⟩ : ∃ x, x = l[k]?.getD 0 := ⟨_, rfl⟩
        rw [← hx] at hck
        have hst := partly_set l k (by have := HL.out; omega)
        rw [← hx] at hst
        have HX := Lib.hid hx; clear hx
        have HST := Lib.hid hst; clear hst
        have hfr := HR.out.frozenAt k
        have hcd : ∃ y, wr.cell? ⟨w.heap.size, k, none⟩ = some y := by
          have hh := HR.out.cellAt k (by omega)
          have hlen : k < ((partly l k).map (Value.int .i64)).length := by rw [HR.out.1]; omega
          exact ⟨_, hh.trans (List.getElem?_eq_getElem hlen)⟩
        obtain ⟨y, hcd⟩ := hcd
        have hk0 : (0 : Int) ≤ (k : Int) := Int.natCast_nonneg _
        have hkn : (k : Int) < (n : Int) := by omega
        go_wp2
        go_roundw
        case rel =>
          refine ⟨k + 1, by omega, by go_num, ?_, HW.out.setCell (Nat.le_refl _) _⟩
          have hs := HR.out.stored k (Value.int .i64 x)
          rw [← List.map_set, HST.out] at hs
          exact hs.1
        case measure => simp [intOf]; omega
    · have hkn : k = l.length := by have := HL.out; omega
      have HKN := Lib.hid hkn; clear hkn
      have hlt' : n ≤ k := by omega
      clear hlt
      go_wp2
      go_returns
      refine ⟨_, rfl, OwnR.made ?_ HW.out.size, HW.out⟩
      have := HR.out
      rw [HKN.out, partly_all] at this
      exact this

theorem eqIntS_own {lo hi n lo' hi' n' : Nat} {v v' : Value} {l : List Int} (w : World) (h : OwnR w lo hi v n l) (h' : OwnR w lo' hi' v' n' l) :
    Calls Try.prog 19 #[v, v'] w fun e w' => e = .returned (.bool true) ∧ Below w.heap.size w w' := by
  obtain ⟨a, cap, rfl, hN, -⟩ := h.nums
  obtain ⟨a', cap', rfl, hN', -⟩ := h'.nums
  exact eqIntS_same _ _ _ _ _ _ l _ hN hN'

/-- k, k + 1 and so on: n numbers. -/
def seq (k : Int) : Nat → List Int
  | 0 => []
  | n + 1 => k :: seq (k + 1) n
theorem seq_length (k : Int) (n : Nat) : (seq k n).length = n := by
  induction n generalizing k with
  | zero => rfl
  | succ n ih => simp [seq, ih]
theorem seq_at (k : Int) (n i : Nat) (h : i < n) : (seq k n)[i]?.getD 0 = k + i := by
  induction n generalizing k i with
  | zero => omega
  | succ n ih =>
    cases i with
    | zero => simp [seq]
    | succ i => simp [seq, ih (k + 1) i (by omega)]; omega

/-- The first i numbers of l replaced by those from k on. -/
def marked (k : Int) (l : List Int) (i : Nat) : List Int := (seq k i) ++ l.drop i
theorem marked_zero (k : Int) (l : List Int) : marked k l 0 = l := by simp [marked, seq]
theorem marked_all (k : Int) (l : List Int) : marked k l l.length = seq k l.length := by simp [marked]
theorem seq_snoc (k : Int) (n : Nat) : seq k (n + 1) = seq k n ++ [k + n] := by
  induction n generalizing k with
  | zero => simp [seq]
  | succ n ih =>
    rw [seq, ih (k + 1), seq, List.cons_append]
    congr 2
    simp
    omega
theorem marked_set (k : Int) (l : List Int) (i : Nat) (h : i < l.length) : (marked k l i).set i (k + i) = marked k l (i + 1) := by
  unfold marked
  rw [List.set_append_right _ _ (by rw [seq_length]; omega), seq_length, Nat.sub_self, List.drop_eq_getElem_cons h, List.set_cons_zero, seq_snoc, List.append_assoc, List.singleton_append]

set_option maxHeartbeats 1000000 in
theorem markIntS_own {lo hi n : Nat} {v : Value} {l : List Int} (w : World) (k : Int) (h : OwnR w lo hi v n l) (hk0 : 0 ≤ k) (hk1 : k ≤ 1000000) (hn : n ≤ 1048576) :
    Calls Try.prog 20 #[v, .int .i64 k] w fun e w' => e = .returned (.int .i64 (k + n)) ∧ OwnR w' lo hi v n (seq k n) ∧ w.grownBy w' v.ownBlock := by
  have hl : l.length = n := by have := h.1.1; simpa using this
  obtain ⟨h1, h2, h3, h4⟩ := h
  rcases h1.2 with ⟨rfl, rfl⟩ | ⟨g, cap, cur, rfl, hlo, hg, hnc, hcm, -, -⟩
  · go_enter Try.func20, Try.ntmps20
    go_wp2
    go_loopw [1, 5] (fun kv i wr => kv = .int .i64 k ∧ i = .int .i64 0 ∧ wr = w) (fun _ i _ => 0)
    case atStart => exact ⟨rfl, rfl, rfl⟩
    case round =>
      obtain ⟨rfl, rfl, rfl⟩ := hrel
      go_wp2
      go_returns
      exact ⟨by simp, ⟨⟨by simp [seq], .inl ⟨rfl, rfl⟩⟩, h2, h3, h4⟩, ⟨rfl, rfl, rfl, Nat.le_refl _, fun _ _ _ => rfl⟩⟩
  · unfold maxLen at hcm
    have H1 := Lib.hid h1; clear h1 hg
    have HL := Lib.hid hl; clear hl
    have hgw : g < w.heap.size := by have := h4 g rfl; omega
    have HB := Lib.hid (show w.grownBy w (some g) from ⟨rfl, rfl, rfl, Nat.le_refl _, fun _ _ _ => rfl⟩)
    have H1' := Lib.hid (show w.ownsRow lo 3 1 (.slice (some ⟨g, 0, none⟩) n cap) n ((marked k l 0).map (Value.int .i64)) by rw [marked_zero]; exact H1.out)
    have H4 := Lib.hid h4; clear h4
    clear H1
    go_enter Try.func20, Try.ntmps20
    go_wp2
    go_loopw [1, 5] (fun kv i wr => ∃ j : Nat, j ≤ n ∧ i = .int .i64 j ∧ kv = .int .i64 (k + j) ∧ Hid (wr.ownsRow lo 3 1 (.slice (some ⟨g, 0, none⟩) n cap) n ((marked k l j).map (Value.int .i64))) ∧ Hid (w.grownBy wr (some g))) (fun _ i _ => n - (intOf i).toNat)
    case atStart => exact ⟨0, Nat.zero_le _, rfl, by simp, H1', HB⟩
    case round =>
      obtain ⟨j, hj, rfl, rfl, HR, HG⟩ := hrel
      clear H1' HB
      by_cases hlt : j < n
      · have hst := marked_set k l j (by have := HL.out; omega)
        have HST := Lib.hid hst; clear hst
        have hfr := HR.out.frozenAt j
        have hcd : ∃ y, wr.cell? ⟨g, j, none⟩ = some y := by
          have hh := HR.out.cellAt j (by omega)
          have hlen : j < ((marked k l j).map (Value.int .i64)).length := by rw [HR.out.1]; omega
          exact ⟨_, hh.trans (List.getElem?_eq_getElem hlen)⟩
        obtain ⟨y, hcd⟩ := hcd
        have hk0' : (0 : Int) ≤ (j : Int) := Int.natCast_nonneg _
        have hkn : (j : Int) < (n : Int) := by omega
        go_wp2
        go_roundw
        case rel =>
          refine ⟨j + 1, by omega, by go_num, by go_num, ?_, ?_⟩
          · have hs := HR.out.stored j (Value.int .i64 (k + j))
            rw [← List.map_set, HST.out] at hs
            exact hs.1
          · exact ⟨HG.out.os, HG.out.tape, HG.out.output, by have := HG.out.size; simpa [World.setCell] using this, fun i hi hne => (Below.heap_setCell _ _ _ _ (by show i ≠ g; intro e; exact hne (by rw [e]))).trans (HG.out.block i hi hne)⟩
        case measure => simp [intOf]; omega
      · obtain rfl : j = n := by omega
        go_wp2
        go_returns
        refine ⟨rfl, ⟨?_, h2, Nat.le_trans h3 HG.out.size, H4.out⟩, HG.out⟩
        have := HR.out
        rw [← HL.out, marked_all, HL.out] at this
        exact this

set_option maxHeartbeats 1000000 in
theorem heldIntS_own {lo hi n : Nat} {v : Value} (w : World) (k : Int) (h : OwnR w lo hi v n (seq k n)) (hk0 : 0 ≤ k) (hk1 : k ≤ 1000000) (hn : n ≤ 1048576) :
    Calls Try.prog 25 #[v, .int .i64 k] w fun e w' => e = .returned (.int .i64 (k + n)) ∧ Below w.heap.size w w' := by
  obtain ⟨a, cap, rfl, hN, -⟩ := h.nums
  have hcm : cap ≤ 9223372036854775807 := by have := hN.2.2.1; unfold maxLen at this; omega
  have hnc := hN.2.1
  have H4 := Lib.hid hN.2.2.2
  clear hN h
  go_enter Try.func25, Try.ntmps25
  go_wp2
  go_loopw [1, 5] (fun kv i wr => ∃ j : Nat, j ≤ n ∧ i = .int .i64 j ∧ kv = .int .i64 (k + j) ∧ Hid (Below w.heap.size w wr)) (fun _ i _ => n - (intOf i).toNat)
  case atStart => exact ⟨0, Nat.zero_le _, rfl, by simp, Below.refl _ _⟩
  case round =>
    obtain ⟨j, hj, rfl, rfl, HW⟩ := hrel
    by_cases hlt : j < n
    · rcases H4.out with h4 | ⟨b, off, rfl, hb, hcs⟩
      · omega
      · have hck := (HW.out.cell (p := ⟨b, off + j, none⟩) hb).trans (hcs j hlt)
        rw [seq_at k n j hlt] at hck
        clear hcs
        have hk0' : (0 : Int) ≤ (j : Int) := Int.natCast_nonneg _
        have hkn : (j : Int) < (n : Int) := by omega
        go_wp2
        go_roundw
        case rel => exact ⟨j + 1, by omega, by go_num, by go_num, HW.out⟩
        case measure => simp [intOf]; omega
    · obtain rfl : j = n := by omega
      go_wp2
      go_returns
      exact ⟨rfl, HW.out⟩
end Go.Proofs.Ytfcjdpmoakidhaa
