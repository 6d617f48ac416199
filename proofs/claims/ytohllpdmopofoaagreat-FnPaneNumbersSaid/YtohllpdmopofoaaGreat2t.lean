/-
  Draws of windows, rows compared, the law that rows are windows.
-/
import Derived.Test.YtohllpdmopofoaaGreatDw
import Derived.Test.YtohllpdmopofoaaGreat2s
namespace Go.Proofs.YtohllpdmopofoaaGreat
set_option linter.unusedSimpArgs false
set_option linter.unusedVariables false
open Go.RowKit
theorem Agg.low_step {k n : Int} {v : Agg.V} (hk : Agg.isKind k = true) (hn : Agg.isItem n = true) (h : Agg.ok k v = true) : (Agg.low k (Agg.comb k v (Agg.lift k n))).2 = true := by
  simp only [Agg.isItem, decide_eq_true_eq] at hn
  rcases Agg.kinds hk with rfl | rfl | rfl | rfl | rfl | rfl | rfl | rfl | rfl | rfl <;> simp [Agg.ok, Agg.comb, Agg.lift, Agg.low] at * <;> (repeat' split) <;> first | omega | (simp_all; done) | (simp_all <;> omega)
/-- Some items have a number. -/
theorem Agg.aLow_number {k : Int} {l : List Int} (hk : Agg.isKind k = true) (h : Agg.itemsOk l = true) (hne : l ≠ []) : Agg.aLow k (Agg.fold k l) = (Agg.number k l, true) := by
  have hs : (Agg.aLow k (Agg.fold k l)).2 = true := by
    rw [Agg.aLow_of hk (Agg.ok_fold_all hk h)]
    obtain ⟨l3, x, rfl⟩ : ∃ l3 x, l = l3 ++ [x] := ⟨l.dropLast, l.getLast hne, (List.dropLast_concat_getLast hne).symm⟩
    have h3 : Agg.itemsOk l3 = true := by have := Agg.items_take h l3.length; simpa using this
    rw [Agg.fold_snoc]
    exact Agg.low_step hk (Agg.items_mem h x (by simp)) (Agg.ok_fold_all hk h3)
  obtain ⟨⟨n, b⟩, hb⟩ : ∃ p, p = Agg.aLow k (Agg.fold k l) := ⟨_, rfl⟩
  rw [← hb] at hs ⊢
  simp only at hs
  subst hs
  simp [Agg.number, Agg.num, ← hb]
theorem Agg.slides_at (k : Int) (l : List Int) (s j : Nat) (h : j < l.length + 1 - s) : (Agg.slides k l s)[j]?.getD 0 = Agg.number k ((l.drop j).take s) := by
  simp [Agg.slides, h]
set_option maxHeartbeats 1000000 in
theorem waInts_same (a1 : Option Addr) (n1 cap1 : Nat) (a2 : Option Addr) (n2 cap2 : Nat) (l : List Int) (w : World) (h1 : Nums .i64 w a1 n1 cap1 l) (h2 : Nums .i64 w a2 n2 cap2 l) :
    Calls Tryz.prog 10 #[.slice a1 n1 cap1, .slice a2 n2 cap2] w fun e w' => e = .returned (.bool true) ∧ Below w.heap.size w w' := by
  obtain ⟨hl1, hcap1, hm1, h41⟩ := h1
  obtain ⟨hl2, hcap2, hm2, h42⟩ := h2
  obtain rfl : n1 = n2 := by omega
  unfold maxLen at hm1
  have HL := Lib.hid hl1; clear hl1 hl2 hm2 hcap2
  have H1 := Lib.hid h41; clear h41
  have H2 := Lib.hid h42; clear h42
  go_enter Tryz.func10, Tryz.ntmps10
  go_wp2
  go_loopw [5] (fun i wr => ∃ k : Nat, k ≤ n1 ∧ i = .int .i64 k ∧ Hid (Below w.heap.size w wr)) (fun i _ => n1 - (intOf i).toNat)
  case atStart => exact ⟨0, Nat.zero_le _, rfl, Below.refl _ _⟩
  case round =>
    obtain ⟨k, hk, rfl, HW⟩ := hrel
    by_cases hlt : k < n1
    · rcases H1.out with h4 | ⟨b, off, rfl, hb, hcs⟩
      · omega
      · rcases H2.out with h4 | ⟨b', off', rfl, hb', hcs'⟩
        · omega
        · have hck := (HW.out.cell (p := ⟨b, off + k, none⟩) hb).trans (hcs k hlt)
          have hck' := (HW.out.cell (p := ⟨b', off' + k, none⟩) hb').trans (hcs' k hlt)
          clear hcs hcs'
          obtain ⟨x, hx⟩ : ∃ x, x = l[k]?.getD 0 := ⟨_, rfl⟩
          rw [← hx] at hck hck'
          clear hx
          have hk0 : (0 : Int) ≤ (k : Int) := Int.natCast_nonneg _
          have hkn : (k : Int) < (n1 : Int) := by omega
          go_wp2
          go_quiet (fail)
          go_wp2
          go_roundw
          case rel => exact ⟨k + 1, by omega, by go_num, below_drewN HW.out _⟩
          case measure => simp [intOf]; omega
    · have hlt' : n1 ≤ k := by omega
      clear hlt
      go_wp2
      go_returns
      exact ⟨rfl, HW.out⟩
/-- A kind, a list and a size in new memory. -/
def DrawnSlide (w : World) (e : Ending) (w' : World) : Prop :=
  ∃ (k s : Int) (b n cap : Nat) (l : List Int), e = .returned (.tuple #[.int .i64 k, .slice (some ⟨b, 0, none⟩) n cap, .int .i64 s]) ∧ Nums .i64 w' (some ⟨b, 0, none⟩) n cap l ∧ n ≤ 1000 ∧ Below w.heap.size w w'
set_option maxRecDepth 4000 in
set_option maxHeartbeats 2000000 in
theorem drawSlideNumbers_any (a : Option Addr) (n cap : Nat) (l : List Int) (w : World) (h : Bytes w a n cap l) :
    Calls Tryz.prog 36 #[.slice a n cap] w (DrawnSlide w) := by
  have HB := Lib.hid h; clear h
  go_enter Tryz.func36, Tryz.ntmps36
  go_wp2_with fail
  refine (drawFoldItems_any _ _ _ l _ HB.out).mono ?_
  rintro e w1 ⟨k, b, m, mc, l', rfl, hN, hm1000, hb1⟩
  have hs1 := hb1.size
  have HN := Lib.hid hN; clear hN
  have HW1 := Lib.hid hb1
  have HB1 := Lib.hid (HB.out.below hb1)
  clear hb1
  go_wp2_with fail
  refine (open_any _ _ _ l _ HB1.out).mono ?_
  rintro e w2 ⟨c, rfl, hr, hb2⟩
  have hs2 := hb2.size
  have hBc := hr.1
  have HR := Lib.hid hr; clear hr
  have HV2 := Lib.hid hb2
  clear hb2
  go_wp2_with fail
  refine (num_any w2.heap.size 7 [3, 1, 2, 5, 8, 0, 61] _ c _ _ (HR.out.kept (World.grownBy_alloc _ _ _)) (by omega) (ListAt.new w2 [3, 1, 2, 5, 8, 0, 61] _) (by have := HR.out.2.1; omega) (by decide) (by decide)).mono ?_
  rintro e w3 ⟨x, rfl, -, hr3, hg3⟩
  have hs3 := hg3.size
  simp at hs3
  have HV3 := Lib.hid ((HV2.out.alloc hs2 (.cells (([3, 1, 2, 5, 8, 0, 61] : List Int).map (Value.int .i64)).toArray 3)).trans (grown_below hg3 (by simp; omega) hBc))
  clear hr3 hg3
  go_wp2_with fail
  go_returns
  exact ⟨k, x, b, m, mc, l', rfl, HN.out.below HV3.out, hm1000, HW1.out.trans (HV3.out.mono hs1)⟩
end Go.Proofs.YtohllpdmopofoaaGreat
