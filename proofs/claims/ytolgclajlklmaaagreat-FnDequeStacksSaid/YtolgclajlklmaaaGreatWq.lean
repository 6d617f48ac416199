import Derived.Test.YtolgclajlklmaaaGreatRw
import Derived.Test.YtolgclajlklmaaaGreatDq
import Derived.Test.YtolgclajlklmaaaGreatQx
import Derived.Deep.Cut
/-
  Rows of numbers compared, as the laws do.
-/
namespace Go.Proofs.YtolgclajlklmaaaGreat
set_option linter.unusedSimpArgs false
set_option linter.unusedVariables false
open Go.RowKit
set_option maxHeartbeats 1000000 in
theorem waInts_w (a1 : Option Addr) (n1 cap1 : Nat) (a2 : Option Addr) (n2 cap2 : Nat) (l : List Int) (w : World) (h1 : Nums .i64 w a1 n1 cap1 l) (h2 : Nums .i64 w a2 n2 cap2 l) :
    Calls Tryz.prog 10 #[.slice a1 n1 cap1, .slice a2 n2 cap2] w fun e w' => e = .returned (.bool true) ∧ Below w.heap.size w w' := by
  obtain ⟨hl1, hcap1, hm1, h41⟩ := h1
  obtain ⟨hl2, hcap2, hm2, h42⟩ := h2
  obtain rfl : n1 = n2 := by omega
  unfold maxLen at hm1
  have HL := Lib.hid hl1; clear hl1 hl2 hm2 hcap2
  have H1 := Lib.hid h41; clear h41
  have H2 := Lib.hid h42; clear h42
  go_enter Tryz.func10, Tryz.ntmps10
  go_wp2
  go_loopw [5] (fun i wr => ∃ k : Nat, k ≤ n1 ∧ i = .int .i64 k ∧ Hid (Below w.heap.size w wr)) (fun i _ => n1 - (intOf i).toNat)
  case atStart => exact ⟨0, Nat.zero_le _, rfl, Below.refl _ _⟩
  case round =>
    obtain ⟨k, hk, rfl, HW⟩ := hrel
    by_cases hlt : k < n1
    · rcases H1.out with h4 | ⟨b, off, rfl, hb, hcs⟩
      · omega
      · rcases H2.out with h4 | ⟨b', off', rfl, hb', hcs'⟩
        · omega
        · have hck := (HW.out.cell (p := ⟨b, off + k, none⟩) hb).trans (hcs k hlt)
          have hck' := (HW.out.cell (p := ⟨b', off' + k, none⟩) hb').trans (hcs' k hlt)
          clear hcs hcs'
          obtain ⟨x, hx⟩ : ∃ x, x = l[k]?.getD 0 := ⟨_, rfl⟩
          rw [← hx] at hck hck'
          clear hx
          have hk0 : (0 : Int) ≤ (k : Int) := Int.natCast_nonneg _
          have hkn : (k : Int) < (n1 : Int) := by omega
          go_wp2
          go_quiet (fail)
          go_wp2
          go_roundw
          case rel => exact ⟨k + 1, by omega, by go_num, below_drewN HW.out _⟩
          case measure => simp [intOf]; omega
    · have hlt' : n1 ≤ k := by omega
      clear hlt
      go_wp2
      go_returns
      exact ⟨rfl, HW.out⟩
end Go.Proofs.YtolgclajlklmaaaGreat

/-
  Kinds whose aggregates can be removed, and cases of InverseRun, as the model draws them.
-/
namespace Go.Proofs.YtolgclajlklmaaaGreat
set_option linter.unusedSimpArgs false
set_option linter.unusedVariables false
open Go.RowKit
set_option maxHeartbeats 1000000 in
theorem l6Kind_any (b lcap : Nat) (ll : List Int) (B c : Nat) (p : Int) (w : World) (h : Rd w B c p) (hp : p ≤ 900000) (hl : ListAt w b ll) (hbc : b ≠ c) (h0 : 0 < ll.length) (h1 : ll.length ≤ 1000) :
    Calls Tryz.prog 28 #[.pointer (some ⟨c, 0, none⟩), .slice (some ⟨b, 0, none⟩) ll.length lcap] w (Drawn (fun v => v ∈ ll ∨ v ∈ [9, 0, 5, 11]) 2 B c p w) := by
  have HR := Lib.hid h; clear h
  have HL := Lib.hid hl; clear hl
  go_enter Tryz.func28, Tryz.ntmps28
  go_wp2_with fail
  refine (pick_any _ B c p _ HR.out (by omega) (by omega)).mono ?_
  rintro e w1 ⟨v, rfl, hv0, hv1, -, hr, hg⟩
  have hlt := hr.2.1
  have HR1 := Lib.hid hr; clear hr
  have HL1 := Lib.hid (HL.out.kept hg hbc); clear HL
  have HG := Lib.hid hg; clear hg
  clear hv1
  by_cases hz : v = 0
  · subst hz
    go_wp2_with fail
    refine (num_any w1.heap.size 4 [9, 0, 5, 11] B c (p + 1) _ (HR1.out.kept (World.grownBy_alloc _ _ _)) (by omega) (ListAt.new w1 [9, 0, 5, 11] _) (by omega) (by decide) (by decide)).mono ?_
    rintro e w2 ⟨u, rfl, hu, hr2, hg2⟩
    have HR2 := Lib.hid hr2; clear hr2
    have HU := Lib.hid hu; clear hu
    have HG2 := Lib.hid (grown_trans (grown_alloc HG.out _) hg2); clear hg2
    go_wp2
    go_returns
    exact ⟨u, p + 1 + 1, rfl, .inr HU.out, by omega, by omega, HR2.out, HG2.out⟩
  · go_wp2_with fail
    refine (num_any b lcap ll B c (p + 1) _ HR1.out (by omega) HL1.out hbc h0 h1).mono ?_
    rintro e w2 ⟨u, rfl, hu, hr2, hg2⟩
    have HR2 := Lib.hid hr2; clear hr2
    have HU := Lib.hid hu; clear hu
    have HG2 := Lib.hid (grown_trans HG.out hg2); clear hg2
    go_wp2
    go_returns
    exact ⟨u, p + 1 + 1, rfl, .inl HU.out, by omega, by omega, HR2.out, HG2.out⟩
end Go.Proofs.YtolgclajlklmaaaGreat

/-
  Cases of DequeRun, as the model draws them.
-/
namespace Go.Proofs.YtolgclajlklmaaaGreat
set_option linter.unusedSimpArgs false
set_option linter.unusedVariables false
open Go.RowKit
set_option maxRecDepth 8000 in
set_option maxHeartbeats 4000000 in
theorem drawDequeRun_any (a : Option Addr) (n cap : Nat) (l : List Int) (w : World) (h : Bytes w a n cap l) :
    Calls Tryz.prog 6 #[.slice a n cap] w (CaseDrawn w) := by
  have HH := Lib.hid h; clear h
  go_enter Tryz.func6, Tryz.ntmps6
  go_wp2_with fail
  refine (open_any _ _ _ l _ HH.out).mono ?_
  rintro e w1 ⟨c, rfl, hr1, hb1⟩
  have HR1 := Lib.hid hr1
  have HB1 := Lib.hid hb1
  have hc1 := hr1.1
  have hc2 := hr1.2.1
  clear hr1 hb1
  go_wp2_with fail
  refine (l6Kind_any w1.heap.size 2 [3, 4] _ c 0 _ (HR1.out.kept (World.grownBy_alloc _ _ _)) (by omega) (ListAt.new w1 [3, 4] _) (by omega) (by decide) (by decide)).mono ?_
  rintro e w3 ⟨k, p3, rfl, hk, hp3, hq3, hr3, hg3⟩
  have HR3 := Lib.hid hr3
  have HB3 := Lib.hid ((HB1.out.alloc HB1.out.size _).grown hg3 (by have := HB1.out.size; simp; omega) (fun j hj => by have := Option.some.inj hj; omega))
  have hk1 : -1 ≤ k ∧ k ≤ 11 := by
    simp only [List.mem_cons, List.not_mem_nil, or_false] at hk
    omega
  obtain ⟨hk1, hk2⟩ := hk1
  clear hr3 hg3 HR1 HB1 hk
  go_wp2_with fail
  refine (num_any w3.heap.size 4 [12, 20, 6, 30] _ c p3 _ (HR3.out.kept (World.grownBy_alloc _ _ _)) (by omega) (ListAt.new w3 [12, 20, 6, 30] _) (by have := HR3.out.2.1; omega) (by decide) (by decide)).mono ?_
  rintro e w4 ⟨m, rfl, hm, hr4, hg4⟩
  obtain ⟨mm, rfl, hmm⟩ : ∃ mm : Nat, m = (mm : Int) ∧ mm ≤ 30 := by
    simp at hm
    rcases hm with rfl | rfl | rfl | rfl
    · exact ⟨12, rfl, by omega⟩
    · exact ⟨20, rfl, by omega⟩
    · exact ⟨6, rfl, by omega⟩
    · exact ⟨30, rfl, by omega⟩
  have HR4 := Lib.hid hr4
  have HB4 := Lib.hid ((HB3.out.alloc HB3.out.size _).grown hg4 (by have := HB3.out.size; simp; omega) (fun j hj => by have := Option.some.inj hj; omega))
  clear hr4 hg4 HR3 HB3 hm
  go_wp2_with fail
  refine (l2Draw_any mm _ c (p3 + 1) _ HR4.out (by omega) (by omega)).mono ?_
  rintro e w5 ⟨v5, n5, l5, p5, rfl, ho5, hn5, hp5, hq5, hr5, hg5⟩
  have HR5 := Lib.hid hr5
  have HO5 := Lib.hid ho5
  have HB5 := Lib.hid (HB4.out.grown hg5 HB4.out.size (fun j hj => by have := Option.some.inj hj; omega))
  clear hr5 hg5 ho5 HR4 HB4
  go_wp2_with fail
  refine (l2Wrong_any _ c p5 _ n5 v5 l5 _ HR5.out (by omega) HO5.out (by omega)).mono ?_
  rintro e w6 ⟨v6, n6, l6, p6, rfl, ho6, hn6, hp6, hq6, hr6, hg6⟩
  have HB6 := Lib.hid (HB5.out.grown hg6 HB5.out.size (fun j hj => by have := Option.some.inj hj; omega))
  have HO6 := Lib.hid ho6
  clear hr6 hg6 ho6
  go_wp2_with fail
  go_returns
  exact ⟨k, v6, n6, l6, rfl, ⟨owns_lower HO6.out HB5.out.size, HB6.out.size, Nat.le_refl _, fun g hg => (HO6.out.lt g hg).2⟩, hn6, hk1, hk2, HB6.out⟩
end Go.Proofs.YtolgclajlklmaaaGreat

/-
  Deques compared, as the laws do.
-/
namespace Go.Proofs.YtolgclajlklmaaaGreat
set_option linter.unusedSimpArgs false
set_option linter.unusedVariables false
open Go.RowKit
set_option maxRecDepth 8000 in
set_option maxHeartbeats 4000000 in
theorem waDeque_same (ia : Option Addr) (n ic : Nat) (pa : Option Addr) (m pc : Nat) (ia' : Option Addr) (ic' : Nat) (pa' : Option Addr) (pc' : Nat) (fi nx dr : Int) (I P : List Int) (w : World)
    (hI : Nums .i64 w ia n ic I) (hP : Nums .i64 w pa m pc P) (hI' : Nums .i64 w ia' n ic' I) (hP' : Nums .i64 w pa' m pc' P) :
    Calls Tryz.prog 9 #[.agg #[.slice ia n ic, .slice pa m pc, .int .i64 fi, .int .i64 nx, .int .i64 dr], .agg #[.slice ia' n ic', .slice pa' m pc', .int .i64 fi, .int .i64 nx, .int .i64 dr]] w fun e w' => e = .returned (.bool true) ∧ Below w.heap.size w w' := by
  have HI := Lib.hid hI
  have HP := Lib.hid hP
  have HI' := Lib.hid hI'
  have HP' := Lib.hid hP'
  clear hI hP hI' hP'
  obtain ⟨W, hW⟩ : ∃ W, W = ((w.alloc (.cells #[.slice ia n ic, .slice pa m pc, .int .i64 fi, .int .i64 nx, .int .i64 dr] 28)).alloc (.cells #[.slice ia' n ic', .slice pa' m pc', .int .i64 fi, .int .i64 nx, .int .i64 dr] 28)) := ⟨_, rfl⟩
  have HA := Lib.hid (show Box5 W w.heap.size 28 (.slice ia n ic) (.slice pa m pc) (.int .i64 fi) (.int .i64 nx) (.int .i64 dr) from by rw [hW]; exact (Box5.new w _ _ _ _ _ _).alloc _)
  have HR := Lib.hid (show Box5 W (w.heap.size + 1) 28 (.slice ia' n ic') (.slice pa' m pc') (.int .i64 fi) (.int .i64 nx) (.int .i64 dr) from by rw [hW]; exact Box5.new1 (Y := w.alloc _) _ _ _ _ _ _ (by simp))
  have HB := Lib.hid (show Below w.heap.size w W from by rw [hW]; exact ((Below.refl _ _).alloc (Nat.le_refl _) _).alloc (by simp) _)
  go_enter Tryz.func9, Tryz.ntmps9
  go_wp2_with fail
  rw [← hW]
  clear hW
  refine (waInts_w _ _ _ _ _ _ I _ (HI.out.below HB.out) (HI'.out.below HB.out)).mono ?_
  rintro e w1 ⟨rfl, hb1⟩
  have HA1 := Lib.hid (HA.out.call hb1)
  have HR1 := Lib.hid (HR.out.call hb1)
  have HB1 := Lib.hid (HB.out.trans (hb1.mono HB.out.size))
  obtain ⟨q0, q1, q2, q3, q4⟩ := HA1.out.cells
  obtain ⟨r0, r1, r2, r3, r4⟩ := HR1.out.cells
  clear hb1 HA HR HB
  go_wp2_with fail
  refine (waInts_w _ _ _ _ _ _ P _ (HP.out.below HB1.out) (HP'.out.below HB1.out)).mono ?_
  rintro e w2 ⟨rfl, hb2⟩
  have HA2 := Lib.hid (HA1.out.call hb2)
  have HR2 := Lib.hid (HR1.out.call hb2)
  have HB2 := Lib.hid (HB1.out.trans (hb2.mono HB1.out.size))
  clear hb2 HA1 HR1 HB1 q0 q1 q2 q3 q4 r0 r1 r2 r3 r4
  obtain ⟨q0, q1, q2, q3, q4⟩ := HA2.out.cells
  obtain ⟨r0, r1, r2, r3, r4⟩ := HR2.out.cells
  go_wp2_with fail
  go_returns
  exact ⟨by simp, HB2.out⟩
end Go.Proofs.YtolgclajlklmaaaGreat
