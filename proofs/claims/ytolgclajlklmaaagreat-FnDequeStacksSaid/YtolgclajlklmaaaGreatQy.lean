import Derived.Test.YtolgclajlklmaaaGreatQx
import Derived.Test.YtolgclajlklmaaaGreatL
import Derived.Test.YtolgclajlklmaaaGreatTb
import Derived.Deep.RegionHeld3
import Derived.Deep.Cut
namespace Go.Proofs.YtolgclajlklmaaaGreat
set_option linter.unusedSimpArgs false
set_option linter.unusedVariables false
open Go.RowKit
structure OrdAt (k : Int) (T fl : Nat) : Prop where
  of : ∀ w, Calls Tryz.prog 46 #[.int .i64 k] w fun e w' => e = .returned (.tuple #[.iface T (.agg #[]), .bool true]) ∧ w = w'
  ml : ∀ w, Sem.run Tryz.prog (Go.method 302 T (.agg #[]) "loop.example/windowaggregates/impl.later") w = .ok (fl, .agg #[]) w
  al : ∀ w, Sem.run Tryz.prog (Go.nilAhead 302 T (.agg #[]) "loop.example/windowaggregates/impl.later") w = .ok (some false) w
  cl : ∀ args w, Sem.run Tryz.prog (Go.callFunc fl args) w = .ok (.enter fl args) w
  later : ∀ (a b : Int) w, Calls Tryz.prog fl #[.agg #[], .int .i64 a, .int .i64 b] w fun e w' => e = .returned (.bool (Agg.before k a b)) ∧ Below w.heap.size w w'
theorem orderOf_3 (w : World) : Calls Tryz.prog 46 #[.int .i64 3] w fun e w' => e = .returned (.tuple #[.iface 126 (.agg #[]), .bool true]) ∧ w = w' := by
  go_enter Tryz.func46, Tryz.ntmps46
  go_wp2
  go_returns
  exact ⟨rfl, rfl⟩
theorem later_3 (a b : Int) (w : World) : Calls Tryz.prog 122 #[.agg #[], .int .i64 a, .int .i64 b] w fun e w' => e = .returned (.bool (Agg.before 3 a b)) ∧ Below w.heap.size w w' := by
  go_enter Tryz.func122, Tryz.ntmps122
  go_wp2
  go_returns
  exact ⟨by simp [Agg.before], (by first | (go_grown; done) | (refine below_drewN ?_ _; go_grown; done) | (refine (below_drewN _ ?_); go_grown; done))⟩
theorem ordAt_3 : OrdAt 3 126 122 := ⟨orderOf_3, fun w => by kernel_rfl, fun w => by kernel_rfl, fun args w => by kernel_rfl, later_3⟩
theorem orderOf_4 (w : World) : Calls Tryz.prog 46 #[.int .i64 4] w fun e w' => e = .returned (.tuple #[.iface 127 (.agg #[]), .bool true]) ∧ w = w' := by
  go_enter Tryz.func46, Tryz.ntmps46
  go_wp2
  go_returns
  exact ⟨rfl, rfl⟩
theorem later_4 (a b : Int) (w : World) : Calls Tryz.prog 124 #[.agg #[], .int .i64 a, .int .i64 b] w fun e w' => e = .returned (.bool (Agg.before 4 a b)) ∧ Below w.heap.size w w' := by
  go_enter Tryz.func124, Tryz.ntmps124
  go_wp2
  go_returns
  exact ⟨by simp [Agg.before], (by first | (go_grown; done) | (refine below_drewN ?_ _; go_grown; done) | (refine (below_drewN _ ?_); go_grown; done))⟩
theorem ordAt_4 : OrdAt 4 127 124 := ⟨orderOf_4, fun w => by kernel_rfl, fun w => by kernel_rfl, fun args w => by kernel_rfl, later_4⟩
theorem ord_at {k : Int} (h : Agg.isOrd k = true) : ∃ T fl, OrdAt k T fl := by
  simp only [Agg.isOrd, decide_eq_true_eq] at h
  rcases h with rfl | rfl
  · exact ⟨_, _, ordAt_3⟩
  · exact ⟨_, _, ordAt_4⟩
theorem orderOf_not (k : Int) (w : World) (h : Agg.isOrd k = false) : Calls Tryz.prog 46 #[.int .i64 k] w fun e w' => e = .returned (.tuple #[.nilIface, .bool false]) ∧ w = w' := by
  simp only [Agg.isOrd, decide_eq_false_iff_not] at h
  have h1 : ¬ k = 3 := fun e => h (.inl e)
  have h2 : ¬ k = 4 := fun e => h (.inr e)
  clear h
  go_enter Tryz.func46, Tryz.ntmps46
  go_wp2
  go_returns
  exact ⟨rfl, rfl⟩
set_option maxRecDepth 8000 in
set_option maxHeartbeats 2000000 in
theorem countersFit_any (ia : Option Addr) (n ic : Nat) (pa : Option Addr) (m pc : Nat) (fi nx dr : Int) (w : World) :
    Calls Tryz.prog 48 #[.agg #[.slice ia n ic, .slice pa m pc, .int .i64 fi, .int .i64 nx, .int .i64 dr]] w fun e w' => e = .returned (.bool (Agg.dqRange fi nx dr)) ∧ Below w.heap.size w w' := by
  obtain ⟨c1, hc1⟩ : ∃ c : Bool, c = (decide (0 ≤ fi) && decide (fi ≤ 1000000)) := ⟨_, rfl⟩
  obtain ⟨c2, hc2⟩ : ∃ c : Bool, c = (decide (0 ≤ nx) && decide (nx ≤ 1000000)) := ⟨_, rfl⟩
  obtain ⟨c3, hc3⟩ : ∃ c : Bool, c = (decide (0 ≤ dr) && decide (dr ≤ 1000000)) := ⟨_, rfl⟩
  obtain ⟨c4, hc4⟩ : ∃ c : Bool, c = (decide (0 ≤ nx - fi) && decide (nx - fi ≤ 60)) := ⟨_, rfl⟩
  have hb : Agg.dqRange fi nx dr = (c1 && c2 && c3 && c4) := by
    rw [hc1, hc2, hc3, hc4, Agg.dqRange]
    simp only [Bool.decide_and]
    simp only [Bool.and_assoc]
  rw [hb]
  have h1 := fun w => within_any fi 0 1000000 w
  have h2 := fun w => within_any nx 0 1000000 w
  have h3 := fun w => within_any dr 0 1000000 w
  have h4 := fun w => within_any (nx - fi) 0 60 w
  rw [← hc1] at h1
  rw [← hc2] at h2
  rw [← hc3] at h3
  rw [← hc4] at h4
  have H1 := Lib.hid h1
  have H2 := Lib.hid h2
  have H3 := Lib.hid h3
  have H4 := Lib.hid h4
  have HB := Lib.hid (show Below w.heap.size w (w.alloc (.cells #[.slice ia n ic, .slice pa m pc, .int .i64 fi, .int .i64 nx, .int .i64 dr] 28)) from (Below.refl _ _).alloc (Nat.le_refl _) _)
  have hbd : c1 = true → c2 = true → -1000000 ≤ nx - fi ∧ nx - fi ≤ 1000000 := by
    intro e1 e2
    rw [hc1] at e1
    rw [hc2] at e2
    simp only [Bool.and_eq_true, decide_eq_true_eq] at e1 e2
    omega
  clear hb h1 h2 h3 h4 hc1 hc2 hc3 hc4
  cases c1
  · clear hbd
    go_enter Tryz.func48, Tryz.ntmps48
    go_wp2_with fail
    refine (H1.out _).mono ?_
    rintro e w1 ⟨rfl, rfl⟩
    go_wp2_with fail
    go_returns
    exact ⟨rfl, HB.out⟩
  · cases c2
    · clear hbd
      go_enter Tryz.func48, Tryz.ntmps48
      go_wp2_with fail
      refine (H1.out _).mono ?_
      rintro e w1 ⟨rfl, rfl⟩
      go_wp2_with fail
      refine (H2.out _).mono ?_
      rintro e w1 ⟨rfl, rfl⟩
      go_wp2_with fail
      go_returns
      exact ⟨rfl, HB.out⟩
    · have hbd := hbd rfl rfl
      have hw1 : IntKind.i64.wrap (nx - fi) = nx - fi := IntWalk.i64_in _ ⟨by omega, by omega⟩
      cases c3
      all_goals
        clear hbd
        go_enter Tryz.func48, Tryz.ntmps48
        go_wp2_with fail
        refine (H1.out _).mono ?_
        rintro e w1 ⟨rfl, rfl⟩
        go_wp2_with fail
        refine (H2.out _).mono ?_
        rintro e w1 ⟨rfl, rfl⟩
        go_wp2_with fail
        refine (H3.out _).mono ?_
        rintro e w1 ⟨rfl, rfl⟩
        go_wp2_with fail
        first
          | (go_returns; exact ⟨rfl, HB.out⟩)
          | (refine (H4.out _).mono ?_; rintro e w1 ⟨rfl, rfl⟩; go_wp2_with fail; go_returns; exact ⟨by simp, HB.out⟩)
set_option maxRecDepth 8000 in
set_option maxHeartbeats 2000000 in
theorem keepsLast_any (ia : Option Addr) (n ic : Nat) (pa : Option Addr) (m pc : Nat) (fi nx dr : Int) (P : List Int) (w : World) (hP : Nums .i64 w pa m pc P) (hf : 0 ≤ fi ∧ fi ≤ 1000000) (hn : 0 ≤ nx ∧ nx ≤ 1000000) :
    Calls Tryz.prog 49 #[.agg #[.slice ia n ic, .slice pa m pc, .int .i64 fi, .int .i64 nx, .int .i64 dr]] w fun e w' => e = .returned (.bool (Agg.keepsLast fi nx P)) ∧ Below w.heap.size w w' := by
  have hPl : P.length = m := hP.1
  have hmc := hP.2.1
  have hcm : pc ≤ 9223372036854775807 := by have := hP.2.2.1; unfold maxLen at this; omega
  obtain ⟨b, hb⟩ : ∃ b, b = Agg.keepsLast fi nx P := ⟨_, rfl⟩
  rw [← hb]
  have HBB := Lib.hid hb
  obtain ⟨W, hW⟩ : ∃ W, W = w.alloc (.cells #[.slice ia n ic, .slice pa m pc, .int .i64 fi, .int .i64 nx, .int .i64 dr] 28) := ⟨_, rfl⟩
  have HX := Lib.hid (show Box5 W w.heap.size 28 (.slice ia n ic) (.slice pa m pc) (.int .i64 fi) (.int .i64 nx) (.int .i64 dr) from by rw [hW]; exact Box5.new _ _ _ _ _ _ _)
  have HB := Lib.hid (show Below w.heap.size w W from by rw [hW]; exact (Below.refl _ _).alloc (Nat.le_refl _) _)
  have HP := Lib.hid (hP.below HB.out)
  have HPL := Lib.hid hPl
  clear hb hP hPl
  obtain ⟨q0, q1, q2, q3, q4⟩ := HX.out.cells
  obtain ⟨hf0, hf1⟩ := hf
  obtain ⟨hn0, hn1⟩ := hn
  have hw1 : IntKind.i64.wrap (fi - 1) = fi - 1 := IntWalk.i64_in _ ⟨by omega, by omega⟩
  have hw2 : IntKind.i64.wrap (nx - 1) = nx - 1 := IntWalk.i64_in _ ⟨by omega, by omega⟩
  go_enter Tryz.func49, Tryz.ntmps49
  go_upto_region 1 with (fail)
  rw [← hW]
  clear hW
  go_wp2_with fail
  go_loopw [3, 12] (fun lv i wr => ∃ j : Nat, j ≤ m ∧ i = .int .i64 j ∧ lv = .int .i64 (Agg.prevAt fi P j) ∧ Hid (Agg.ascTo fi P j = true) ∧ wr = W) (fun _ i _ => m - (intOf i).toNat)
  case atStart => exact ⟨0, Nat.zero_le _, rfl, rfl, Lib.hid rfl, rfl⟩
  case round =>
    obtain ⟨j, hj, rfl, rfl, HA, rfl⟩ := hrel
    by_cases hlt : j < m
    · rcases HP.out.2.2.2 with h4 | ⟨pb, poff, rfl, hpb, hpcs⟩
      · omega
      · have hcell := hpcs j hlt
        clear hpcs
        obtain ⟨x, hx⟩ : ∃ x, x = P[j]?.getD 0 := ⟨_, rfl⟩
        obtain ⟨l, hl⟩ : ∃ l, l = Agg.prevAt fi P j := ⟨_, rfl⟩
        rw [← hx] at hcell
        rw [← hl]
        have HXX := Lib.hid hx
        have HLL := Lib.hid hl
        clear hx hl
        have hk0 : (0 : Int) ≤ (j : Int) := Int.natCast_nonneg _
        have hkn : (j : Int) < (m : Int) := by omega
        by_cases hle : x ≤ l
        · have hbf : b = false := by
            rw [HBB.out, Agg.keepsLast]
            cases ha : Agg.ascTo fi P P.length
            · rfl
            · have h1 := Agg.ascTo_at (i := j) (by have := HPL.out; omega) ha
              rw [← HXX.out, ← HLL.out] at h1
              omega
          subst hbf
          go_wp2_with fail
          go_returns
          exact ⟨rfl, HB.out⟩
        · go_wp2_with fail
          go_roundw
          case rel => exact ⟨j + 1, by omega, by go_num, by rw [HXX.out]; rfl, Lib.hid (by simp only [Agg.ascTo, HA.out, Bool.true_and, decide_eq_true_eq]; rw [← HXX.out, ← HLL.out]; omega), by first | rfl | trivial⟩
          case measure => simp [intOf]; omega
    · obtain rfl : j = m := by omega
      obtain ⟨l, hl⟩ : ∃ l, l = Agg.prevAt fi P j := ⟨_, rfl⟩
      have hbe : b = decide (l = nx - 1) := by
        have ha := HA.out
        rw [HBB.out, Agg.keepsLast, HPL.out, ha, Bool.true_and, hl]
      rw [← hl]
      clear hl
      by_cases he : l = nx - 1
      · have hbt : b = true := by rw [hbe]; simpa using he
        subst hbt
        clear hbe
        go_wp2_with fail
        go_returns
        exact ⟨by first | rfl | simp [he], HB.out⟩
      · have hbt : b = false := by rw [hbe]; simpa using he
        subst hbt
        clear hbe
        go_wp2_with fail
        go_returns
        exact ⟨by first | rfl | simp [he], HB.out⟩
set_option maxRecDepth 8000 in
set_option maxHeartbeats 2000000 in
theorem inOrder_any {k : Int} {T fl : Nat} (O : OrdAt k T fl) (ia : Option Addr) (n ic : Nat) (I : List Int) (w : World) (hI : Nums .i64 w ia n ic I) :
    Calls Tryz.prog 50 #[.iface T (.agg #[]), .slice ia n ic] w fun e w' => e = .returned (.bool (Agg.ordTo k I I.length)) ∧ Below w.heap.size w w' := by
  have hIl : I.length = n := hI.1
  have hnc := hI.2.1
  have hcm : ic ≤ 9223372036854775807 := by have := hI.2.2.1; unfold maxLen at this; omega
  obtain ⟨b, hb⟩ : ∃ b, b = Agg.ordTo k I I.length := ⟨_, rfl⟩
  rw [← hb]
  have HBB := Lib.hid hb
  have HI := Lib.hid hI
  have HIL := Lib.hid hIl
  have HLA := Lib.hid O.later
  have hml := O.ml
  have hal := O.al
  have hcl := O.cl
  clear hb hI hIl
  go_enter Tryz.func50, Tryz.ntmps50
  go_wp2_with fail
  go_loopw [5] (fun i wr => ∃ j : Nat, i = .int .i64 ((j : Int) + 1) ∧ j ≤ n ∧ Hid (Agg.ordTo k I (j + 1) = true ∨ n = 0) ∧ Hid (Below w.heap.size w wr)) (fun i _ => n + 1 - (intOf i).toNat)
  case atStart => exact ⟨0, rfl, Nat.zero_le _, Lib.hid (.inl rfl), Lib.hid (Below.refl _ _)⟩
  case round =>
    obtain ⟨j, rfl, hj, HO, HW⟩ := hrel
    have hjb : ((j : Int) + 1).toNat = j + 1 := by omega
    by_cases hlt : j + 1 < n
    · rcases (HI.out.below HW.out).2.2.2 with h4 | ⟨ib, ioff, rfl, hib, hics⟩
      · omega
      · have hc0 := hics j (by omega)
        have hc1 := hics (j + 1) hlt
        clear hics
        obtain ⟨x, hx⟩ : ∃ x, x = I[j]?.getD 0 := ⟨_, rfl⟩
        obtain ⟨y, hy⟩ : ∃ y, y = I[j + 1]?.getD 0 := ⟨_, rfl⟩
        rw [← hx] at hc0
        rw [← hy] at hc1
        have HXX := Lib.hid hx
        have HYY := Lib.hid hy
        clear hx hy
        obtain ⟨bb, hbb⟩ : ∃ bb, bb = Agg.before k x y := ⟨_, rfl⟩
        have hla := fun w => HLA.out x y w
        rw [← hbb] at hla
        have HL2 := Lib.hid hla
        have HB2 := Lib.hid hbb
        clear hla hbb
        have hk0 : (0 : Int) ≤ (j : Int) := Int.natCast_nonneg _
        have hkn : (j : Int) < (n : Int) := by omega
        have hk1 : (0 : Int) ≤ (j : Int) + 1 := by omega
        have hk2 : (j : Int) + 1 < (n : Int) := by omega
        have hw1 : IntKind.i64.wrap ((j : Int) + 1 - 1) = (j : Int) := by rw [show (j : Int) + 1 - 1 = (j : Int) by omega]; exact IntWalk.i64_in _ ⟨by omega, by omega⟩
        have hw2 : IntKind.i64.wrap ((j : Int)) = (j : Int) := IntWalk.i64_in _ ⟨by omega, by omega⟩
        have hw3 : IntKind.i64.wrap ((j : Int) + 1 + 1) = (j : Int) + 1 + 1 := IntWalk.i64_in _ ⟨by omega, by omega⟩
        go_wp2_with fail
        refine wp_region_held_drew (S := (fun X => X.cell? ⟨ib, ioff + j, none⟩ = some (.int .i64 x) ∧ X.cell? ⟨ib, ioff + (j + 1), none⟩ = some (.int .i64 y))) (by kernel_rfl) (by refine ⟨?_, ?_⟩ <;> assumption) (fun hHeld => ?_)
        refine zqt 0 ?_ ?_ (by assumption) ?_; rotate_left; (intro X hSw; (try dsimp only at hSw); go_simp; (try with_reducible rfl)); (try simp only [Act.put, zq1, zq2, zq3, zq4, zq5, zq6])
        refine zqt 1 ?_ ?_ (by assumption) ?_; rotate_left; (intro X hSw; (try dsimp only at hSw); go_simp; (try with_reducible rfl)); (try simp only [Act.put, zq1, zq2, zq3, zq4, zq5, zq6])
        refine zqt 2 ?_ ?_ (by assumption) ?_; rotate_left; (intro X hSw; (try dsimp only at hSw); go_simp; (try with_reducible rfl)); (try simp only [Act.put, zq1, zq2, zq3, zq4, zq5, zq6])
        refine zqt 3 ?_ ?_ (by assumption) ?_; rotate_left; (intro X hSw; (try dsimp only at hSw); go_simp; (try with_reducible rfl)); (try simp only [Act.put, zq1, zq2, zq3, zq4, zq5, zq6])
        refine zqt 4 ?_ ?_ (by assumption) ?_; rotate_left; (intro X hSw; (try dsimp only at hSw); go_simp; (try with_reducible rfl)); (try simp only [Act.put, zq1, zq2, zq3, zq4, zq5, zq6])
        refine zqt 5 ?_ ?_ (by assumption) ?_; rotate_left; (intro X hSw; (try dsimp only at hSw); go_simp; (try with_reducible rfl)); (try simp only [Act.put, zq1, zq2, zq3, zq4, zq5, zq6])
        refine zqt 6 ?_ ?_ (by assumption) ?_; rotate_left; (intro X hSw; (try dsimp only at hSw); go_simp; (try with_reducible rfl)); (try simp only [Act.put, zq1, zq2, zq3, zq4, zq5, zq6])
        refine zqt 7 ?_ ?_ (by assumption) ?_; rotate_left; (intro X hSw; (try dsimp only at hSw); go_simp; (try with_reducible rfl)); (try simp only [Act.put, zq1, zq2, zq3, zq4, zq5, zq6])
        refine zqt 8 ?_ ?_ (by assumption) ?_; rotate_left; (intro X hSw; (try dsimp only at hSw); go_simp; (try with_reducible rfl)); (try simp only [Act.put, zq1, zq2, zq3, zq4, zq5, zq6])
        refine zqt 9 ?_ ?_ (by assumption) ?_; rotate_left; (intro X hSw; (try dsimp only at hSw); go_simp; (try with_reducible rfl)); (try simp only [Act.put, zq1, zq2, zq3, zq4, zq5, zq6])
        refine zqt 10 ?_ ?_ (by assumption) ?_; rotate_left; (intro X hSw; (try dsimp only at hSw); go_simp; (try with_reducible rfl)); (try simp only [Act.put, zq1, zq2, zq3, zq4, zq5, zq6])
        refine zqt 11 ?_ ?_ (by assumption) ?_; rotate_left; (intro X hSw; (try dsimp only at hSw); go_simp; (try with_reducible rfl)); (try simp only [Act.put, zq1, zq2, zq3, zq4, zq5, zq6])
        refine zqt 12 ?_ ?_ (by assumption) ?_; rotate_left; (intro X hSw; (try dsimp only at hSw); go_simp; (try with_reducible rfl)); (try simp only [Act.put, zq1, zq2, zq3, zq4, zq5, zq6])
        refine wpAnyH_ready (rs := [13]) (by kernel_rfl) (by simp) ?_
        refine AllReadyH.cons rfl (fun K hK => ?_) AllReadyH.nil
        go_simp
        refine (HL2.out _).mono ?_
        rintro e w3 ⟨rfl, hb3⟩
        have HW3 := Lib.hid (HW.out.drew.trans (hb3.mono HW.out.size))
        have hc0 := (hb3.cell (p := ⟨ib, ioff + j, none⟩) hib).trans hc0
        have hc1 := (hb3.cell (p := ⟨ib, ioff + (j + 1), none⟩) hib).trans hc1
        clear hb3
        (try dsimp only)
        refine hK.out _ _ (by refine ⟨?_, ?_⟩ <;> assumption) (fun hHeld => ?_)
        clear hK K
        (try simp only [Act.put, zq1, zq2, zq3, zq4, zq5, zq6])
        refine wpAnyH_done (by kernel_rfl) ?_ _
        cases bb
        · go_wp2_with fail
          go_roundw
          case rel => exact ⟨j + 1, by go_num, by omega, Lib.hid (.inl (by
            rcases HO.out with h | h
            · simp only [Agg.ordTo] at h ⊢
              rw [h]
              simp only [Nat.add_one_ne_zero, if_false, Nat.add_sub_cancel, Bool.true_and]
              rw [← HXX.out, ← HYY.out, ← HB2.out]
              rfl
            · omega)), HW3⟩
          case measure => simp [intOf]; omega
        · have hbf : b = false := by
            rw [HBB.out]
            cases ho : Agg.ordTo k I I.length
            · rfl
            · have h1 := Agg.ordTo_down (i := j + 1 + 1) (by have := HIL.out; omega) ho
              simp only [Agg.ordTo, Nat.add_one_ne_zero, if_false, Nat.add_sub_cancel, Bool.and_eq_true] at h1
              rw [← HXX.out, ← HYY.out, ← HB2.out] at h1
              simp at h1
          subst hbf
          go_wp2_with fail
          go_returns
          exact ⟨rfl, HW3.out⟩
    · have hbt : b = true := by
        rw [HBB.out, HIL.out]
        by_cases h0 : n = 0
        · rw [h0]; rfl
        · rcases HO.out with h | h
          · have : n = j + 1 ∨ n ≤ j := by omega
            rcases this with e | e
            · rw [e]; exact h
            · exact Agg.ordTo_down (by omega) h
          · omega
      subst hbt
      have hk2 : ¬ ((j : Int) + 1 < (n : Int)) := by omega
      go_wp2_with fail
      go_returns
      exact ⟨rfl, HW.out⟩
end Go.Proofs.YtolgclajlklmaaaGreat

namespace Go.Proofs.YtolgclajlklmaaaGreat
set_option linter.unusedSimpArgs false
set_option linter.unusedVariables false
open Go.RowKit
theorem Agg.dq_range {k : Int} {d : Agg.Dq} (h : Agg.dqRange d.first d.next d.drops = false) : Agg.dqOk k d = false := by simp [Agg.dqOk, h]
theorem Agg.dq_items {k : Int} {d : Agg.Dq} (h : Agg.itemsOk d.items = false) : Agg.dqOk k d = false := by simp [Agg.dqOk, h]
theorem Agg.dq_len {k : Int} {d : Agg.Dq} (h : ¬ d.places.length = d.items.length) : Agg.dqOk k d = false := by simp [Agg.dqOk, h]
theorem Agg.dq_rest {k : Int} {d : Agg.Dq} (h1 : Agg.isOrd k = true) (h2 : Agg.itemsOk d.items = true) (h3 : d.places.length = d.items.length) (h4 : Agg.dqRange d.first d.next d.drops = true) : Agg.dqOk k d = (Agg.keepsLast d.first d.next d.places && Agg.ordTo k d.items d.items.length) := by
  simp [Agg.dqOk, h1, h2, h3, h4]
set_option maxRecDepth 8000 in
set_option maxHeartbeats 4000000 in
theorem dequeValid_any (k : Int) (ia : Option Addr) (n ic : Nat) (pa : Option Addr) (m pc : Nat) (fi nx dr : Int) (I P : List Int) (w : World) (hI : Nums .i64 w ia n ic I) (hP : Nums .i64 w pa m pc P) :
    Calls Tryz.prog 13 #[.int .i64 k, .agg #[.slice ia n ic, .slice pa m pc, .int .i64 fi, .int .i64 nx, .int .i64 dr]] w fun e w' => e = .returned (.bool (Agg.dqOk k ⟨I, P, fi, nx, dr⟩)) ∧ Below w.heap.size w w' := by
  obtain ⟨b, hb⟩ : ∃ b, b = Agg.dqOk k ⟨I, P, fi, nx, dr⟩ := ⟨_, rfl⟩
  rw [← hb]
  have hIl : I.length = n := hI.1
  have hPl : P.length = m := hP.1
  obtain ⟨W, hW⟩ : ∃ W, W = w.alloc (.cells #[.slice ia n ic, .slice pa m pc, .int .i64 fi, .int .i64 nx, .int .i64 dr] 28) := ⟨_, rfl⟩
  have HX := Lib.hid (show Box5 W w.heap.size 28 (.slice ia n ic) (.slice pa m pc) (.int .i64 fi) (.int .i64 nx) (.int .i64 dr) from by rw [hW]; exact Box5.new _ _ _ _ _ _ _)
  have HB := Lib.hid (show Below w.heap.size w W from by rw [hW]; exact (Below.refl _ _).alloc (Nat.le_refl _) _)
  have HI := Lib.hid (hI.below HB.out)
  have HP := Lib.hid (hP.below HB.out)
  clear hI hP
  obtain ⟨q0, q1, q2, q3, q4⟩ := HX.out.cells
  cases hr : Agg.isOrd k
  · have hbf : b = false := by rw [hb]; exact Agg.dqOk_not_kind hr
    subst hbf
    have HR := Lib.hid hr
    clear hb hr hIl hPl
    go_enter Tryz.func13, Tryz.ntmps13
    go_upto_region 1 with (fail)
    rw [← hW]
    clear hW
    go_wp2_with fail
    refine (orderOf_not k _ HR.out).mono ?_
    rintro e w1 ⟨rfl, rfl⟩
    go_wp2_with fail
    go_returns
    exact ⟨rfl, HB.out⟩
  · obtain ⟨T, fl, O⟩ := ord_at hr
    have HOF := Lib.hid O.of
    have HO := Lib.hid O
    have hA := fun w h => areItems_any ia n ic I w h
    cases hit : Agg.itemsOk I
    · have hbf : b = false := by rw [hb]; exact Agg.dq_items hit
      subst hbf
      rw [hit] at hA
      have HA := Lib.hid hA
      clear hb hr hIl hPl hA hit O
      go_enter Tryz.func13, Tryz.ntmps13
      go_upto_region 1 with (fail)
      rw [← hW]
      clear hW
      go_wp2_with fail
      refine (HOF.out _).mono ?_
      rintro e w1 ⟨rfl, rfl⟩
      go_wp2_with fail
      refine (HA.out _ HI.out).mono ?_
      rintro e w1 ⟨rfl, rfl⟩
      go_wp2_with fail
      go_returns
      exact ⟨rfl, HB.out⟩
    · rw [hit] at hA
      have HA := Lib.hid hA
      by_cases hlen : m = n
      · have hlenI : (m : Int) = (n : Int) := by omega
        have hC := fun w => countersFit_any ia n ic pa m pc fi nx dr w
        cases hrg : Agg.dqRange fi nx dr
        · have hbf : b = false := by rw [hb]; exact Agg.dq_range hrg
          subst hbf
          rw [hrg] at hC
          have HC := Lib.hid hC
          subst hlen
          clear hb hr hIl hPl hA hit O hC hrg hlenI
          go_enter Tryz.func13, Tryz.ntmps13
          go_upto_region 1 with (fail)
          rw [← hW]
          clear hW
          go_wp2_with fail
          refine (HOF.out _).mono ?_
          rintro e w1 ⟨rfl, rfl⟩
          go_wp2_with fail
          refine (HA.out _ HI.out).mono ?_
          rintro e w1 ⟨rfl, rfl⟩
          go_wp2_with fail
          refine (HC.out _).mono ?_
          rintro e w2 ⟨rfl, hb2⟩
          have HB2 := Lib.hid (HB.out.trans (hb2.mono HB.out.size))
          clear hb2
          go_wp2_with fail
          go_returns
          exact ⟨rfl, HB2.out⟩
        · have hbe : b = (Agg.keepsLast fi nx P && Agg.ordTo k I I.length) := by rw [hb]; exact Agg.dq_rest hr hit (by simp; omega) hrg
          have hbd : (0 ≤ fi ∧ fi ≤ 1000000) ∧ (0 ≤ nx ∧ nx ≤ 1000000) := by simp only [Agg.dqRange, Bool.and_eq_true, decide_eq_true_eq] at hrg; omega
          have hK := fun w hP => keepsLast_any ia n ic pa m pc fi nx dr P w hP hbd.1 hbd.2
          have hN := fun w hI => inOrder_any HO.out ia n ic I w hI
          rw [hrg] at hC
          have HC := Lib.hid hC
          obtain ⟨b1, hb1⟩ : ∃ b, b = Agg.keepsLast fi nx P := ⟨_, rfl⟩
          obtain ⟨b2, hb2⟩ : ∃ b, b = Agg.ordTo k I I.length := ⟨_, rfl⟩
          rw [← hb1] at hK hbe
          rw [← hb2] at hN hbe
          have HK := Lib.hid hK
          have HN := Lib.hid hN
          have HBE := Lib.hid hbe
          subst hlen
          clear hb hr hIl hPl hA hit O hC hrg hlenI hbe hbd hK hN hb1 hb2
          cases b1
          all_goals
            obtain ⟨b3, hb3⟩ : ∃ b3, b3 = b := ⟨_, rfl⟩
            rw [← hb3]
            have HB3 := Lib.hid hb3
            clear hb3
            go_enter Tryz.func13, Tryz.ntmps13
            go_upto_region 1 with (fail)
            rw [← hW]
            clear hW
            go_wp2_with fail
            refine (HOF.out _).mono ?_
            rintro e w1 ⟨rfl, rfl⟩
            go_wp2_with fail
            refine (HA.out _ HI.out).mono ?_
            rintro e w1 ⟨rfl, rfl⟩
            go_wp2_with fail
            refine (HC.out _).mono ?_
            rintro e w2 ⟨rfl, hb2⟩
            have HB2 := Lib.hid (HB.out.trans (hb2.mono HB.out.size))
            have HX2 := Lib.hid (HX.out.call hb2)
            have HI2 := Lib.hid (HI.out.below hb2)
            have HP2 := Lib.hid (HP.out.below hb2)
            clear hb2 q0 q1 q2 q3 q4
            obtain ⟨q0, q1, q2, q3, q4⟩ := HX2.out.cells
            go_wp2_with fail
            refine (HK.out _ HP2.out).mono ?_
            rintro e w3 ⟨rfl, hb3⟩
            have HB4 := Lib.hid (HB2.out.trans (hb3.mono HB2.out.size))
            have HX3 := Lib.hid (HX2.out.call hb3)
            have HI3 := Lib.hid (HI2.out.below hb3)
            clear hb3 q0 q1 q2 q3 q4
            obtain ⟨q0, q1, q2, q3, q4⟩ := HX3.out.cells
            go_wp2_with fail
            first
              | (go_returns; exact ⟨by rw [HB3.out, HBE.out]; rfl, HB4.out⟩)
              | (refine (HN.out _ HI3.out).mono ?_
                 rintro e w4 ⟨rfl, hb4⟩
                 have HB5 := Lib.hid (HB4.out.trans (hb4.mono HB4.out.size))
                 clear hb4
                 go_wp2_with fail
                 go_returns
                 exact ⟨by rw [HB3.out, HBE.out]; rfl, HB5.out⟩)
      · have hbf : b = false := by rw [hb]; exact Agg.dq_len (by simp; omega)
        subst hbf
        have hlenI : ¬ (m : Int) = (n : Int) := by omega
        clear hb hr hIl hPl hA hit O
        go_enter Tryz.func13, Tryz.ntmps13
        go_upto_region 1 with (fail)
        rw [← hW]
        clear hW
        go_wp2_with fail
        refine (HOF.out _).mono ?_
        rintro e w1 ⟨rfl, rfl⟩
        go_wp2_with fail
        refine (HA.out _ HI.out).mono ?_
        rintro e w1 ⟨rfl, rfl⟩
        go_wp2_with fail
        go_returns
        exact ⟨rfl, HB.out⟩
theorem s_l6Order_any (k : Int) (w : World) : Calls Tryz.prog 37 #[.int .i64 k] w fun e w' => e = .returned (.bool (Agg.isOrd k)) ∧ w = w' := by
  by_cases h3 : k = 3
  · subst h3
    go_enter Tryz.func37, Tryz.ntmps37
    go_wp2
    go_returns
    exact ⟨rfl, rfl⟩
  · by_cases h4 : k = 4
    · subst h4
      go_enter Tryz.func37, Tryz.ntmps37
      go_wp2
      go_returns
      exact ⟨rfl, rfl⟩
    · have e : Agg.isOrd k = false := by simp [Agg.isOrd, h3, h4]
      have h3b : (k == 3) = false := by simpa using h3
      have h4b : (k == 4) = false := by simpa using h4
      rw [e]
      go_enter Tryz.func37, Tryz.ntmps37
      go_wp2
      go_returns
      exact ⟨by first | rfl | simp [h3, h4], rfl⟩
theorem s_l6Before_any (k a b : Int) (w : World) : Calls Tryz.prog 72 #[.int .i64 k, .int .i64 a, .int .i64 b] w fun e w' => e = .returned (.bool (Agg.before k a b)) ∧ w = w' := by
  by_cases h3 : k = 3
  · subst h3
    by_cases h : b < a
    · have e : Agg.before 3 a b = true := by simp [Agg.before, h]
      rw [e]
      go_enter Tryz.func72, Tryz.ntmps72
      go_wp2
      go_returns
      exact ⟨rfl, rfl⟩
    · have e : Agg.before 3 a b = false := by simp [Agg.before, h]
      rw [e]
      go_enter Tryz.func72, Tryz.ntmps72
      go_wp2
      go_returns
      exact ⟨by first | rfl | simp [h], rfl⟩
  · by_cases h4 : k = 4
    · subst h4
      go_enter Tryz.func72, Tryz.ntmps72
      go_wp2
      go_returns
      exact ⟨by simp [Agg.before], rfl⟩
    · have e : Agg.before k a b = false := by simp [Agg.before, h3, h4]
      rw [e]
      go_enter Tryz.func72, Tryz.ntmps72
      go_wp2
      go_returns
      exact ⟨by first | rfl | simp [h3, h4], rfl⟩
end Go.Proofs.YtolgclajlklmaaaGreat
