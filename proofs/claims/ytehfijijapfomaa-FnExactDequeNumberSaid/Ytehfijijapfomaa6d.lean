/-
  Valid deques in the program: their order, their counters, their places.
-/
import Derived.Test.Ytehfijijapfomaa6o
import Derived.Test.YtehfijijapfomaaL
import Derived.Test.YtehfijijapfomaaKi
import Derived.Deep.RegionHeld3
import Derived.Deep.Cut
namespace Go.Proofs.Ytehfijijapfomaa
set_option linter.unusedSimpArgs false
set_option linter.unusedVariables false
open Go.RowKit
structure OrdAt (k : Int) (T fl : Nat) : Prop where
  of : ∀ w, Calls Try.prog 49 #[.int .i64 k] w fun e w' => e = .returned (.tuple #[.iface T (.agg #[]), .bool true]) ∧ w = w'
  ml : ∀ w, Sem.run Try.prog (Go.method 262 T (.agg #[]) "loop.example/windowaggregates/impl.later") w = .ok (fl, .agg #[]) w
  al : ∀ w, Sem.run Try.prog (Go.nilAhead 262 T (.agg #[]) "loop.example/windowaggregates/impl.later") w = .ok (some false) w
  cl : ∀ args w, Sem.run Try.prog (Go.callFunc fl args) w = .ok (.enter fl args) w
  later : ∀ (a b : Int) w, Calls Try.prog fl #[.agg #[], .int .i64 a, .int .i64 b] w fun e w' => e = .returned (.bool (Agg.before k a b)) ∧ Below w.heap.size w w'
theorem orderOf_3 (w : World) : Calls Try.prog 49 #[.int .i64 3] w fun e w' => e = .returned (.tuple #[.iface 110 (.agg #[]), .bool true]) ∧ w = w' := by
  go_enter Try.func49, Try.ntmps49
  go_wp2
  go_returns
  exact ⟨rfl, rfl⟩
theorem later_3 (a b : Int) (w : World) : Calls Try.prog 101 #[.agg #[], .int .i64 a, .int .i64 b] w fun e w' => e = .returned (.bool (Agg.before 3 a b)) ∧ Below w.heap.size w w' := by
  go_enter Try.func101, Try.ntmps101
  go_wp2
  go_returns
  exact ⟨by simp [Agg.before], (by first | (go_grown; done) | (refine below_drewN ?_ _; go_grown; done) | (refine (below_drewN _ ?_); go_grown; done))⟩
theorem ordAt_3 : OrdAt 3 110 101 := ⟨orderOf_3, fun w => by kernel_rfl, fun w => by kernel_rfl, fun args w => by kernel_rfl, later_3⟩
theorem orderOf_4 (w : World) : Calls Try.prog 49 #[.int .i64 4] w fun e w' => e = .returned (.tuple #[.iface 111 (.agg #[]), .bool true]) ∧ w = w' := by
  go_enter Try.func49, Try.ntmps49
  go_wp2
  go_returns
  exact ⟨rfl, rfl⟩
theorem later_4 (a b : Int) (w : World) : Calls Try.prog 103 #[.agg #[], .int .i64 a, .int .i64 b] w fun e w' => e = .returned (.bool (Agg.before 4 a b)) ∧ Below w.heap.size w w' := by
  go_enter Try.func103, Try.ntmps103
  go_wp2
  go_returns
  exact ⟨by simp [Agg.before], (by first | (go_grown; done) | (refine below_drewN ?_ _; go_grown; done) | (refine (below_drewN _ ?_); go_grown; done))⟩
theorem ordAt_4 : OrdAt 4 111 103 := ⟨orderOf_4, fun w => by kernel_rfl, fun w => by kernel_rfl, fun args w => by kernel_rfl, later_4⟩
theorem ord_at {k : Int} (h : Agg.isOrd k = true) : ∃ T fl, OrdAt k T fl := by
  simp only [Agg.isOrd, decide_eq_true_eq] at h
  rcases h with rfl | rfl
  · exact ⟨_, _, ordAt_3⟩
  · exact ⟨_, _, ordAt_4⟩
theorem orderOf_not (k : Int) (w : World) (h : Agg.isOrd k = false) : Calls Try.prog 49 #[.int .i64 k] w fun e w' => e = .returned (.tuple #[.nilIface, .bool false]) ∧ w = w' := by
  simp only [Agg.isOrd, decide_eq_false_iff_not] at h
  have h1 : ¬ k = 3 := fun e => h (.inl e)
  have h2 : ¬ k = 4 := fun e => h (.inr e)
  clear h
  go_enter Try.func49, Try.ntmps49
  go_wp2
  go_returns
  exact ⟨rfl, rfl⟩
set_option maxRecDepth 8000 in
set_option maxHeartbeats 2000000 in
theorem countersFit_any (ia : Option Addr) (n ic : Nat) (pa : Option Addr) (m pc : Nat) (fi nx dr : Int) (w : World) :
    Calls Try.prog 51 #[.agg #[.slice ia n ic, .slice pa m pc, .int .i64 fi, .int .i64 nx, .int .i64 dr]] w fun e w' => e = .returned (.bool (Agg.dqRange fi nx dr)) ∧ Below w.heap.size w w' := by
  obtain ⟨c1, hc1⟩ : ∃ c : Bool, c = (decide (0 ≤ fi) && decide (fi ≤ 1000000)) := ⟨_, rfl⟩
  obtain ⟨c2, hc2⟩ : ∃ c : Bool, c = (decide (0 ≤ nx) && decide (nx ≤ 1000000)) := ⟨_, rfl⟩
  obtain ⟨c3, hc3⟩ : ∃ c : Bool, c = (decide (0 ≤ dr) && decide (dr ≤ 1000000)) := ⟨_, rfl⟩
  obtain ⟨c4, hc4⟩ : ∃ c : Bool, c = (decide (0 ≤ nx - fi) && decide (nx - fi ≤ 60)) := ⟨_, rfl⟩
  have hb : Agg.dqRange fi nx dr = (c1 && c2 && c3 && c4) := by
    rw [hc1, hc2, hc3, hc4, Agg.dqRange]
    simp only [Bool.decide_and]
    simp only [Bool.and_assoc]
  rw [hb]
  have h1 := fun w => within_any fi 0 1000000 w
  have h2 := fun w => within_any nx 0 1000000 w
  have h3 := fun w => within_any dr 0 1000000 w
  have h4 := fun w => within_any (nx - fi) 0 60 w
  rw [← hc1] at h1
  rw [← hc2] at h2
  rw [← hc3] at h3
  rw [← hc4] at h4
  have H1 := Lib.hid h1
  have H2 := Lib.hid h2
  have H3 := Lib.hid h3
  have H4 := Lib.hid h4
  have HB := Lib.hid (show Below w.heap.size w (w.alloc (.cells #[.slice ia n ic, .slice pa m pc, .int .i64 fi, .int .i64 nx, .int .i64 dr] 39)) from (Below.refl _ _).alloc (Nat.le_refl _) _)
  have hbd : c1 = true → c2 = true → -1000000 ≤ nx - fi ∧ nx - fi ≤ 1000000 := by
    intro e1 e2
    rw [hc1] at e1
    rw [hc2] at e2
    simp only [Bool.and_eq_true, decide_eq_true_eq] at e1 e2
    omega
  clear hb h1 h2 h3 h4 hc1 hc2 hc3 hc4
  cases c1
  · clear hbd
    go_enter Try.func51, Try.ntmps51
    go_wp2_with fail
    refine (H1.out _).mono ?_
    rintro e w1 ⟨rfl, rfl⟩
    go_wp2_with fail
    go_returns
    exact ⟨rfl, HB.out⟩
  · cases c2
    · clear hbd
      go_enter Try.func51, Try.ntmps51
      go_wp2_with fail
      refine (H1.out _).mono ?_
      rintro e w1 ⟨rfl, rfl⟩
      go_wp2_with fail
      refine (H2.out _).mono ?_
      rintro e w1 ⟨rfl, rfl⟩
      go_wp2_with fail
      go_returns
      exact ⟨rfl, HB.out⟩
    · have hbd := hbd rfl rfl
      have hw1 : IntKind.i64.wrap (nx - fi) = nx - fi := IntWalk.i64_in _ ⟨by omega, by omega⟩
      cases c3
      all_goals
        clear hbd
        go_enter Try.func51, Try.ntmps51
        go_wp2_with fail
        refine (H1.out _).mono ?_
        rintro e w1 ⟨rfl, rfl⟩
        go_wp2_with fail
        refine (H2.out _).mono ?_
        rintro e w1 ⟨rfl, rfl⟩
        go_wp2_with fail
        refine (H3.out _).mono ?_
        rintro e w1 ⟨rfl, rfl⟩
        go_wp2_with fail
        first
          | (go_returns; exact ⟨rfl, HB.out⟩)
          | (refine (H4.out _).mono ?_; rintro e w1 ⟨rfl, rfl⟩; go_wp2_with fail; go_returns; exact ⟨by simp, HB.out⟩)
set_option maxRecDepth 8000 in
set_option maxHeartbeats 2000000 in
theorem keepsLast_any (ia : Option Addr) (n ic : Nat) (pa : Option Addr) (m pc : Nat) (fi nx dr : Int) (P : List Int) (w : World) (hP : Nums .i64 w pa m pc P) (hf : 0 ≤ fi ∧ fi ≤ 1000000) (hn : 0 ≤ nx ∧ nx ≤ 1000000) :
    Calls Try.prog 52 #[.agg #[.slice ia n ic, .slice pa m pc, .int .i64 fi, .int .i64 nx, .int .i64 dr]] w fun e w' => e = .returned (.bool (Agg.keepsLast fi nx P)) ∧ Below w.heap.size w w' := by
  have hPl : P.length = m := hP.1
  have hmc := hP.2.1
  have hcm : pc ≤ 9223372036854775807 := by have := hP.2.2.1; unfold maxLen at this; omega
  obtain ⟨b, hb⟩ : ∃ b, b = Agg.keepsLast fi nx P := ⟨_, rfl⟩
  rw [← hb]
  have HBB := Lib.hid hb
  obtain ⟨W, hW⟩ : ∃ W, W = w.alloc (.cells #[.slice ia n ic, .slice pa m pc, .int .i64 fi, .int .i64 nx, .int .i64 dr] 39) := ⟨_, rfl⟩
  have HX := Lib.hid (show Box5 W w.heap.size 39 (.slice ia n ic) (.slice pa m pc) (.int .i64 fi) (.int .i64 nx) (.int .i64 dr) from by rw [hW]; exact Box5.new _ _ _ _ _ _ _)
  have HB := Lib.hid (show Below w.heap.size w W from by rw [hW]; exact (Below.refl _ _).alloc (Nat.le_refl _) _)
  have HP := Lib.hid (hP.below HB.out)
  have HPL := Lib.hid hPl
  clear hb hP hPl
  obtain ⟨q0, q1, q2, q3, q4⟩ := HX.out.cells
  obtain ⟨hf0, hf1⟩ := hf
  obtain ⟨hn0, hn1⟩ := hn
  have hw1 : IntKind.i64.wrap (fi - 1) = fi - 1 := IntWalk.i64_in _ ⟨by omega, by omega⟩
  have hw2 : IntKind.i64.wrap (nx - 1) = nx - 1 := IntWalk.i64_in _ ⟨by omega, by omega⟩
  go_enter Try.func52, Try.ntmps52
  go_upto_region 1 with (fail)
  rw [← hW]
  clear hW
  go_wp2_with fail
  go_loopw [3, 12] (fun lv i wr => ∃ j : Nat, j ≤ m ∧ i = .int .i64 j ∧ lv = .int .i64 (Agg.prevAt fi P j) ∧ Hid (Agg.ascTo fi P j = true) ∧ wr = W) (fun _ i _ => m - (intOf i).toNat)
  case atStart => exact ⟨0, Nat.zero_le _, rfl, rfl, Lib.hid rfl, rfl⟩
  case round =>
    obtain ⟨j, hj, rfl, rfl, HA, rfl⟩ := hrel
    by_cases hlt : j < m
    · rcases HP.out.2.2.2 with h4 | ⟨pb, poff, rfl, hpb, hpcs⟩
      · omega
      · have hcell := hpcs j hlt
        clear hpcs
        obtain ⟨x, hx⟩ : ∃ x, x = P[j]?.getD 0 := ⟨_, rfl⟩
        obtain ⟨l, hl⟩ : ∃ l, l = Agg.prevAt fi P j := ⟨_, rfl⟩
        rw [← hx] at hcell
        rw [← hl]
        have HXX := Lib.hid hx
        have HLL := Lib.hid hl
        clear hx hl
        have hk0 : (0 : Int) ≤ (j : Int) := Int.natCast_nonneg _
        have hkn : (j : Int) < (m : Int) := by omega
        by_cases hle : x ≤ l
        · have hbf : b = false := by
            rw [HBB.out, Agg.keepsLast]
            cases ha : Agg.ascTo fi P P.length
            · rfl
            · have h1 := Agg.ascTo_at (i := j) (by have := HPL.out; omega) ha
              rw [← HXX.out, ← HLL.out] at h1
              omega
          subst hbf
          go_wp2_with fail
          go_returns
          exact ⟨rfl, HB.out⟩
        · go_wp2_with fail
          go_roundw
          case rel => exact ⟨j + 1, by omega, by go_num, by rw [HXX.out]; rfl, Lib.hid (by simp only [Agg.ascTo, HA.out, Bool.true_and, decide_eq_true_eq]; rw [← HXX.out, ← HLL.out]; omega), by first | rfl | trivial⟩
          case measure => simp [intOf]; omega
    · obtain rfl : j = m := by omega
      obtain ⟨l, hl⟩ : ∃ l, l = Agg.prevAt fi P j := ⟨_, rfl⟩
      have hbe : b = decide (l = nx - 1) := by
        have ha := HA.out
        rw [HBB.out, Agg.keepsLast, HPL.out, ha, Bool.true_and, hl]
      rw [← hl]
      clear hl
      by_cases he : l = nx - 1
      · have hbt : b = true := by rw [hbe]; simpa using he
        subst hbt
        clear hbe
        go_wp2_with fail
        go_returns
        exact ⟨by first | rfl | simp [he], HB.out⟩
      · have hbt : b = false := by rw [hbe]; simpa using he
        subst hbt
        clear hbe
        go_wp2_with fail
        go_returns
        exact ⟨by first | rfl | simp [he], HB.out⟩
set_option maxRecDepth 8000 in
set_option maxHeartbeats 2000000 in
theorem inOrder_any {k : Int} {T fl : Nat} (O : OrdAt k T fl) (ia : Option Addr) (n ic : Nat) (I : List Int) (w : World) (hI : Nums .i64 w ia n ic I) :
    Calls Try.prog 53 #[.iface T (.agg #[]), .slice ia n ic] w fun e w' => e = .returned (.bool (Agg.ordTo k I I.length)) ∧ Below w.heap.size w w' := by
  have hIl : I.length = n := hI.1
  have hnc := hI.2.1
  have hcm : ic ≤ 9223372036854775807 := by have := hI.2.2.1; unfold maxLen at this; omega
  obtain ⟨b, hb⟩ : ∃ b, b = Agg.ordTo k I I.length := ⟨_, rfl⟩
  rw [← hb]
  have HBB := Lib.hid hb
  have HI := Lib.hid hI
  have HIL := Lib.hid hIl
  have HLA := Lib.hid O.later
  have hml := O.ml
  have hal := O.al
  have hcl := O.cl
  clear hb hI hIl
  go_enter Try.func53, Try.ntmps53
  go_wp2_with fail
  go_loopw [5] (fun i wr => ∃ j : Nat, i = .int .i64 ((j : Int) + 1) ∧ j ≤ n ∧ Hid (Agg.ordTo k I (j + 1) = true ∨ n = 0) ∧ Hid (Below w.heap.size w wr)) (fun i _ => n + 1 - (intOf i).toNat)
  case atStart => exact ⟨0, rfl, Nat.zero_le _, Lib.hid (.inl rfl), Lib.hid (Below.refl _ _)⟩
  case round =>
    obtain ⟨j, rfl, hj, HO, HW⟩ := hrel
    have hjb : ((j : Int) + 1).toNat = j + 1 := by omega
    by_cases hlt : j + 1 < n
    · rcases (HI.out.below HW.out).2.2.2 with h4 | ⟨ib, ioff, rfl, hib, hics⟩
      · omega
      · have hc0 := hics j (by omega)
        have hc1 := hics (j + 1) hlt
        clear hics
        obtain ⟨x, hx⟩ : ∃ x, x = I[j]?.getD 0 := ⟨_, rfl⟩
        obtain ⟨y, hy⟩ : ∃ y, y = I[j + 1]?.getD 0 := ⟨_, rfl⟩
        rw [← hx] at hc0
        rw [← hy] at hc1
        have HXX := Lib.hid hx
        have HYY := Lib.hid hy
        clear hx hy
        obtain ⟨bb, hbb⟩ : ∃ bb, bb = Agg.before k x y := ⟨_, rfl⟩
        have hla := fun w => HLA.out x y w
        rw [← hbb] at hla
        have HL2 := Lib.hid hla
        have HB2 := Lib.hid hbb
        clear hla hbb
        have hk0 : (0 : Int) ≤ (j : Int) := Int.natCast_nonneg _
        have hkn : (j : Int) < (n : Int) := by omega
        have hk1 : (0 : Int) ≤ (j : Int) + 1 := by omega
        have hk2 : (j : Int) + 1 < (n : Int) := by omega
        have hw1 : IntKind.i64.wrap ((j : Int) + 1 - 1) = (j : Int) := by rw [show (j : Int) + 1 - 1 = (j : Int) by omega]; exact IntWalk.i64_in _ ⟨by omega, by omega⟩
        have hw2 : IntKind.i64.wrap ((j : Int)) = (j : Int) := IntWalk.i64_in _ ⟨by omega, by omega⟩
        have hw3 : IntKind.i64.wrap ((j : Int) + 1 + 1) = (j : Int) + 1 + 1 := IntWalk.i64_in _ ⟨by omega, by omega⟩
        go_wp2_with fail
        refine wp_region_held_drew (S := (fun X => X.cell? ⟨ib, ioff + j, none⟩ = some (.int .i64 x) ∧ X.cell? ⟨ib, ioff + (j + 1), none⟩ = some (.int .i64 y))) (by kernel_rfl) (by refine ⟨?_, ?_⟩ <;> assumption) (fun hHeld => ?_)
        first | (refine wpAnyH_take (i := 0) (v := ?_) rfl (by kernel_rfl) (by kernel_rfl) (by kernel_rfl) (fun _ _ _ h => h) (Or.inl ⟨by rfl, ?_⟩) (by assumption) ?_; rotate_left; (intro X hSw; (try dsimp only at hSw); go_simp; (try with_reducible rfl)); (try simp only [Act.put, List.setIfInBounds_toArray, List.set_cons_zero, List.set_cons_succ, List.getElem_toArray, List.getElem_cons_zero, List.getElem_cons_succ])) | (refine wpAnyH_take (i := 0) (v := undef) rfl (by kernel_rfl) (by kernel_rfl) (by kernel_rfl) (fun _ _ _ h => h) (Or.inr ⟨by rfl, rfl⟩) (by assumption) ?_; (try simp only [Act.put, List.setIfInBounds_toArray, List.set_cons_zero, List.set_cons_succ, List.getElem_toArray, List.getElem_cons_zero, List.getElem_cons_succ])) | fail "take 0"
        first | (refine wpAnyH_take (i := 1) (v := ?_) rfl (by kernel_rfl) (by kernel_rfl) (by kernel_rfl) (fun _ _ _ h => h) (Or.inl ⟨by rfl, ?_⟩) (by assumption) ?_; rotate_left; (intro X hSw; (try dsimp only at hSw); go_simp; (try with_reducible rfl)); (try simp only [Act.put, List.setIfInBounds_toArray, List.set_cons_zero, List.set_cons_succ, List.getElem_toArray, List.getElem_cons_zero, List.getElem_cons_succ])) | (refine wpAnyH_take (i := 1) (v := undef) rfl (by kernel_rfl) (by kernel_rfl) (by kernel_rfl) (fun _ _ _ h => h) (Or.inr ⟨by rfl, rfl⟩) (by assumption) ?_; (try simp only [Act.put, List.setIfInBounds_toArray, List.set_cons_zero, List.set_cons_succ, List.getElem_toArray, List.getElem_cons_zero, List.getElem_cons_succ])) | fail "take 1"
        first | (refine wpAnyH_take (i := 2) (v := ?_) rfl (by kernel_rfl) (by kernel_rfl) (by kernel_rfl) (fun _ _ _ h => h) (Or.inl ⟨by rfl, ?_⟩) (by assumption) ?_; rotate_left; (intro X hSw; (try dsimp only at hSw); go_simp; (try with_reducible rfl)); (try simp only [Act.put, List.setIfInBounds_toArray, List.set_cons_zero, List.set_cons_succ, List.getElem_toArray, List.getElem_cons_zero, List.getElem_cons_succ])) | (refine wpAnyH_take (i := 2) (v := undef) rfl (by kernel_rfl) (by kernel_rfl) (by kernel_rfl) (fun _ _ _ h => h) (Or.inr ⟨by rfl, rfl⟩) (by assumption) ?_; (try simp only [Act.put, List.setIfInBounds_toArray, List.set_cons_zero, List.set_cons_succ, List.getElem_toArray, List.getElem_cons_zero, List.getElem_cons_succ])) | fail "take 2"
        first | (refine wpAnyH_take (i := 3) (v := ?_) rfl (by kernel_rfl) (by kernel_rfl) (by kernel_rfl) (fun _ _ _ h => h) (Or.inl ⟨by rfl, ?_⟩) (by assumption) ?_; rotate_left; (intro X hSw; (try dsimp only at hSw); go_simp; (try with_reducible rfl)); (try simp only [Act.put, List.setIfInBounds_toArray, List.set_cons_zero, List.set_cons_succ, List.getElem_toArray, List.getElem_cons_zero, List.getElem_cons_succ])) | (refine wpAnyH_take (i := 3) (v := undef) rfl (by kernel_rfl) (by kernel_rfl) (by kernel_rfl) (fun _ _ _ h => h) (Or.inr ⟨by rfl, rfl⟩) (by assumption) ?_; (try simp only [Act.put, List.setIfInBounds_toArray, List.set_cons_zero, List.set_cons_succ, List.getElem_toArray, List.getElem_cons_zero, List.getElem_cons_succ])) | fail "take 3"
        first | (refine wpAnyH_take (i := 4) (v := ?_) rfl (by kernel_rfl) (by kernel_rfl) (by kernel_rfl) (fun _ _ _ h => h) (Or.inl ⟨by rfl, ?_⟩) (by assumption) ?_; rotate_left; (intro X hSw; (try dsimp only at hSw); go_simp; (try with_reducible rfl)); (try simp only [Act.put, List.setIfInBounds_toArray, List.set_cons_zero, List.set_cons_succ, List.getElem_toArray, List.getElem_cons_zero, List.getElem_cons_succ])) | (refine wpAnyH_take (i := 4) (v := undef) rfl (by kernel_rfl) (by kernel_rfl) (by kernel_rfl) (fun _ _ _ h => h) (Or.inr ⟨by rfl, rfl⟩) (by assumption) ?_; (try simp only [Act.put, List.setIfInBounds_toArray, List.set_cons_zero, List.set_cons_succ, List.getElem_toArray, List.getElem_cons_zero, List.getElem_cons_succ])) | fail "take 4"
        first | (refine wpAnyH_take (i := 5) (v := ?_) rfl (by kernel_rfl) (by kernel_rfl) (by kernel_rfl) (fun _ _ _ h => h) (Or.inl ⟨by rfl, ?_⟩) (by assumption) ?_; rotate_left; (intro X hSw; (try dsimp only at hSw); go_simp; (try with_reducible rfl)); (try simp only [Act.put, List.setIfInBounds_toArray, List.set_cons_zero, List.set_cons_succ, List.getElem_toArray, List.getElem_cons_zero, List.getElem_cons_succ])) | (refine wpAnyH_take (i := 5) (v := undef) rfl (by kernel_rfl) (by kernel_rfl) (by kernel_rfl) (fun _ _ _ h => h) (Or.inr ⟨by rfl, rfl⟩) (by assumption) ?_; (try simp only [Act.put, List.setIfInBounds_toArray, List.set_cons_zero, List.set_cons_succ, List.getElem_toArray, List.getElem_cons_zero, List.getElem_cons_succ])) | fail "take 5"
        first | (refine wpAnyH_take (i := 6) (v := ?_) rfl (by kernel_rfl) (by kernel_rfl) (by kernel_rfl) (fun _ _ _ h => h) (Or.inl ⟨by rfl, ?_⟩) (by assumption) ?_; rotate_left; (intro X hSw; (try dsimp only at hSw); go_simp; (try with_reducible rfl)); (try simp only [Act.put, List.setIfInBounds_toArray, List.set_cons_zero, List.set_cons_succ, List.getElem_toArray, List.getElem_cons_zero, List.getElem_cons_succ])) | (refine wpAnyH_take (i := 6) (v := undef) rfl (by kernel_rfl) (by kernel_rfl) (by kernel_rfl) (fun _ _ _ h => h) (Or.inr ⟨by rfl, rfl⟩) (by assumption) ?_; (try simp only [Act.put, List.setIfInBounds_toArray, List.set_cons_zero, List.set_cons_succ, List.getElem_toArray, List.getElem_cons_zero, List.getElem_cons_succ])) | fail "take 6"
        first | (refine wpAnyH_take (i := 7) (v := ?_) rfl (by kernel_rfl) (by kernel_rfl) (by kernel_rfl) (fun _ _ _ h => h) (Or.inl ⟨by rfl, ?_⟩) (by assumption) ?_; rotate_left; (intro X hSw; (try dsimp only at hSw); go_simp; (try with_reducible rfl)); (try simp only [Act.put, List.setIfInBounds_toArray, List.set_cons_zero, List.set_cons_succ, List.getElem_toArray, List.getElem_cons_zero, List.getElem_cons_succ])) | (refine wpAnyH_take (i := 7) (v := undef) rfl (by kernel_rfl) (by kernel_rfl) (by kernel_rfl) (fun _ _ _ h => h) (Or.inr ⟨by rfl, rfl⟩) (by assumption) ?_; (try simp only [Act.put, List.setIfInBounds_toArray, List.set_cons_zero, List.set_cons_succ, List.getElem_toArray, List.getElem_cons_zero, List.getElem_cons_succ])) | fail "take 7"
        first | (refine wpAnyH_take (i := 8) (v := ?_) rfl (by kernel_rfl) (by kernel_rfl) (by kernel_rfl) (fun _ _ _ h => h) (Or.inl ⟨by rfl, ?_⟩) (by assumption) ?_; rotate_left; (intro X hSw; (try dsimp only at hSw); go_simp; (try with_reducible rfl)); (try simp only [Act.put, List.setIfInBounds_toArray, List.set_cons_zero, List.set_cons_succ, List.getElem_toArray, List.getElem_cons_zero, List.getElem_cons_succ])) | (refine wpAnyH_take (i := 8) (v := undef) rfl (by kernel_rfl) (by kernel_rfl) (by kernel_rfl) (fun _ _ _ h => h) (Or.inr ⟨by rfl, rfl⟩) (by assumption) ?_; (try simp only [Act.put, List.setIfInBounds_toArray, List.set_cons_zero, List.set_cons_succ, List.getElem_toArray, List.getElem_cons_zero, List.getElem_cons_succ])) | fail "take 8"
        first | (refine wpAnyH_take (i := 9) (v := ?_) rfl (by kernel_rfl) (by kernel_rfl) (by kernel_rfl) (fun _ _ _ h => h) (Or.inl ⟨by rfl, ?_⟩) (by assumption) ?_; rotate_left; (intro X hSw; (try dsimp only at hSw); go_simp; (try with_reducible rfl)); (try simp only [Act.put, List.setIfInBounds_toArray, List.set_cons_zero, List.set_cons_succ, List.getElem_toArray, List.getElem_cons_zero, List.getElem_cons_succ])) | (refine wpAnyH_take (i := 9) (v := undef) rfl (by kernel_rfl) (by kernel_rfl) (by kernel_rfl) (fun _ _ _ h => h) (Or.inr ⟨by rfl, rfl⟩) (by assumption) ?_; (try simp only [Act.put, List.setIfInBounds_toArray, List.set_cons_zero, List.set_cons_succ, List.getElem_toArray, List.getElem_cons_zero, List.getElem_cons_succ])) | fail "take 9"
        first | (refine wpAnyH_take (i := 10) (v := ?_) rfl (by kernel_rfl) (by kernel_rfl) (by kernel_rfl) (fun _ _ _ h => h) (Or.inl ⟨by rfl, ?_⟩) (by assumption) ?_; rotate_left; (intro X hSw; (try dsimp only at hSw); go_simp; (try with_reducible rfl)); (try simp only [Act.put, List.setIfInBounds_toArray, List.set_cons_zero, List.set_cons_succ, List.getElem_toArray, List.getElem_cons_zero, List.getElem_cons_succ])) | (refine wpAnyH_take (i := 10) (v := undef) rfl (by kernel_rfl) (by kernel_rfl) (by kernel_rfl) (fun _ _ _ h => h) (Or.inr ⟨by rfl, rfl⟩) (by assumption) ?_; (try simp only [Act.put, List.setIfInBounds_toArray, List.set_cons_zero, List.set_cons_succ, List.getElem_toArray, List.getElem_cons_zero, List.getElem_cons_succ])) | fail "take 10"
        first | (refine wpAnyH_take (i := 11) (v := ?_) rfl (by kernel_rfl) (by kernel_rfl) (by kernel_rfl) (fun _ _ _ h => h) (Or.inl ⟨by rfl, ?_⟩) (by assumption) ?_; rotate_left; (intro X hSw; (try dsimp only at hSw); go_simp; (try with_reducible rfl)); (try simp only [Act.put, List.setIfInBounds_toArray, List.set_cons_zero, List.set_cons_succ, List.getElem_toArray, List.getElem_cons_zero, List.getElem_cons_succ])) | (refine wpAnyH_take (i := 11) (v := undef) rfl (by kernel_rfl) (by kernel_rfl) (by kernel_rfl) (fun _ _ _ h => h) (Or.inr ⟨by rfl, rfl⟩) (by assumption) ?_; (try simp only [Act.put, List.setIfInBounds_toArray, List.set_cons_zero, List.set_cons_succ, List.getElem_toArray, List.getElem_cons_zero, List.getElem_cons_succ])) | fail "take 11"
        first | (refine wpAnyH_take (i := 12) (v := ?_) rfl (by kernel_rfl) (by kernel_rfl) (by kernel_rfl) (fun _ _ _ h => h) (Or.inl ⟨by rfl, ?_⟩) (by assumption) ?_; rotate_left; (intro X hSw; (try dsimp only at hSw); go_simp; (try with_reducible rfl)); (try simp only [Act.put, List.setIfInBounds_toArray, List.set_cons_zero, List.set_cons_succ, List.getElem_toArray, List.getElem_cons_zero, List.getElem_cons_succ])) | (refine wpAnyH_take (i := 12) (v := undef) rfl (by kernel_rfl) (by kernel_rfl) (by kernel_rfl) (fun _ _ _ h => h) (Or.inr ⟨by rfl, rfl⟩) (by assumption) ?_; (try simp only [Act.put, List.setIfInBounds_toArray, List.set_cons_zero, List.set_cons_succ, List.getElem_toArray, List.getElem_cons_zero, List.getElem_cons_succ])) | fail "take 12"
        refine wpAnyH_ready (rs := [13]) (by kernel_rfl) (by simp) ?_
        refine AllReadyH.cons rfl (fun K hK => ?_) AllReadyH.nil
        go_simp
        refine (HL2.out _).mono ?_
        rintro e w3 ⟨rfl, hb3⟩
        have HW3 := Lib.hid (HW.out.drew.trans (hb3.mono HW.out.size))
        have hc0 := (hb3.cell (p := ⟨ib, ioff + j, none⟩) hib).trans hc0
        have hc1 := (hb3.cell (p := ⟨ib, ioff + (j + 1), none⟩) hib).trans hc1
        clear hb3
        (try dsimp only)
        refine hK.out _ _ (by refine ⟨?_, ?_⟩ <;> assumption) (fun hHeld => ?_)
        clear hK K
        (try simp only [Act.put, List.setIfInBounds_toArray, List.set_cons_zero, List.set_cons_succ, List.getElem_toArray, List.getElem_cons_zero, List.getElem_cons_succ])
        refine wpAnyH_done (by kernel_rfl) ?_ _
        cases bb
        · go_wp2_with fail
          go_roundw
          case rel => exact ⟨j + 1, by go_num, by omega, Lib.hid (.inl (by
            rcases HO.out with h | h
            · simp only [Agg.ordTo] at h ⊢
              rw [h]
              simp only [Nat.add_one_ne_zero, if_false, Nat.add_sub_cancel, Bool.true_and]
              rw [← HXX.out, ← HYY.out, ← HB2.out]
              rfl
            · omega)), HW3⟩
          case measure => simp [intOf]; omega
        · have hbf : b = false := by
            rw [HBB.out]
            cases ho : Agg.ordTo k I I.length
            · rfl
            · have h1 := Agg.ordTo_down (i := j + 1 + 1) (by have := HIL.out; omega) ho
              simp only [Agg.ordTo, Nat.add_one_ne_zero, if_false, Nat.add_sub_cancel, Bool.and_eq_true] at h1
              rw [← HXX.out, ← HYY.out, ← HB2.out] at h1
              simp at h1
          subst hbf
          go_wp2_with fail
          go_returns
          exact ⟨rfl, HW3.out⟩
    · have hbt : b = true := by
        rw [HBB.out, HIL.out]
        by_cases h0 : n = 0
        · rw [h0]; rfl
        · rcases HO.out with h | h
          · have : n = j + 1 ∨ n ≤ j := by omega
            rcases this with e | e
            · rw [e]; exact h
            · exact Agg.ordTo_down (by omega) h
          · omega
      subst hbt
      have hk2 : ¬ ((j : Int) + 1 < (n : Int)) := by omega
      go_wp2_with fail
      go_returns
      exact ⟨rfl, HW.out⟩
end Go.Proofs.Ytehfijijapfomaa
