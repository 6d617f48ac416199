/-
  The places of a queue, in the program.
-/
import Derived.Test.YthkokeeciicdnaaRw
import Derived.Test.Ythkokeeciicdnaa4m
import Derived.Test.YthkokeeciicdnaaM
import Derived.Test.YthkokeeciicdnaaN
import Derived.Test.YthkokeeciicdnaaL
import Derived.Deep.RegionHeld3
import Derived.IntWalk
import Derived.Deep.QuietTactic
namespace Go.Proofs.Ythkokeeciicdnaa
set_option linter.unusedSimpArgs false
set_option linter.unusedVariables false
open Go.RowKit
theorem Nums.sub {k : IntKind} {w : World} {b off n cap : Nat} {l : List Int} (h : Nums k w (some ⟨b, off, none⟩) n cap l) {i s : Nat} (hi : i + s ≤ n) : Nums k w (some ⟨b, off + i, none⟩) s (cap - i) ((l.drop i).take s) := by
  obtain ⟨h1, h2, h3, h4⟩ := h
  refine ⟨by simp; omega, by omega, by omega, ?_⟩
  rcases h4 with h4 | ⟨b', off', ha, hb, hc⟩
  · exact .inl (by omega)
  · simp only [Option.some.injEq, Addr.mk.injEq, and_true] at ha
    obtain ⟨rfl, rfl⟩ := ha
    refine .inr ⟨b, off + i, rfl, hb, fun j hj => ?_⟩
    rw [Nat.add_assoc, hc (i + j) (by omega), List.getElem?_take, if_pos hj, List.getElem?_drop]
set_option maxRecDepth 8000 in
set_option maxHeartbeats 4000000 in
theorem placesFit_any (ia : Option Addr) (m ic : Nat) (fa : Option Addr) (fn fc : Nat) (pl pr pa pb co : Int) (w : World) (hm : m ≤ 60) :
    Calls Try.prog 32 #[.agg #[.slice ia m ic, .slice fa fn fc, .int .i64 pl, .int .i64 pr, .int .i64 pa, .int .i64 pb, .int .i64 co]] w fun e w' => e = .returned (.bool (Agg.placesOk m pl pr pa pb)) ∧ Below w.heap.size w w' := by
  by_cases h0 : m = 0
  · subst h0
    go_enter Try.func32, Try.ntmps32
    go_wp2
    all_goals (go_returns; exact ⟨ret_bool (by simp [Agg.placesOk, *] <;> first | omega | (rw [Bool.eq_iff_iff]; simp)), (by first | (go_grown; done) | (refine below_drewN ?_ _; go_grown; done) | (refine (below_drewN _ ?_); go_grown; done))⟩)
  · have h0' : ¬ ((m : Int) = 0) := by omega
    obtain ⟨cb, hcb⟩ : ∃ c : Bool, c = (decide (1 ≤ pb) && decide (pb ≤ (m : Int))) := ⟨_, rfl⟩
    have hW := fun w => within_any pb 1 (m : Int) w
    rw [← hcb] at hW
    have HW := Lib.hid hW
    have HC := Lib.hid hcb
    clear hcb hW
    have hpl : Agg.placesOk m pl pr pa pb = decide (0 ≤ pl ∧ pl ≤ pr ∧ pr ≤ pa ∧ pa ≤ pb ∧ 1 ≤ pb ∧ pb ≤ (m : Int) ∧ pl = (m : Int) - pb + 1 ∧ pr - pl = pa - pr) := by unfold Agg.placesOk; rw [if_neg h0']
    rw [hpl]
    have HP := Lib.hid hpl
    clear hpl
    by_cases h1 : pl < 0
    · rw [show decide (0 ≤ pl ∧ pl ≤ pr ∧ pr ≤ pa ∧ pa ≤ pb ∧ 1 ≤ pb ∧ pb ≤ (m : Int) ∧ pl = (m : Int) - pb + 1 ∧ pr - pl = pa - pr) = false from decide_eq_false (by omega)]
      go_enter Try.func32, Try.ntmps32
      go_wp2_with fail
      go_returns
      exact ⟨rfl, (by first | (go_grown; done) | (refine below_drewN ?_ _; go_grown; done) | (refine (below_drewN _ ?_); go_grown; done))⟩
    · by_cases h2 : pr < pl
      · rw [show decide (0 ≤ pl ∧ pl ≤ pr ∧ pr ≤ pa ∧ pa ≤ pb ∧ 1 ≤ pb ∧ pb ≤ (m : Int) ∧ pl = (m : Int) - pb + 1 ∧ pr - pl = pa - pr) = false from decide_eq_false (by omega)]
        go_enter Try.func32, Try.ntmps32
        go_wp2_with fail
        go_returns
        exact ⟨rfl, (by first | (go_grown; done) | (refine below_drewN ?_ _; go_grown; done) | (refine (below_drewN _ ?_); go_grown; done))⟩
      · by_cases h3 : pa < pr
        · rw [show decide (0 ≤ pl ∧ pl ≤ pr ∧ pr ≤ pa ∧ pa ≤ pb ∧ 1 ≤ pb ∧ pb ≤ (m : Int) ∧ pl = (m : Int) - pb + 1 ∧ pr - pl = pa - pr) = false from decide_eq_false (by omega)]
          go_enter Try.func32, Try.ntmps32
          go_wp2_with fail
          go_returns
          exact ⟨rfl, (by first | (go_grown; done) | (refine below_drewN ?_ _; go_grown; done) | (refine (below_drewN _ ?_); go_grown; done))⟩
        · by_cases h4 : pb < pa
          · rw [show decide (0 ≤ pl ∧ pl ≤ pr ∧ pr ≤ pa ∧ pa ≤ pb ∧ 1 ≤ pb ∧ pb ≤ (m : Int) ∧ pl = (m : Int) - pb + 1 ∧ pr - pl = pa - pr) = false from decide_eq_false (by omega)]
            go_enter Try.func32, Try.ntmps32
            go_wp2_with fail
            go_returns
            exact ⟨rfl, (by first | (go_grown; done) | (refine below_drewN ?_ _; go_grown; done) | (refine (below_drewN _ ?_); go_grown; done))⟩
          · cases cb
            · have hc := HC.out.symm
              rw [show decide (0 ≤ pl ∧ pl ≤ pr ∧ pr ≤ pa ∧ pa ≤ pb ∧ 1 ≤ pb ∧ pb ≤ (m : Int) ∧ pl = (m : Int) - pb + 1 ∧ pr - pl = pa - pr) = false from decide_eq_false (by rw [← Bool.decide_and, decide_eq_false_iff_not] at hc; omega)]
              clear hc
              go_enter Try.func32, Try.ntmps32
              go_wp2_with fail
              refine (HW.out _).mono ?_
              rintro e w1 ⟨rfl, rfl⟩
              go_wp2_with fail
              go_returns
              exact ⟨rfl, (by first | (go_grown; done) | (refine below_drewN ?_ _; go_grown; done) | (refine (below_drewN _ ?_); go_grown; done))⟩
            · have hc : 1 ≤ pb ∧ pb ≤ (m : Int) := by have := HC.out.symm; rw [← Bool.decide_and, decide_eq_true_eq] at this; exact this
              obtain ⟨hc1, hc2⟩ := hc
              by_cases h5 : pl = (m : Int) - pb + 1
              · by_cases h6 : pr - pl = pa - pr
                · rw [show decide (0 ≤ pl ∧ pl ≤ pr ∧ pr ≤ pa ∧ pa ≤ pb ∧ 1 ≤ pb ∧ pb ≤ (m : Int) ∧ pl = (m : Int) - pb + 1 ∧ pr - pl = pa - pr) = true from decide_eq_true (by omega)]
                  have H5 := Lib.hid h5
                  have H6 := Lib.hid h6
                  have e5 : (pl == (m : Int) - pb + 1) = true := by simpa using h5
                  have e6 : (pr - pl == pa - pr) = true := by simpa using h6
                  clear h5 h6
                  go_enter Try.func32, Try.ntmps32
                  go_wp2_with fail
                  refine (HW.out _).mono ?_
                  rintro e w1 ⟨rfl, rfl⟩
                  go_wp2_with fail
                  go_returns
                  exact ⟨by simp [H5.out, H6.out, e5, e6] <;> omega, (by first | (go_grown; done) | (refine below_drewN ?_ _; go_grown; done) | (refine (below_drewN _ ?_); go_grown; done))⟩
                · rw [show decide (0 ≤ pl ∧ pl ≤ pr ∧ pr ≤ pa ∧ pa ≤ pb ∧ 1 ≤ pb ∧ pb ≤ (m : Int) ∧ pl = (m : Int) - pb + 1 ∧ pr - pl = pa - pr) = false from decide_eq_false (by omega)]
                  have H5 := Lib.hid h5
                  have H6 := Lib.hid h6
                  have e5 : (pl == (m : Int) - pb + 1) = true := by simpa using h5
                  have e6 : (pr - pl == pa - pr) = false := by simpa using h6
                  clear h5 h6
                  go_enter Try.func32, Try.ntmps32
                  go_wp2_with fail
                  refine (HW.out _).mono ?_
                  rintro e w1 ⟨rfl, rfl⟩
                  go_wp2_with fail
                  go_returns
                  exact ⟨by simp [H5.out, H6.out, e5, e6] <;> omega, (by first | (go_grown; done) | (refine below_drewN ?_ _; go_grown; done) | (refine (below_drewN _ ?_); go_grown; done))⟩
              · rw [show decide (0 ≤ pl ∧ pl ≤ pr ∧ pr ≤ pa ∧ pa ≤ pb ∧ 1 ≤ pb ∧ pb ≤ (m : Int) ∧ pl = (m : Int) - pb + 1 ∧ pr - pl = pa - pr) = false from decide_eq_false (by omega)]
                have H5 := Lib.hid h5
                have e5 : (pl == (m : Int) - pb + 1) = false := by simpa using h5
                clear h5
                go_enter Try.func32, Try.ntmps32
                go_wp2_with fail
                refine (HW.out _).mono ?_
                rintro e w1 ⟨rfl, rfl⟩
                go_wp2_with fail
                go_returns
                exact ⟨by simp [H5.out, e5] <;> omega, (by first | (go_grown; done) | (refine below_drewN ?_ _; go_grown; done) | (refine (below_drewN _ ?_); go_grown; done))⟩
theorem ret_int_int {x y x' y' : Int} (h : x = x') (h2 : y = y') : Ending.returned (.tuple #[.int .i64 x, .int .i64 y]) = .returned (.tuple #[.int .i64 x', .int .i64 y']) := by rw [h, h2]
set_option maxRecDepth 8000 in
set_option maxHeartbeats 4000000 in
theorem rowAt_any (ia : Option Addr) (m ic : Nat) (fa : Option Addr) (fn fc : Nat) (pl pr pa pb co : Int) (i : Int) (w : World) (hi0 : 0 ≤ i) (hi : i ≤ 60) :
    Calls Try.prog 33 #[.agg #[.slice ia m ic, .slice fa fn fc, .int .i64 pl, .int .i64 pr, .int .i64 pa, .int .i64 pb, .int .i64 co], .int .i64 i] w fun e w' => e = .returned (.tuple #[.int .i64 (Agg.rowLo pl pr pa pb i), .int .i64 (Agg.rowHi pl pr pa pb i)]) ∧ Below w.heap.size w w' := by
  obtain ⟨lo, hlo⟩ : ∃ lo, lo = Agg.rowLo pl pr pa pb i := ⟨_, rfl⟩
  obtain ⟨hh, hhi⟩ : ∃ hh, hh = Agg.rowHi pl pr pa pb i := ⟨_, rfl⟩
  rw [← hlo, ← hhi]
  obtain g | g | g | g | g : (i < pl ∧ lo = i ∧ hh = pb) ∨ (pl ≤ i ∧ i < pr ∧ lo = i ∧ hh = pr) ∨ (pl ≤ i ∧ pr ≤ i ∧ i < pa ∧ lo = pr ∧ hh = i + 1) ∨ (pl ≤ i ∧ pr ≤ i ∧ pa ≤ i ∧ i < pb ∧ lo = i ∧ hh = pb) ∨ (pl ≤ i ∧ pr ≤ i ∧ pa ≤ i ∧ pb ≤ i ∧ lo = pb ∧ hh = i + 1) := by
    rw [hlo, hhi]
    unfold Agg.rowLo Agg.rowHi
    (repeat' split) <;> omega
  · obtain ⟨g1, rfl, rfl⟩ := g
    clear hlo hhi
    go_enter Try.func33, Try.ntmps33
    go_wp2_with fail
    (try (go_quiet (fail); go_wp2_with fail))
    go_returns
    exact ⟨rfl, (by first | (go_grown; done) | (refine below_drewN ?_ _; go_grown; done) | (refine (below_drewN _ ?_); go_grown; done))⟩
  · obtain ⟨g1, g2, rfl, rfl⟩ := g
    clear hlo hhi
    go_enter Try.func33, Try.ntmps33
    go_wp2_with fail
    (try (go_quiet (fail); go_wp2_with fail))
    go_returns
    exact ⟨rfl, (by first | (go_grown; done) | (refine below_drewN ?_ _; go_grown; done) | (refine (below_drewN _ ?_); go_grown; done))⟩
  · obtain ⟨g1, g2, g3, rfl, rfl⟩ := g
    clear hlo hhi
    go_enter Try.func33, Try.ntmps33
    go_wp2_with fail
    (try (go_quiet (fail); go_wp2_with fail))
    go_returns
    exact ⟨rfl, (by first | (go_grown; done) | (refine below_drewN ?_ _; go_grown; done) | (refine (below_drewN _ ?_); go_grown; done))⟩
  · obtain ⟨g1, g2, g3, g4, rfl, rfl⟩ := g
    clear hlo hhi
    go_enter Try.func33, Try.ntmps33
    go_wp2_with fail
    (try (go_quiet (fail); go_wp2_with fail))
    go_returns
    exact ⟨rfl, (by first | (go_grown; done) | (refine below_drewN ?_ _; go_grown; done) | (refine (below_drewN _ ?_); go_grown; done))⟩
  · obtain ⟨g1, g2, g3, g4, rfl, rfl⟩ := g
    clear hlo hhi
    go_enter Try.func33, Try.ntmps33
    go_wp2_with fail
    (try (go_quiet (fail); go_wp2_with fail))
    go_returns
    exact ⟨rfl, (by first | (go_grown; done) | (refine below_drewN ?_ _; go_grown; done) | (refine (below_drewN _ ?_); go_grown; done))⟩
end Go.Proofs.Ythkokeeciicdnaa
