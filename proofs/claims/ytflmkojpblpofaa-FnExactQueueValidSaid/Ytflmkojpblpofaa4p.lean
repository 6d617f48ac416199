/-
  The model's queue: its places.
-/
import Derived.Test.YtflmkojpblpofaaRw
import Derived.Test.Ytflmkojpblpofaa4m
import Derived.Test.Ytflmkojpblpofaa3a
import Derived.Test.YtflmkojpblpofaaL
import Derived.Deep.RegionHeld3
import Derived.IntWalk
namespace Go.Proofs.Ytflmkojpblpofaa
set_option linter.unusedSimpArgs false
set_option linter.unusedVariables false
open Go.RowKit
theorem Nums.sub_ {k : IntKind} {w : World} {b off n cap : Nat} {l : List Int} (h : Nums k w (some ⟨b, off, none⟩) n cap l) {i s : Nat} (hi : i + s ≤ n) : Nums k w (some ⟨b, off + i, none⟩) s (cap - i) ((l.drop i).take s) := by
  obtain ⟨h1, h2, h3, h4⟩ := h
  refine ⟨by simp; omega, by omega, by omega, ?_⟩
  rcases h4 with h4 | ⟨b', off', ha, hb, hc⟩
  · exact .inl (by omega)
  · simp only [Option.some.injEq, Addr.mk.injEq, and_true] at ha
    obtain ⟨rfl, rfl⟩ := ha
    refine .inr ⟨b, off + i, rfl, hb, fun j hj => ?_⟩
    rw [Nat.add_assoc, hc (i + j) (by omega), List.getElem?_take, if_pos hj, List.getElem?_drop]
theorem OwnV.of4 {w : World} {lo lo' n : Nat} {v : Value} {l : List Agg.V} (h : w.ownsRow lo 48 3 v n (valRow l)) (hb : lo' ≤ lo) (hs : lo' ≤ w.heap.size) : OwnV w lo' w.heap.size v n l :=
  ⟨owns_lower h hb, hs, Nat.le_refl _, fun g hg => (h.lt g hg).2⟩
theorem OwnR.of4 {w : World} {lo lo' n : Nat} {v : Value} {l : List Int} (h : w.ownsRow lo 3 1 v n (l.map (Value.int .i64))) (hb : lo' ≤ lo) (hs : lo' ≤ w.heap.size) : OwnR w lo' w.heap.size v n l :=
  ⟨owns_lower h hb, hs, Nat.le_refl _, fun g hg => (h.lt g hg).2⟩
set_option maxRecDepth 8000 in
set_option maxHeartbeats 4000000 in
theorem s_places_any (ia : Option Addr) (m ic : Nat) (fa : Option Addr) (fn fc : Nat) (pl pr pa pb co : Int) (w : World) (hm : m ≤ 60) :
    Calls Try.prog 25 #[.agg #[.slice ia m ic, .slice fa fn fc, .int .i64 pl, .int .i64 pr, .int .i64 pa, .int .i64 pb, .int .i64 co]] w fun e w' => e = .returned (.bool (Agg.placesOk m pl pr pa pb)) ∧ Below w.heap.size w w' := by
  by_cases h0 : m = 0
  · subst h0
    go_enter Try.func25, Try.ntmps25
    go_wp2
    all_goals (go_returns; exact ⟨ret_bool (by simp [Agg.placesOk, *] <;> first | omega | (rw [Bool.eq_iff_iff]; simp)), (by first | (go_grown; done) | (refine below_drewN ?_ _; go_grown; done) | (refine (below_drewN _ ?_); go_grown; done))⟩)
  · have h0' : ¬ ((m : Int) = 0) := by omega
    have hpl : Agg.placesOk m pl pr pa pb = decide (0 ≤ pl ∧ pl ≤ pr ∧ pr ≤ pa ∧ pa ≤ pb ∧ 1 ≤ pb ∧ pb ≤ (m : Int) ∧ pl = (m : Int) - pb + 1 ∧ pr - pl = pa - pr) := by unfold Agg.placesOk; rw [if_neg h0']
    rw [hpl]
    clear hpl
    by_cases hh : 1 ≤ pb ∧ pb ≤ (m : Int) ∧ 0 ≤ pl ∧ pl ≤ pr ∧ pr ≤ pa ∧ pa ≤ pb
    · obtain ⟨g1, g2, g3, g4, g5, g6⟩ := hh
      by_cases h5 : pl = (m : Int) - pb + 1
      · by_cases h6 : pr - pl = pa - pr
        · rw [show decide (0 ≤ pl ∧ pl ≤ pr ∧ pr ≤ pa ∧ pa ≤ pb ∧ 1 ≤ pb ∧ pb ≤ (m : Int) ∧ pl = (m : Int) - pb + 1 ∧ pr - pl = pa - pr) = true from decide_eq_true (by omega)]
          have H5 := Lib.hid h5
          have H6 := Lib.hid h6
          have e5 : (pl == (m : Int) - pb + 1) = true := by simpa using h5
          have e6 : (pr - pl == pa - pr) = true := by simpa using h6
          clear h5 h6
          go_enter Try.func25, Try.ntmps25
          go_wp2
          all_goals (go_returns; exact ⟨by simp [H5.out, H6.out, e5, e6] <;> omega, (by first | (go_grown; done) | (refine below_drewN ?_ _; go_grown; done) | (refine (below_drewN _ ?_); go_grown; done))⟩)
        · rw [show decide (0 ≤ pl ∧ pl ≤ pr ∧ pr ≤ pa ∧ pa ≤ pb ∧ 1 ≤ pb ∧ pb ≤ (m : Int) ∧ pl = (m : Int) - pb + 1 ∧ pr - pl = pa - pr) = false from decide_eq_false (by omega)]
          have H5 := Lib.hid h5
          have H6 := Lib.hid h6
          have e5 : (pl == (m : Int) - pb + 1) = true := by simpa using h5
          have e6 : (pr - pl == pa - pr) = false := by simpa using h6
          clear h5 h6
          go_enter Try.func25, Try.ntmps25
          go_wp2
          all_goals (go_returns; exact ⟨by simp [H5.out, H6.out, e5, e6] <;> omega, (by first | (go_grown; done) | (refine below_drewN ?_ _; go_grown; done) | (refine (below_drewN _ ?_); go_grown; done))⟩)
      · rw [show decide (0 ≤ pl ∧ pl ≤ pr ∧ pr ≤ pa ∧ pa ≤ pb ∧ 1 ≤ pb ∧ pb ≤ (m : Int) ∧ pl = (m : Int) - pb + 1 ∧ pr - pl = pa - pr) = false from decide_eq_false (by omega)]
        have H5 := Lib.hid h5
        have e5 : (pl == (m : Int) - pb + 1) = false := by simpa using h5
        clear h5
        go_enter Try.func25, Try.ntmps25
        go_wp2
        all_goals (go_returns; exact ⟨by simp [H5.out, e5] <;> omega, (by first | (go_grown; done) | (refine below_drewN ?_ _; go_grown; done) | (refine (below_drewN _ ?_); go_grown; done))⟩)
    · rw [show decide (0 ≤ pl ∧ pl ≤ pr ∧ pr ≤ pa ∧ pa ≤ pb ∧ 1 ≤ pb ∧ pb ≤ (m : Int) ∧ pl = (m : Int) - pb + 1 ∧ pr - pl = pa - pr) = false from decide_eq_false (by omega)]
      obtain g | g | g | g | g | g : pb < 1 ∨ (1 ≤ pb ∧ (m : Int) < pb) ∨ (1 ≤ pb ∧ pb ≤ (m : Int) ∧ pl < 0) ∨ (1 ≤ pb ∧ pb ≤ (m : Int) ∧ 0 ≤ pl ∧ pr < pl) ∨ (1 ≤ pb ∧ pb ≤ (m : Int) ∧ 0 ≤ pl ∧ pl ≤ pr ∧ pa < pr) ∨ (1 ≤ pb ∧ pb ≤ (m : Int) ∧ 0 ≤ pl ∧ pl ≤ pr ∧ pr ≤ pa ∧ pb < pa) := by omega
      all_goals
        clear hh
        (try (obtain ⟨g1, g⟩ := g)); (try (obtain ⟨g2, g⟩ := g)); (try (obtain ⟨g3, g⟩ := g)); (try (obtain ⟨g4, g⟩ := g)); (try (obtain ⟨g5, g⟩ := g))
        go_enter Try.func25, Try.ntmps25
        go_wp2
        go_returns
        exact ⟨rfl, (by first | (go_grown; done) | (refine below_drewN ?_ _; go_grown; done) | (refine (below_drewN _ ?_); go_grown; done))⟩
end Go.Proofs.Ytflmkojpblpofaa
