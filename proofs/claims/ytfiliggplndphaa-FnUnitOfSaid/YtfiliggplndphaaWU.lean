/-
  The law that no items have no number, walked.
-/
import Derived.Test.YtfiliggplndphaaM
import Derived.Test.YtfiliggplndphaaN
import Derived.Test.YtfiliggplndphaaDk
namespace Go.Proofs.Ytfiliggplndphaa
set_option linter.unusedSimpArgs false
set_option linter.unusedVariables false
open Go.RowKit
theorem Nums.none_ (w : World) : Nums .i64 w none 0 0 [] := ⟨rfl, Nat.le_refl _, by simp [maxLen], .inl rfl⟩
set_option maxHeartbeats 8000000 in
theorem law_FnUnitOf (a : Option Addr) (n cap : Nat) (zs : List Int) (w : World) (hrow : IsRow .u8 w a n cap zs) :
    Calls Try.prog 6 #[.slice a n cap] w fun e w' => e = .returned (.bool true) ∧ Below w.heap.size w w' := by
  have HB := Lib.hid (Bytes.of_row hrow)
  have hm : cap ≤ 9223372036854775807 := HB.out.2.1
  have hnc : n ≤ cap := HB.out.1
  clear hrow
  by_cases hn : n ≤ 1048576
  · go_enter Try.func6, Try.ntmps6
    go_wp2_with fail
    refine (drawUnitOf_any _ _ _ _ _ HB.out).mono ?_
    rintro e w1 ⟨k, rfl, hB1⟩
    have hzz := hB1.size
    cases hk : Agg.isKind k
    · have e1 : Agg.aUnit k = (⟨0, 0, 0⟩, false) := by simp [Agg.aUnit, Agg.give, Agg.zero, hk]
      have h1 : ∀ w, Calls Try.prog 10 #[.int .i64 k] w fun e w' => e = .returned (.tuple #[.agg #[.int .i64 0, .int .i64 0, .int .i64 0], .bool false]) ∧ Below w.heap.size w w' := fun w => by have := unitOf_any k w; rw [e1] at this; exact this
      have h2 : ∀ w, Calls Try.prog 20 #[.int .i64 k] w fun e w' => e = .returned (.tuple #[.agg #[.int .i64 0, .int .i64 0, .int .i64 0], .bool false]) ∧ Below w.heap.size w w' := fun w => by have := s_unitOf_any k w; rw [e1] at this; exact this
      have H1 := Lib.hid h1
      have H2 := Lib.hid h2
      clear h1 h2 e1
      go_wp2_with (first | (go_at_call 10; refine (H1.out _).mono ?_; rintro e w1 ⟨rfl, hb1⟩; obtain ⟨hc1, hf1⟩ := bcell hb1; have hzz := hb1.size; (try simp at hzz); (try rw [Nat.add_one_le_iff] at hzz); have hB1 : Below w.heap.size w w1 := Below.trans (by go_grown) (hb1.mono (by first | (simp; done) | omega | (simp; omega) | (have hs := hB1.size; simp; omega))); clear hb1) | (go_at_call 20; refine (H2.out _).mono ?_; rintro e w1 ⟨rfl, hb1⟩; obtain ⟨hc1, hf1⟩ := bcell hb1; have hzz := hb1.size; (try simp at hzz); (try rw [Nat.add_one_le_iff] at hzz); have hB1 : Below w.heap.size w w1 := Below.trans (by go_grown) (hb1.mono (by first | (simp; done) | omega | (simp; omega) | (have hs := hB1.size; simp; omega))); clear hb1) | (go_at_call 17; refine (kindValid_any _ _).mono ?_; rintro e w1 ⟨rfl, rfl⟩))
      go_returns
      exact ⟨rfl, (by first | (go_grown; done) | (refine below_drewN ?_ _; go_grown; done) | (refine (below_drewN _ ?_); go_grown; done))⟩
    · rcases Agg.kinds hk with rfl | rfl | rfl | rfl | rfl | rfl | rfl | rfl | rfl | rfl
      · have e1 : Agg.aUnit 1 = (⟨0, 0, 0⟩, true) := by simp [Agg.aUnit, Agg.give, Agg.isKind, Agg.unit]
        have e2 : Agg.aFold 1 [] = (⟨0, 0, 0⟩, true) := by simp [Agg.aFold, Agg.give, Agg.isKind, Agg.itemsOk, Agg.fold, Agg.unit]
        have e3 : Agg.aLow 1 ⟨0, 0, 0⟩ = (0, true) := by simp [Agg.aLow, Agg.valid, Agg.isKind, Agg.ok, Agg.low]
        have h1 : ∀ w, Calls Try.prog 10 #[.int .i64 1] w fun e w' => e = .returned (.tuple #[.agg #[.int .i64 0, .int .i64 0, .int .i64 0], .bool true]) ∧ Below w.heap.size w w' := fun w => by have := unitOf_any 1 w; rw [e1] at this; exact this
        have h2 : ∀ w, Calls Try.prog 20 #[.int .i64 1] w fun e w' => e = .returned (.tuple #[.agg #[.int .i64 0, .int .i64 0, .int .i64 0], .bool true]) ∧ Below w.heap.size w w' := fun w => by have := s_unitOf_any 1 w; rw [e1] at this; exact this
        have h3 : ∀ w, Calls Try.prog 21 #[.int .i64 1, .slice none 0 0] w fun e w' => e = .returned (.tuple #[.agg #[.int .i64 0, .int .i64 0, .int .i64 0], .bool true]) ∧ Below w.heap.size w w' := fun w => by have := foldItems_any 1 none 0 0 [] w (Nums.none_ w); rw [e2] at this; exact this
        have h4 : ∀ w, Calls Try.prog 14 #[.int .i64 1, .agg #[.int .i64 0, .int .i64 0, .int .i64 0]] w fun e w' => e = .returned (.tuple #[.int .i64 0, .bool true]) ∧ Below w.heap.size w w' := fun w => by have := lowerValue_any 1 0 0 0 w; rw [e3] at this; exact this
        have H1 := Lib.hid h1
        have H2 := Lib.hid h2
        have H3 := Lib.hid h3
        have H4 := Lib.hid h4
        clear h1 h2 h3 h4 e1 e2 e3
        go_wp2_with fail
        refine (H1.out _).mono ?_
        rintro e w2 ⟨rfl, hb2⟩
        have hB2 := hB1.trans (hb2.mono hB1.size)
        have hs2 := hB2.size
        clear hb2
        go_wp2_with fail
        refine (H2.out _).mono ?_
        rintro e w3 ⟨rfl, hb3⟩
        obtain ⟨hc3, hf3⟩ := bcell hb3
        have hz3 : w2.heap.size < w3.heap.size := by have := hb3.size; simp at this; omega
        have hB3 : Below w.heap.size w w3 := Below.trans (by go_grown) (hb3.mono (by simp; omega))
        have hs3 := hB3.size
        clear hb3
        go_wp2_with fail
        refine (H3.out _).mono ?_
        rintro e w4 ⟨rfl, hb4⟩
        obtain ⟨hc4, hf4⟩ := bcell hb4
        have hz4 : w3.heap.size < w4.heap.size := by have := hb4.size; simp at this; omega
        have hy4 : w2.heap.size < w4.heap.size := by omega
        have hB4 : Below w.heap.size w w4 := Below.trans (by go_grown) (hb4.mono (by simp; omega))
        have hs4 := hB4.size
        clear hb4
        go_wp2_with fail
        refine (H4.out _).mono ?_
        rintro e w5 ⟨rfl, hb5⟩
        obtain ⟨hc5, hf5⟩ := bcell hb5
        have hz5 : w4.heap.size < w5.heap.size := by have := hb5.size; simp at this; omega
        have hy5 : w2.heap.size < w5.heap.size := by omega
        have hB5 : Below w.heap.size w w5 := Below.trans (by go_grown) (hb5.mono (by simp; omega))
        clear hb5
        go_wp2_with fail
        go_returns
        exact ⟨rfl, hB5⟩
      · have e1 : Agg.aUnit 2 = (⟨0, 0, 0⟩, true) := by simp [Agg.aUnit, Agg.give, Agg.isKind, Agg.unit]
        have e2 : Agg.aFold 2 [] = (⟨0, 0, 0⟩, true) := by simp [Agg.aFold, Agg.give, Agg.isKind, Agg.itemsOk, Agg.fold, Agg.unit]
        have e3 : Agg.aLow 2 ⟨0, 0, 0⟩ = (0, true) := by simp [Agg.aLow, Agg.valid, Agg.isKind, Agg.ok, Agg.low]
        have h1 : ∀ w, Calls Try.prog 10 #[.int .i64 2] w fun e w' => e = .returned (.tuple #[.agg #[.int .i64 0, .int .i64 0, .int .i64 0], .bool true]) ∧ Below w.heap.size w w' := fun w => by have := unitOf_any 2 w; rw [e1] at this; exact this
        have h2 : ∀ w, Calls Try.prog 20 #[.int .i64 2] w fun e w' => e = .returned (.tuple #[.agg #[.int .i64 0, .int .i64 0, .int .i64 0], .bool true]) ∧ Below w.heap.size w w' := fun w => by have := s_unitOf_any 2 w; rw [e1] at this; exact this
        have h3 : ∀ w, Calls Try.prog 21 #[.int .i64 2, .slice none 0 0] w fun e w' => e = .returned (.tuple #[.agg #[.int .i64 0, .int .i64 0, .int .i64 0], .bool true]) ∧ Below w.heap.size w w' := fun w => by have := foldItems_any 2 none 0 0 [] w (Nums.none_ w); rw [e2] at this; exact this
        have h4 : ∀ w, Calls Try.prog 14 #[.int .i64 2, .agg #[.int .i64 0, .int .i64 0, .int .i64 0]] w fun e w' => e = .returned (.tuple #[.int .i64 0, .bool true]) ∧ Below w.heap.size w w' := fun w => by have := lowerValue_any 2 0 0 0 w; rw [e3] at this; exact this
        have H1 := Lib.hid h1
        have H2 := Lib.hid h2
        have H3 := Lib.hid h3
        have H4 := Lib.hid h4
        clear h1 h2 h3 h4 e1 e2 e3
        go_wp2_with fail
        refine (H1.out _).mono ?_
        rintro e w2 ⟨rfl, hb2⟩
        have hB2 := hB1.trans (hb2.mono hB1.size)
        have hs2 := hB2.size
        clear hb2
        go_wp2_with fail
        refine (H2.out _).mono ?_
        rintro e w3 ⟨rfl, hb3⟩
        obtain ⟨hc3, hf3⟩ := bcell hb3
        have hz3 : w2.heap.size < w3.heap.size := by have := hb3.size; simp at this; omega
        have hB3 : Below w.heap.size w w3 := Below.trans (by go_grown) (hb3.mono (by simp; omega))
        have hs3 := hB3.size
        clear hb3
        go_wp2_with fail
        refine (H3.out _).mono ?_
        rintro e w4 ⟨rfl, hb4⟩
        obtain ⟨hc4, hf4⟩ := bcell hb4
        have hz4 : w3.heap.size < w4.heap.size := by have := hb4.size; simp at this; omega
        have hy4 : w2.heap.size < w4.heap.size := by omega
        have hB4 : Below w.heap.size w w4 := Below.trans (by go_grown) (hb4.mono (by simp; omega))
        have hs4 := hB4.size
        clear hb4
        go_wp2_with fail
        refine (H4.out _).mono ?_
        rintro e w5 ⟨rfl, hb5⟩
        obtain ⟨hc5, hf5⟩ := bcell hb5
        have hz5 : w4.heap.size < w5.heap.size := by have := hb5.size; simp at this; omega
        have hy5 : w2.heap.size < w5.heap.size := by omega
        have hB5 : Below w.heap.size w w5 := Below.trans (by go_grown) (hb5.mono (by simp; omega))
        clear hb5
        go_wp2_with fail
        go_returns
        exact ⟨rfl, hB5⟩
      · have e1 : Agg.aUnit 3 = (⟨0, 0, 0⟩, true) := by simp [Agg.aUnit, Agg.give, Agg.isKind, Agg.unit]
        have e2 : Agg.aFold 3 [] = (⟨0, 0, 0⟩, true) := by simp [Agg.aFold, Agg.give, Agg.isKind, Agg.itemsOk, Agg.fold, Agg.unit]
        have e3 : Agg.aLow 3 ⟨0, 0, 0⟩ = (0, false) := by simp [Agg.aLow, Agg.valid, Agg.isKind, Agg.ok, Agg.low]
        have h1 : ∀ w, Calls Try.prog 10 #[.int .i64 3] w fun e w' => e = .returned (.tuple #[.agg #[.int .i64 0, .int .i64 0, .int .i64 0], .bool true]) ∧ Below w.heap.size w w' := fun w => by have := unitOf_any 3 w; rw [e1] at this; exact this
        have h2 : ∀ w, Calls Try.prog 20 #[.int .i64 3] w fun e w' => e = .returned (.tuple #[.agg #[.int .i64 0, .int .i64 0, .int .i64 0], .bool true]) ∧ Below w.heap.size w w' := fun w => by have := s_unitOf_any 3 w; rw [e1] at this; exact this
        have h3 : ∀ w, Calls Try.prog 21 #[.int .i64 3, .slice none 0 0] w fun e w' => e = .returned (.tuple #[.agg #[.int .i64 0, .int .i64 0, .int .i64 0], .bool true]) ∧ Below w.heap.size w w' := fun w => by have := foldItems_any 3 none 0 0 [] w (Nums.none_ w); rw [e2] at this; exact this
        have h4 : ∀ w, Calls Try.prog 14 #[.int .i64 3, .agg #[.int .i64 0, .int .i64 0, .int .i64 0]] w fun e w' => e = .returned (.tuple #[.int .i64 0, .bool false]) ∧ Below w.heap.size w w' := fun w => by have := lowerValue_any 3 0 0 0 w; rw [e3] at this; exact this
        have H1 := Lib.hid h1
        have H2 := Lib.hid h2
        have H3 := Lib.hid h3
        have H4 := Lib.hid h4
        clear h1 h2 h3 h4 e1 e2 e3
        go_wp2_with fail
        refine (H1.out _).mono ?_
        rintro e w2 ⟨rfl, hb2⟩
        have hB2 := hB1.trans (hb2.mono hB1.size)
        have hs2 := hB2.size
        clear hb2
        go_wp2_with fail
        refine (H2.out _).mono ?_
        rintro e w3 ⟨rfl, hb3⟩
        obtain ⟨hc3, hf3⟩ := bcell hb3
        have hz3 : w2.heap.size < w3.heap.size := by have := hb3.size; simp at this; omega
        have hB3 : Below w.heap.size w w3 := Below.trans (by go_grown) (hb3.mono (by simp; omega))
        have hs3 := hB3.size
        clear hb3
        go_wp2_with fail
        refine (H3.out _).mono ?_
        rintro e w4 ⟨rfl, hb4⟩
        obtain ⟨hc4, hf4⟩ := bcell hb4
        have hz4 : w3.heap.size < w4.heap.size := by have := hb4.size; simp at this; omega
        have hy4 : w2.heap.size < w4.heap.size := by omega
        have hB4 : Below w.heap.size w w4 := Below.trans (by go_grown) (hb4.mono (by simp; omega))
        have hs4 := hB4.size
        clear hb4
        go_wp2_with fail
        refine (H4.out _).mono ?_
        rintro e w5 ⟨rfl, hb5⟩
        obtain ⟨hc5, hf5⟩ := bcell hb5
        have hz5 : w4.heap.size < w5.heap.size := by have := hb5.size; simp at this; omega
        have hy5 : w2.heap.size < w5.heap.size := by omega
        have hB5 : Below w.heap.size w w5 := Below.trans (by go_grown) (hb5.mono (by simp; omega))
        clear hb5
        go_wp2_with fail
        go_returns
        exact ⟨rfl, hB5⟩
      · have e1 : Agg.aUnit 4 = (⟨0, 0, 0⟩, true) := by simp [Agg.aUnit, Agg.give, Agg.isKind, Agg.unit]
        have e2 : Agg.aFold 4 [] = (⟨0, 0, 0⟩, true) := by simp [Agg.aFold, Agg.give, Agg.isKind, Agg.itemsOk, Agg.fold, Agg.unit]
        have e3 : Agg.aLow 4 ⟨0, 0, 0⟩ = (0, false) := by simp [Agg.aLow, Agg.valid, Agg.isKind, Agg.ok, Agg.low]
        have h1 : ∀ w, Calls Try.prog 10 #[.int .i64 4] w fun e w' => e = .returned (.tuple #[.agg #[.int .i64 0, .int .i64 0, .int .i64 0], .bool true]) ∧ Below w.heap.size w w' := fun w => by have := unitOf_any 4 w; rw [e1] at this; exact this
        have h2 : ∀ w, Calls Try.prog 20 #[.int .i64 4] w fun e w' => e = .returned (.tuple #[.agg #[.int .i64 0, .int .i64 0, .int .i64 0], .bool true]) ∧ Below w.heap.size w w' := fun w => by have := s_unitOf_any 4 w; rw [e1] at this; exact this
        have h3 : ∀ w, Calls Try.prog 21 #[.int .i64 4, .slice none 0 0] w fun e w' => e = .returned (.tuple #[.agg #[.int .i64 0, .int .i64 0, .int .i64 0], .bool true]) ∧ Below w.heap.size w w' := fun w => by have := foldItems_any 4 none 0 0 [] w (Nums.none_ w); rw [e2] at this; exact this
        have h4 : ∀ w, Calls Try.prog 14 #[.int .i64 4, .agg #[.int .i64 0, .int .i64 0, .int .i64 0]] w fun e w' => e = .returned (.tuple #[.int .i64 0, .bool false]) ∧ Below w.heap.size w w' := fun w => by have := lowerValue_any 4 0 0 0 w; rw [e3] at this; exact this
        have H1 := Lib.hid h1
        have H2 := Lib.hid h2
        have H3 := Lib.hid h3
        have H4 := Lib.hid h4
        clear h1 h2 h3 h4 e1 e2 e3
        go_wp2_with fail
        refine (H1.out _).mono ?_
        rintro e w2 ⟨rfl, hb2⟩
        have hB2 := hB1.trans (hb2.mono hB1.size)
        have hs2 := hB2.size
        clear hb2
        go_wp2_with fail
        refine (H2.out _).mono ?_
        rintro e w3 ⟨rfl, hb3⟩
        obtain ⟨hc3, hf3⟩ := bcell hb3
        have hz3 : w2.heap.size < w3.heap.size := by have := hb3.size; simp at this; omega
        have hB3 : Below w.heap.size w w3 := Below.trans (by go_grown) (hb3.mono (by simp; omega))
        have hs3 := hB3.size
        clear hb3
        go_wp2_with fail
        refine (H3.out _).mono ?_
        rintro e w4 ⟨rfl, hb4⟩
        obtain ⟨hc4, hf4⟩ := bcell hb4
        have hz4 : w3.heap.size < w4.heap.size := by have := hb4.size; simp at this; omega
        have hy4 : w2.heap.size < w4.heap.size := by omega
        have hB4 : Below w.heap.size w w4 := Below.trans (by go_grown) (hb4.mono (by simp; omega))
        have hs4 := hB4.size
        clear hb4
        go_wp2_with fail
        refine (H4.out _).mono ?_
        rintro e w5 ⟨rfl, hb5⟩
        obtain ⟨hc5, hf5⟩ := bcell hb5
        have hz5 : w4.heap.size < w5.heap.size := by have := hb5.size; simp at this; omega
        have hy5 : w2.heap.size < w5.heap.size := by omega
        have hB5 : Below w.heap.size w w5 := Below.trans (by go_grown) (hb5.mono (by simp; omega))
        clear hb5
        go_wp2_with fail
        go_returns
        exact ⟨rfl, hB5⟩
      · have e1 : Agg.aUnit 5 = (⟨0, 0, 0⟩, true) := by simp [Agg.aUnit, Agg.give, Agg.isKind, Agg.unit]
        have e2 : Agg.aFold 5 [] = (⟨0, 0, 0⟩, true) := by simp [Agg.aFold, Agg.give, Agg.isKind, Agg.itemsOk, Agg.fold, Agg.unit]
        have e3 : Agg.aLow 5 ⟨0, 0, 0⟩ = (0, false) := by simp [Agg.aLow, Agg.valid, Agg.isKind, Agg.ok, Agg.low]
        have h1 : ∀ w, Calls Try.prog 10 #[.int .i64 5] w fun e w' => e = .returned (.tuple #[.agg #[.int .i64 0, .int .i64 0, .int .i64 0], .bool true]) ∧ Below w.heap.size w w' := fun w => by have := unitOf_any 5 w; rw [e1] at this; exact this
        have h2 : ∀ w, Calls Try.prog 20 #[.int .i64 5] w fun e w' => e = .returned (.tuple #[.agg #[.int .i64 0, .int .i64 0, .int .i64 0], .bool true]) ∧ Below w.heap.size w w' := fun w => by have := s_unitOf_any 5 w; rw [e1] at this; exact this
        have h3 : ∀ w, Calls Try.prog 21 #[.int .i64 5, .slice none 0 0] w fun e w' => e = .returned (.tuple #[.agg #[.int .i64 0, .int .i64 0, .int .i64 0], .bool true]) ∧ Below w.heap.size w w' := fun w => by have := foldItems_any 5 none 0 0 [] w (Nums.none_ w); rw [e2] at this; exact this
        have h4 : ∀ w, Calls Try.prog 14 #[.int .i64 5, .agg #[.int .i64 0, .int .i64 0, .int .i64 0]] w fun e w' => e = .returned (.tuple #[.int .i64 0, .bool false]) ∧ Below w.heap.size w w' := fun w => by have := lowerValue_any 5 0 0 0 w; rw [e3] at this; exact this
        have H1 := Lib.hid h1
        have H2 := Lib.hid h2
        have H3 := Lib.hid h3
        have H4 := Lib.hid h4
        clear h1 h2 h3 h4 e1 e2 e3
        go_wp2_with fail
        refine (H1.out _).mono ?_
        rintro e w2 ⟨rfl, hb2⟩
        have hB2 := hB1.trans (hb2.mono hB1.size)
        have hs2 := hB2.size
        clear hb2
        go_wp2_with fail
        refine (H2.out _).mono ?_
        rintro e w3 ⟨rfl, hb3⟩
        obtain ⟨hc3, hf3⟩ := bcell hb3
        have hz3 : w2.heap.size < w3.heap.size := by have := hb3.size; simp at this; omega
        have hB3 : Below w.heap.size w w3 := Below.trans (by go_grown) (hb3.mono (by simp; omega))
        have hs3 := hB3.size
        clear hb3
        go_wp2_with fail
        refine (H3.out _).mono ?_
        rintro e w4 ⟨rfl, hb4⟩
        obtain ⟨hc4, hf4⟩ := bcell hb4
        have hz4 : w3.heap.size < w4.heap.size := by have := hb4.size; simp at this; omega
        have hy4 : w2.heap.size < w4.heap.size := by omega
        have hB4 : Below w.heap.size w w4 := Below.trans (by go_grown) (hb4.mono (by simp; omega))
        have hs4 := hB4.size
        clear hb4
        go_wp2_with fail
        refine (H4.out _).mono ?_
        rintro e w5 ⟨rfl, hb5⟩
        obtain ⟨hc5, hf5⟩ := bcell hb5
        have hz5 : w4.heap.size < w5.heap.size := by have := hb5.size; simp at this; omega
        have hy5 : w2.heap.size < w5.heap.size := by omega
        have hB5 : Below w.heap.size w w5 := Below.trans (by go_grown) (hb5.mono (by simp; omega))
        clear hb5
        go_wp2_with fail
        go_returns
        exact ⟨rfl, hB5⟩
      · have e1 : Agg.aUnit 6 = (⟨0, 0, 0⟩, true) := by simp [Agg.aUnit, Agg.give, Agg.isKind, Agg.unit]
        have e2 : Agg.aFold 6 [] = (⟨0, 0, 0⟩, true) := by simp [Agg.aFold, Agg.give, Agg.isKind, Agg.itemsOk, Agg.fold, Agg.unit]
        have e3 : Agg.aLow 6 ⟨0, 0, 0⟩ = (0, false) := by simp [Agg.aLow, Agg.valid, Agg.isKind, Agg.ok, Agg.low]
        have h1 : ∀ w, Calls Try.prog 10 #[.int .i64 6] w fun e w' => e = .returned (.tuple #[.agg #[.int .i64 0, .int .i64 0, .int .i64 0], .bool true]) ∧ Below w.heap.size w w' := fun w => by have := unitOf_any 6 w; rw [e1] at this; exact this
        have h2 : ∀ w, Calls Try.prog 20 #[.int .i64 6] w fun e w' => e = .returned (.tuple #[.agg #[.int .i64 0, .int .i64 0, .int .i64 0], .bool true]) ∧ Below w.heap.size w w' := fun w => by have := s_unitOf_any 6 w; rw [e1] at this; exact this
        have h3 : ∀ w, Calls Try.prog 21 #[.int .i64 6, .slice none 0 0] w fun e w' => e = .returned (.tuple #[.agg #[.int .i64 0, .int .i64 0, .int .i64 0], .bool true]) ∧ Below w.heap.size w w' := fun w => by have := foldItems_any 6 none 0 0 [] w (Nums.none_ w); rw [e2] at this; exact this
        have h4 : ∀ w, Calls Try.prog 14 #[.int .i64 6, .agg #[.int .i64 0, .int .i64 0, .int .i64 0]] w fun e w' => e = .returned (.tuple #[.int .i64 0, .bool false]) ∧ Below w.heap.size w w' := fun w => by have := lowerValue_any 6 0 0 0 w; rw [e3] at this; exact this
        have H1 := Lib.hid h1
        have H2 := Lib.hid h2
        have H3 := Lib.hid h3
        have H4 := Lib.hid h4
        clear h1 h2 h3 h4 e1 e2 e3
        go_wp2_with fail
        refine (H1.out _).mono ?_
        rintro e w2 ⟨rfl, hb2⟩
        have hB2 := hB1.trans (hb2.mono hB1.size)
        have hs2 := hB2.size
        clear hb2
        go_wp2_with fail
        refine (H2.out _).mono ?_
        rintro e w3 ⟨rfl, hb3⟩
        obtain ⟨hc3, hf3⟩ := bcell hb3
        have hz3 : w2.heap.size < w3.heap.size := by have := hb3.size; simp at this; omega
        have hB3 : Below w.heap.size w w3 := Below.trans (by go_grown) (hb3.mono (by simp; omega))
        have hs3 := hB3.size
        clear hb3
        go_wp2_with fail
        refine (H3.out _).mono ?_
        rintro e w4 ⟨rfl, hb4⟩
        obtain ⟨hc4, hf4⟩ := bcell hb4
        have hz4 : w3.heap.size < w4.heap.size := by have := hb4.size; simp at this; omega
        have hy4 : w2.heap.size < w4.heap.size := by omega
        have hB4 : Below w.heap.size w w4 := Below.trans (by go_grown) (hb4.mono (by simp; omega))
        have hs4 := hB4.size
        clear hb4
        go_wp2_with fail
        refine (H4.out _).mono ?_
        rintro e w5 ⟨rfl, hb5⟩
        obtain ⟨hc5, hf5⟩ := bcell hb5
        have hz5 : w4.heap.size < w5.heap.size := by have := hb5.size; simp at this; omega
        have hy5 : w2.heap.size < w5.heap.size := by omega
        have hB5 : Below w.heap.size w w5 := Below.trans (by go_grown) (hb5.mono (by simp; omega))
        clear hb5
        go_wp2_with fail
        go_returns
        exact ⟨rfl, hB5⟩
      · have e1 : Agg.aUnit 7 = (⟨0, 0, 0⟩, true) := by simp [Agg.aUnit, Agg.give, Agg.isKind, Agg.unit]
        have e2 : Agg.aFold 7 [] = (⟨0, 0, 0⟩, true) := by simp [Agg.aFold, Agg.give, Agg.isKind, Agg.itemsOk, Agg.fold, Agg.unit]
        have e3 : Agg.aLow 7 ⟨0, 0, 0⟩ = (0, false) := by simp [Agg.aLow, Agg.valid, Agg.isKind, Agg.ok, Agg.low]
        have h1 : ∀ w, Calls Try.prog 10 #[.int .i64 7] w fun e w' => e = .returned (.tuple #[.agg #[.int .i64 0, .int .i64 0, .int .i64 0], .bool true]) ∧ Below w.heap.size w w' := fun w => by have := unitOf_any 7 w; rw [e1] at this; exact this
        have h2 : ∀ w, Calls Try.prog 20 #[.int .i64 7] w fun e w' => e = .returned (.tuple #[.agg #[.int .i64 0, .int .i64 0, .int .i64 0], .bool true]) ∧ Below w.heap.size w w' := fun w => by have := s_unitOf_any 7 w; rw [e1] at this; exact this
        have h3 : ∀ w, Calls Try.prog 21 #[.int .i64 7, .slice none 0 0] w fun e w' => e = .returned (.tuple #[.agg #[.int .i64 0, .int .i64 0, .int .i64 0], .bool true]) ∧ Below w.heap.size w w' := fun w => by have := foldItems_any 7 none 0 0 [] w (Nums.none_ w); rw [e2] at this; exact this
        have h4 : ∀ w, Calls Try.prog 14 #[.int .i64 7, .agg #[.int .i64 0, .int .i64 0, .int .i64 0]] w fun e w' => e = .returned (.tuple #[.int .i64 0, .bool false]) ∧ Below w.heap.size w w' := fun w => by have := lowerValue_any 7 0 0 0 w; rw [e3] at this; exact this
        have H1 := Lib.hid h1
        have H2 := Lib.hid h2
        have H3 := Lib.hid h3
        have H4 := Lib.hid h4
        clear h1 h2 h3 h4 e1 e2 e3
        go_wp2_with fail
        refine (H1.out _).mono ?_
        rintro e w2 ⟨rfl, hb2⟩
        have hB2 := hB1.trans (hb2.mono hB1.size)
        have hs2 := hB2.size
        clear hb2
        go_wp2_with fail
        refine (H2.out _).mono ?_
        rintro e w3 ⟨rfl, hb3⟩
        obtain ⟨hc3, hf3⟩ := bcell hb3
        have hz3 : w2.heap.size < w3.heap.size := by have := hb3.size; simp at this; omega
        have hB3 : Below w.heap.size w w3 := Below.trans (by go_grown) (hb3.mono (by simp; omega))
        have hs3 := hB3.size
        clear hb3
        go_wp2_with fail
        refine (H3.out _).mono ?_
        rintro e w4 ⟨rfl, hb4⟩
        obtain ⟨hc4, hf4⟩ := bcell hb4
        have hz4 : w3.heap.size < w4.heap.size := by have := hb4.size; simp at this; omega
        have hy4 : w2.heap.size < w4.heap.size := by omega
        have hB4 : Below w.heap.size w w4 := Below.trans (by go_grown) (hb4.mono (by simp; omega))
        have hs4 := hB4.size
        clear hb4
        go_wp2_with fail
        refine (H4.out _).mono ?_
        rintro e w5 ⟨rfl, hb5⟩
        obtain ⟨hc5, hf5⟩ := bcell hb5
        have hz5 : w4.heap.size < w5.heap.size := by have := hb5.size; simp at this; omega
        have hy5 : w2.heap.size < w5.heap.size := by omega
        have hB5 : Below w.heap.size w w5 := Below.trans (by go_grown) (hb5.mono (by simp; omega))
        clear hb5
        go_wp2_with fail
        go_returns
        exact ⟨rfl, hB5⟩
      · have e1 : Agg.aUnit 8 = (⟨1, 0, 0⟩, true) := by simp [Agg.aUnit, Agg.give, Agg.isKind, Agg.unit]
        have e2 : Agg.aFold 8 [] = (⟨1, 0, 0⟩, true) := by simp [Agg.aFold, Agg.give, Agg.isKind, Agg.itemsOk, Agg.fold, Agg.unit]
        have e3 : Agg.aLow 8 ⟨1, 0, 0⟩ = (1, true) := by simp [Agg.aLow, Agg.valid, Agg.isKind, Agg.ok, Agg.low]
        have h1 : ∀ w, Calls Try.prog 10 #[.int .i64 8] w fun e w' => e = .returned (.tuple #[.agg #[.int .i64 1, .int .i64 0, .int .i64 0], .bool true]) ∧ Below w.heap.size w w' := fun w => by have := unitOf_any 8 w; rw [e1] at this; exact this
        have h2 : ∀ w, Calls Try.prog 20 #[.int .i64 8] w fun e w' => e = .returned (.tuple #[.agg #[.int .i64 1, .int .i64 0, .int .i64 0], .bool true]) ∧ Below w.heap.size w w' := fun w => by have := s_unitOf_any 8 w; rw [e1] at this; exact this
        have h3 : ∀ w, Calls Try.prog 21 #[.int .i64 8, .slice none 0 0] w fun e w' => e = .returned (.tuple #[.agg #[.int .i64 1, .int .i64 0, .int .i64 0], .bool true]) ∧ Below w.heap.size w w' := fun w => by have := foldItems_any 8 none 0 0 [] w (Nums.none_ w); rw [e2] at this; exact this
        have h4 : ∀ w, Calls Try.prog 14 #[.int .i64 8, .agg #[.int .i64 1, .int .i64 0, .int .i64 0]] w fun e w' => e = .returned (.tuple #[.int .i64 1, .bool true]) ∧ Below w.heap.size w w' := fun w => by have := lowerValue_any 8 1 0 0 w; rw [e3] at this; exact this
        have H1 := Lib.hid h1
        have H2 := Lib.hid h2
        have H3 := Lib.hid h3
        have H4 := Lib.hid h4
        clear h1 h2 h3 h4 e1 e2 e3
        go_wp2_with fail
        refine (H1.out _).mono ?_
        rintro e w2 ⟨rfl, hb2⟩
        have hB2 := hB1.trans (hb2.mono hB1.size)
        have hs2 := hB2.size
        clear hb2
        go_wp2_with fail
        refine (H2.out _).mono ?_
        rintro e w3 ⟨rfl, hb3⟩
        obtain ⟨hc3, hf3⟩ := bcell hb3
        have hz3 : w2.heap.size < w3.heap.size := by have := hb3.size; simp at this; omega
        have hB3 : Below w.heap.size w w3 := Below.trans (by go_grown) (hb3.mono (by simp; omega))
        have hs3 := hB3.size
        clear hb3
        go_wp2_with fail
        refine (H3.out _).mono ?_
        rintro e w4 ⟨rfl, hb4⟩
        obtain ⟨hc4, hf4⟩ := bcell hb4
        have hz4 : w3.heap.size < w4.heap.size := by have := hb4.size; simp at this; omega
        have hy4 : w2.heap.size < w4.heap.size := by omega
        have hB4 : Below w.heap.size w w4 := Below.trans (by go_grown) (hb4.mono (by simp; omega))
        have hs4 := hB4.size
        clear hb4
        go_wp2_with fail
        refine (H4.out _).mono ?_
        rintro e w5 ⟨rfl, hb5⟩
        obtain ⟨hc5, hf5⟩ := bcell hb5
        have hz5 : w4.heap.size < w5.heap.size := by have := hb5.size; simp at this; omega
        have hy5 : w2.heap.size < w5.heap.size := by omega
        have hB5 : Below w.heap.size w w5 := Below.trans (by go_grown) (hb5.mono (by simp; omega))
        clear hb5
        go_wp2_with fail
        go_returns
        exact ⟨rfl, hB5⟩
      · have e1 : Agg.aUnit 9 = (⟨0, 0, 0⟩, true) := by simp [Agg.aUnit, Agg.give, Agg.isKind, Agg.unit]
        have e2 : Agg.aFold 9 [] = (⟨0, 0, 0⟩, true) := by simp [Agg.aFold, Agg.give, Agg.isKind, Agg.itemsOk, Agg.fold, Agg.unit]
        have e3 : Agg.aLow 9 ⟨0, 0, 0⟩ = (0, true) := by simp [Agg.aLow, Agg.valid, Agg.isKind, Agg.ok, Agg.low]
        have h1 : ∀ w, Calls Try.prog 10 #[.int .i64 9] w fun e w' => e = .returned (.tuple #[.agg #[.int .i64 0, .int .i64 0, .int .i64 0], .bool true]) ∧ Below w.heap.size w w' := fun w => by have := unitOf_any 9 w; rw [e1] at this; exact this
        have h2 : ∀ w, Calls Try.prog 20 #[.int .i64 9] w fun e w' => e = .returned (.tuple #[.agg #[.int .i64 0, .int .i64 0, .int .i64 0], .bool true]) ∧ Below w.heap.size w w' := fun w => by have := s_unitOf_any 9 w; rw [e1] at this; exact this
        have h3 : ∀ w, Calls Try.prog 21 #[.int .i64 9, .slice none 0 0] w fun e w' => e = .returned (.tuple #[.agg #[.int .i64 0, .int .i64 0, .int .i64 0], .bool true]) ∧ Below w.heap.size w w' := fun w => by have := foldItems_any 9 none 0 0 [] w (Nums.none_ w); rw [e2] at this; exact this
        have h4 : ∀ w, Calls Try.prog 14 #[.int .i64 9, .agg #[.int .i64 0, .int .i64 0, .int .i64 0]] w fun e w' => e = .returned (.tuple #[.int .i64 0, .bool true]) ∧ Below w.heap.size w w' := fun w => by have := lowerValue_any 9 0 0 0 w; rw [e3] at this; exact this
        have H1 := Lib.hid h1
        have H2 := Lib.hid h2
        have H3 := Lib.hid h3
        have H4 := Lib.hid h4
        clear h1 h2 h3 h4 e1 e2 e3
        go_wp2_with fail
        refine (H1.out _).mono ?_
        rintro e w2 ⟨rfl, hb2⟩
        have hB2 := hB1.trans (hb2.mono hB1.size)
        have hs2 := hB2.size
        clear hb2
        go_wp2_with fail
        refine (H2.out _).mono ?_
        rintro e w3 ⟨rfl, hb3⟩
        obtain ⟨hc3, hf3⟩ := bcell hb3
        have hz3 : w2.heap.size < w3.heap.size := by have := hb3.size; simp at this; omega
        have hB3 : Below w.heap.size w w3 := Below.trans (by go_grown) (hb3.mono (by simp; omega))
        have hs3 := hB3.size
        clear hb3
        go_wp2_with fail
        refine (H3.out _).mono ?_
        rintro e w4 ⟨rfl, hb4⟩
        obtain ⟨hc4, hf4⟩ := bcell hb4
        have hz4 : w3.heap.size < w4.heap.size := by have := hb4.size; simp at this; omega
        have hy4 : w2.heap.size < w4.heap.size := by omega
        have hB4 : Below w.heap.size w w4 := Below.trans (by go_grown) (hb4.mono (by simp; omega))
        have hs4 := hB4.size
        clear hb4
        go_wp2_with fail
        refine (H4.out _).mono ?_
        rintro e w5 ⟨rfl, hb5⟩
        obtain ⟨hc5, hf5⟩ := bcell hb5
        have hz5 : w4.heap.size < w5.heap.size := by have := hb5.size; simp at this; omega
        have hy5 : w2.heap.size < w5.heap.size := by omega
        have hB5 : Below w.heap.size w w5 := Below.trans (by go_grown) (hb5.mono (by simp; omega))
        clear hb5
        go_wp2_with fail
        go_returns
        exact ⟨rfl, hB5⟩
      · have e1 : Agg.aUnit 10 = (⟨0, 0, 0⟩, true) := by simp [Agg.aUnit, Agg.give, Agg.isKind, Agg.unit]
        have e2 : Agg.aFold 10 [] = (⟨0, 0, 0⟩, true) := by simp [Agg.aFold, Agg.give, Agg.isKind, Agg.itemsOk, Agg.fold, Agg.unit]
        have e3 : Agg.aLow 10 ⟨0, 0, 0⟩ = (0, false) := by simp [Agg.aLow, Agg.valid, Agg.isKind, Agg.ok, Agg.low]
        have h1 : ∀ w, Calls Try.prog 10 #[.int .i64 10] w fun e w' => e = .returned (.tuple #[.agg #[.int .i64 0, .int .i64 0, .int .i64 0], .bool true]) ∧ Below w.heap.size w w' := fun w => by have := unitOf_any 10 w; rw [e1] at this; exact this
        have h2 : ∀ w, Calls Try.prog 20 #[.int .i64 10] w fun e w' => e = .returned (.tuple #[.agg #[.int .i64 0, .int .i64 0, .int .i64 0], .bool true]) ∧ Below w.heap.size w w' := fun w => by have := s_unitOf_any 10 w; rw [e1] at this; exact this
        have h3 : ∀ w, Calls Try.prog 21 #[.int .i64 10, .slice none 0 0] w fun e w' => e = .returned (.tuple #[.agg #[.int .i64 0, .int .i64 0, .int .i64 0], .bool true]) ∧ Below w.heap.size w w' := fun w => by have := foldItems_any 10 none 0 0 [] w (Nums.none_ w); rw [e2] at this; exact this
        have h4 : ∀ w, Calls Try.prog 14 #[.int .i64 10, .agg #[.int .i64 0, .int .i64 0, .int .i64 0]] w fun e w' => e = .returned (.tuple #[.int .i64 0, .bool false]) ∧ Below w.heap.size w w' := fun w => by have := lowerValue_any 10 0 0 0 w; rw [e3] at this; exact this
        have H1 := Lib.hid h1
        have H2 := Lib.hid h2
        have H3 := Lib.hid h3
        have H4 := Lib.hid h4
        clear h1 h2 h3 h4 e1 e2 e3
        go_wp2_with fail
        refine (H1.out _).mono ?_
        rintro e w2 ⟨rfl, hb2⟩
        have hB2 := hB1.trans (hb2.mono hB1.size)
        have hs2 := hB2.size
        clear hb2
        go_wp2_with fail
        refine (H2.out _).mono ?_
        rintro e w3 ⟨rfl, hb3⟩
        obtain ⟨hc3, hf3⟩ := bcell hb3
        have hz3 : w2.heap.size < w3.heap.size := by have := hb3.size; simp at this; omega
        have hB3 : Below w.heap.size w w3 := Below.trans (by go_grown) (hb3.mono (by simp; omega))
        have hs3 := hB3.size
        clear hb3
        go_wp2_with fail
        refine (H3.out _).mono ?_
        rintro e w4 ⟨rfl, hb4⟩
        obtain ⟨hc4, hf4⟩ := bcell hb4
        have hz4 : w3.heap.size < w4.heap.size := by have := hb4.size; simp at this; omega
        have hy4 : w2.heap.size < w4.heap.size := by omega
        have hB4 : Below w.heap.size w w4 := Below.trans (by go_grown) (hb4.mono (by simp; omega))
        have hs4 := hB4.size
        clear hb4
        go_wp2_with fail
        refine (H4.out _).mono ?_
        rintro e w5 ⟨rfl, hb5⟩
        obtain ⟨hc5, hf5⟩ := bcell hb5
        have hz5 : w4.heap.size < w5.heap.size := by have := hb5.size; simp at this; omega
        have hy5 : w2.heap.size < w5.heap.size := by omega
        have hB5 : Below w.heap.size w w5 := Below.trans (by go_grown) (hb5.mono (by simp; omega))
        clear hb5
        go_wp2_with fail
        go_returns
        exact ⟨rfl, hB5⟩
  · go_enter Try.func6, Try.ntmps6
    go_wp2
    go_returns
    exact ⟨rfl, Below.refl _ _⟩
end Go.Proofs.Ytfiliggplndphaa
