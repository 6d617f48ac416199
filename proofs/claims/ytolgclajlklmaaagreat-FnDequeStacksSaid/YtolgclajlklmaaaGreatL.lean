/-
  Whether all elements of a slice are items, in the program and in the model.
-/
import Derived.Test.YtolgclajlklmaaaGreatRw
import Derived.Test.YtolgclajlklmaaaGreatS0
namespace Go.Proofs.YtolgclajlklmaaaGreat
set_option linter.unusedSimpArgs false
open Go.RowKit
theorem itemsOk_of (l : List Int) (hn : l.length ≤ 60) (h : ∀ i, i < l.length → Agg.isItem (l[i]?.getD 0) = true) : Agg.itemsOk l = true := by
  simp only [Agg.itemsOk, Bool.and_eq_true, decide_eq_true_eq, List.all_eq_true]
  refine ⟨hn, fun x hx => ?_⟩
  obtain ⟨i, hi, rfl⟩ := List.getElem_of_mem hx
  simpa [hi] using h i hi
theorem itemsOk_not (l : List Int) {i : Nat} (hi : i < l.length) (h : Agg.isItem (l[i]?.getD 0) = false) : Agg.itemsOk l = false := by
  rw [Bool.eq_false_iff]
  intro hk
  simp only [Agg.itemsOk, Bool.and_eq_true, decide_eq_true_eq, List.all_eq_true] at hk
  have := hk.2 (l[i]?.getD 0) (by simp [hi])
  rw [h] at this
  exact absurd this (by decide)

theorem allFit_items (a : Option Addr) (n cap : Nat) (l : List Int) (w : World) (h : Nums .i64 w a n cap l) :
    Calls Tryz.prog 76 #[.slice a n cap, .func (.func 77) #[] #[]] w fun e w' => e = .returned (.bool (Agg.itemsOk l)) ∧ w = w' := by
  have c1 : ∀ args w, Sem.run Tryz.prog (Go.callFunc 77 args) w = .ok (.enter 77 args) w := fun args w => by kernel_rfl
  obtain ⟨hl, hcap, hm, h4⟩ := h
  unfold maxLen at hm
  by_cases h60 : n ≤ 60
  · have HL := Lib.hid hl; clear hl
    go_enter Tryz.func76, Tryz.ntmps76
    go_wp2
    go_loop [12] (fun i => ∃ k : Nat, k ≤ n ∧ i = .int .i64 k ∧ Hid (∀ j, j < k → Agg.isItem (l[j]?.getD 0) = true)) (fun i => n - (intOf i).toNat)
    case atStart => exact ⟨0, Nat.zero_le _, rfl, fun j hj => absurd hj (Nat.not_lt_zero _)⟩
    case round =>
      obtain ⟨k, hk, rfl, HH⟩ := hrel
      by_cases hlt : k < n
      · rcases h4 with h4 | ⟨b, off, rfl, hb, hc⟩
        · omega
        · have hck := hc k hlt
          have HC := Lib.hid hc; clear hc
          obtain ⟨x, hx⟩ : ∃ x, x = l[k]?.getD 0 := ⟨_, rfl⟩
          rw [← hx] at hck
          have HX := Lib.hid hx; clear hx
          cases hit : Agg.isItem x
          · go_wp2_with fail
            refine (isItem_any _ _).mono ?_
            rintro e w1 ⟨rfl, rfl⟩
            go_wp2_with fail
            go_returns
            exact ⟨ret_bool (itemsOk_not l (i := k) (by have := HL.out; omega) (by rw [← HX.out]; exact hit)).symm, rfl⟩
          · go_wp2_with fail
            refine (isItem_any _ _).mono ?_
            rintro e w1 ⟨rfl, rfl⟩
            go_wp2_with fail
            go_round
            case rel => exact ⟨k + 1, by omega, by go_num, fun j hj => by rcases Nat.lt_succ_iff_lt_or_eq.1 hj with h | rfl; exact HH.out j h; rw [← HX.out]; exact hit⟩
            case measure => simp [intOf]; omega
      · go_wp2
        go_returns
        exact ⟨ret_bool (itemsOk_of l (by have := HL.out; omega) (fun i hi => HH.out i (by have := HL.out; omega))).symm, rfl⟩
  · have e : Agg.itemsOk l = false := by simp [Agg.itemsOk, hl, h60]
    rw [e]
    go_enter Tryz.func76, Tryz.ntmps76
    go_wp2
    go_returns
    exact ⟨rfl, rfl⟩

theorem areItems_any (a : Option Addr) (n cap : Nat) (l : List Int) (w : World) (h : Nums .i64 w a n cap l) :
    Calls Tryz.prog 47 #[.slice a n cap] w fun e w' => e = .returned (.bool (Agg.itemsOk l)) ∧ w = w' := by
  have HH := Lib.hid h
  clear h
  go_enter Tryz.func47, Tryz.ntmps47
  go_wp2_with fail
  refine (allFit_items a n cap l _ HH.out).mono ?_
  rintro e w1 ⟨rfl, rfl⟩
  go_wp2_with fail
  go_returns
  exact ⟨rfl, rfl⟩
theorem s_items_any (a : Option Addr) (n cap : Nat) (l : List Int) (w : World) (h : Nums .i64 w a n cap l) :
    Calls Tryz.prog 57 #[.slice a n cap] w fun e w' => e = .returned (.bool (Agg.itemsOk l)) ∧ w = w' := by
  obtain ⟨hl, hcap, hm, h4⟩ := h
  unfold maxLen at hm
  have HL := Lib.hid hl; clear hl
  go_enter Tryz.func57, Tryz.ntmps57
  go_wp2
  go_loop [3] (fun i => ∃ k : Nat, k ≤ n ∧ k ≤ 60 ∧ i = .int .i64 k ∧ Hid (∀ j, j < k → Agg.isItem (l[j]?.getD 0) = true)) (fun i => n - (intOf i).toNat)
  case atStart => exact ⟨0, Nat.zero_le _, Nat.zero_le _, rfl, fun j hj => absurd hj (Nat.not_lt_zero _)⟩
  case round =>
    obtain ⟨k, hk, hk6, rfl, HH⟩ := hrel
    by_cases hlt : k < n
    · by_cases h60 : k < 60
      · rcases h4 with h4 | ⟨b, off, rfl, hb, hc⟩
        · omega
        · have hck := hc k hlt
          have HC := Lib.hid hc; clear hc
          obtain ⟨x, hx⟩ : ∃ x, x = l[k]?.getD 0 := ⟨_, rfl⟩
          rw [← hx] at hck
          have HX := Lib.hid hx; clear hx
          cases hit : Agg.isItem x
          · go_wp2_with (go_at_call 71; refine (s_in_item _ _).mono ?_; rintro e w1 ⟨rfl, rfl⟩)
            go_returns
            exact ⟨ret_bool (itemsOk_not l (i := k) (by have := HL.out; omega) (by rw [← HX.out]; exact hit)).symm, rfl⟩
          · go_wp2_with (go_at_call 71; refine (s_in_item _ _).mono ?_; rintro e w1 ⟨rfl, rfl⟩)
            go_round
            case rel => exact ⟨k + 1, by omega, by omega, by go_num, fun j hj => by rcases Nat.lt_succ_iff_lt_or_eq.1 hj with h | rfl; exact HH.out j h; rw [← HX.out]; exact hit⟩
            case measure => simp [intOf]; omega
      · have e : Agg.itemsOk l = false := by
          have := HL.out
          simp only [Agg.itemsOk, Bool.and_eq_false_imp, decide_eq_true_eq]
          intro h6; omega
        go_wp2
        go_returns
        exact ⟨ret_bool (by simp; omega), rfl⟩
    · by_cases h60 : n ≤ 60
      · have e : Agg.itemsOk l = true := itemsOk_of l (by have := HL.out; omega) (fun i hi => HH.out i (by have := HL.out; omega))
        by_cases hk60 : k < 60
        all_goals
          go_wp2
          go_returns
          exact ⟨ret_bool (by simp; omega), rfl⟩
      · omega
end Go.Proofs.YtolgclajlklmaaaGreat
