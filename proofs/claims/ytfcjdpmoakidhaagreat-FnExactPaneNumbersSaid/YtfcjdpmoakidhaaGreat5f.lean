/-
  HopNumbers, in the program and in the model.
-/
import Derived.Test.YtfcjdpmoakidhaaGreat2s
import Derived.Test.YtfcjdpmoakidhaaGreat5a
namespace Go.Proofs.YtfcjdpmoakidhaaGreat
set_option linter.unusedSimpArgs false
set_option linter.unusedVariables false
open Go.RowKit
def Agg.hopsIn (k : Int) (l : List Int) (s h : Int) : Bool := Agg.isKind k && Agg.itemsOk l && Agg.hopsOk s h
def Agg.hopsOut (k : Int) (l : List Int) (s h : Int) : List Int := if Agg.hopsIn k l s h then Agg.hops k l s.toNat h.toNat else []
theorem Agg.hops_len (k : Int) (l : List Int) (s h : Nat) : (Agg.hops k l s h).length = Agg.rowsN l.length s h := Agg.nums_len _ _ _
theorem Agg.hopsOut_len (k : Int) (l : List Int) (s h : Int) : (Agg.hopsOut k l s h).length ≤ 60 := by
  unfold Agg.hopsOut
  split
  · rename_i e
    simp only [Agg.hopsIn, Agg.hopsOk, Bool.and_eq_true, decide_eq_true_eq] at e
    have := Agg.items_len e.1.2
    have h2 := Agg.rowsN_le (n := l.length) (s := s.toNat) (h := h.toNat) (by omega)
    rw [Agg.hops_len]; omega
  · simp
theorem s_sizes_any (s h : Int) (w : World) :
    Calls Tryz.prog 19 #[.int .i64 s, .int .i64 h] w fun e w' => e = .returned (.bool (Agg.hopsOk s h)) ∧ w = w' := by
  cases hok : Agg.hopsOk s h
  · have hn : ¬ (1 ≤ s ∧ s ≤ 60 ∧ 1 ≤ h ∧ h ≤ 60) := by simp [Agg.hopsOk] at hok; omega
    clear hok
    go_enter Tryz.func19, Tryz.ntmps19
    go_wp2
    all_goals first
      | (exfalso; omega)
      | (go_returns; exact ⟨ret_bool (by simp <;> omega), rfl⟩)
  · have hn : 1 ≤ s ∧ s ≤ 60 ∧ 1 ≤ h ∧ h ≤ 60 := by simp [Agg.hopsOk] at hok; omega
    obtain ⟨h1, h2, h3, h4⟩ := hn
    clear hok
    go_enter Tryz.func19, Tryz.ntmps19
    go_wp2
    all_goals first
      | (exfalso; omega)
      | (go_returns; exact ⟨ret_bool (by simp <;> omega), rfl⟩)
end Go.Proofs.YtfcjdpmoakidhaaGreat
