/-
  WindowAfter, in the program and in the model.
-/
import Derived.Test.YtikdjdoggjhmaaaGreat2a
import Derived.Test.YtikdjdoggjhmaaaGreat2s
import Derived.Lib.SliceRun
import Derived.Deep.DeepMust
namespace Go.Proofs.YtikdjdoggjhmaaaGreat
set_option linter.unusedSimpArgs false
set_option linter.unusedVariables false
open Go.RowKit
def Agg.winOut (l : List (Bool × Int)) : List Int := if Agg.opsOk l then Agg.winAt l l.length else []
theorem Agg.opsOk_parts {l : List (Bool × Int)} (h : Agg.opsOk l = true) : l.length ≤ 200 ∧ Agg.allOk l l.length = true ∧ Agg.fitTo l l.length = true := by
  simp only [Agg.opsOk, Bool.and_eq_true, decide_eq_true_eq] at h
  exact ⟨h.1.1, h.1.2, h.2⟩
theorem Agg.winOut_len (l : List (Bool × Int)) : (Agg.winOut l).length ≤ 60 := by
  unfold Agg.winOut
  split
  · rename_i h
    exact Agg.win_len _ (Agg.opsOk_parts h).2.2
  · simp
set_option maxRecDepth 8000 in
set_option maxHeartbeats 1000000 in
theorem clone_any (a : Option Addr) (n cap : Nat) (l : List Int) (w : World) (h : Nums .i64 w a n cap l) (hn : n ≤ 1000) :
    Calls Tryz.prog 65 #[.slice a n cap] w fun e w' => ∃ v m, e = .returned v ∧ w'.ownsRow w.heap.size 3 1 v m (l.map (Value.int .i64)) ∧ Below w.heap.size w w' := by
  obtain ⟨i0, hi0, hz0, hz1, hz2⟩ := info_parts infoInt
  have hll : l.length = n := h.1
  have hnc := h.2.1
  have hcm : cap ≤ 9223372036854775807 := by have := h.2.2.1; unfold maxLen at this; omega
  cases a with
  | none =>
    have h0 : n = 0 := by
      rcases h.2.2.2 with h0 | ⟨b, off, ha, -⟩
      · exact h0
      · simp at ha
    subst h0
    obtain rfl := List.eq_nil_of_length_eq_zero hll
    clear h
    have q22 : ∀ (w : World) (a : Option Addr) (n c n' c' : Nat), (binOp .eql 27 (.slice a n c) (.slice none n' c')).run Tryz.prog w = .ok (.bool a.isNone) w := fun w a n c n' c' => Lib.run_eql_slice_nil w _ _ a n c n' c' Tryz.underlying27
    go_enter Tryz.func65, Tryz.ntmps65
    go_wp2
    go_returns
    exact ⟨_, 0, rfl, World.ownsRow_nil _ _ _ _, Below.refl _ _⟩
  | some ad =>
    have hnews : ∀ j u, (l.map (Value.int .i64))[j]? = some u → (w.alloc (.cells #[] 3)).cell? (ad.add j) = some u := by
      rcases h.2.2.2 with h0 | ⟨b, off, ha, -⟩
      · subst h0
        obtain rfl := List.eq_nil_of_length_eq_zero hll
        intro j u hj
        simp at hj
      · obtain rfl := Option.some.inj ha
        exact nums_news (h.below ((Below.refl _ _).alloc (Nat.le_refl _) _))
    have HN := Lib.hid hnews
    clear hnews h
    have q22 : ∀ (w : World) (a : Option Addr) (n c n' c' : Nat), (binOp .eql 27 (.slice a n c) (.slice none n' c')).run Tryz.prog w = .ok (.bool a.isNone) w := fun w a n c n' c' => Lib.run_eql_slice_nil w _ _ a n c n' c' Tryz.underlying27
    go_enter Tryz.func65, Tryz.ntmps65
    go_wp2_with (at_builtin; go_must (refine wpList_append_own _ rfl (.tmp 5) (.tmp 6) 27 rfl w.heap.size 3 i0 (.int .i64 0) 1 8 Tryz.underlying27 hi0 hz0 hz1 hz2 rfl (by decide) _ _ _ rfl (own_empty_new (Nat.le_refl _) rfl) ad n cap (l.map (Value.int .i64)) rfl (by simp; omega) HN.out (ints_oneCell .i64 _) (by unfold maxLen; omega) (by omega) (by simp) ?_); go_must (intro v' w' hown' hgrow' hnil'; have HO := Lib.hid hown'; have HB := Lib.hid (show Below w.heap.size w w' from Below.grown (((Below.refl _ _).alloc (Nat.le_refl _) _)) hgrow' (by simp) (fun k hk => Nat.le_of_eq (Option.some.inj hk))); clear hown' hgrow' hnil'))
    go_wp2
    go_returns
    exact ⟨v', _, rfl, by have := HO.out; simpa using this, HB.out⟩
set_option maxRecDepth 8000 in
set_option maxHeartbeats 1000000 in
theorem windowAfter_any (a : Option Addr) (n cap : Nat) (l : List (Bool × Int)) (w : World) (h : Ops w a n cap l) :
    Calls Tryz.prog 21 #[.slice a n cap] w (RowOut (Agg.winOut l) (Agg.opsOk l) w) := by
  have hll : l.length = n := h.1
  have hW := windowsOf_any a n cap l w h
  obtain ⟨b, hb⟩ : ∃ b, b = Agg.opsOk l := ⟨_, rfl⟩
  have hwo : Agg.winOut l = if b then Agg.winAt l n else [] := by rw [Agg.winOut, ← hb, hll]
  have hlen : b = true → (Agg.winAt l n).length ≤ 60 := fun e => by have := Agg.winOut_len l; rw [hwo, e, if_pos rfl] at this; exact this
  rw [← hb] at hW ⊢
  rw [hwo]
  obtain ⟨R, hR⟩ : ∃ R, R = (if b then Agg.winAt l n else []) := ⟨_, rfl⟩
  rw [← hR]
  have HR0 := Lib.hid hR
  clear hR
  have HW := Lib.hid hW
  clear hW hb h hwo
  go_enter Tryz.func21, Tryz.ntmps21
  go_wp2_with fail
  refine HW.out.mono ?_
  rintro e w1 ⟨ht, hf⟩
  cases b
  · obtain ⟨rfl, hb1⟩ := hf rfl
    have HB := Lib.hid hb1
    clear ht hf hb1 hlen HW
    go_wp2
    go_returns
    rw [show R = [] by rw [HR0.out]; simp]
    exact RowOut.none_ HB.out
  · obtain ⟨v, hs, rfl, hrow, hwin, hb1⟩ := ht rfl
    have hl60 := hlen rfl
    obtain ⟨a2, m, c, hh, hN⟩ := hwin n (Nat.le_refl _)
    obtain ⟨gw, cw, hv, hcw, hcm⟩ : ∃ gw cw, v = .slice (some ⟨gw, 0, none⟩) (n + 1) cw ∧ n + 1 ≤ cw ∧ cw ≤ 9223372036854775807 := by
      rcases hrow.2 with ⟨rfl, h0⟩ | ⟨g, c2, cur, rfl, -, -, h1, h2, -⟩
      · omega
      · exact ⟨g, c2, rfl, h1, by unfold maxLen at h2; omega⟩
    subst hv
    have hcell := hrow.cellAt n (by omega)
    rw [hh] at hcell
    have HB := Lib.hid hb1
    have hml : (Agg.winAt l n).length = m := hN.1
    have HC := Lib.hid (clone_any a2 m c (Agg.winAt l n) w1 hN (by omega))
    clear ht hf hb1 hlen HW hwin hh hN hrow
    have hnn : (n : Int) < (n : Int) + 1 := by omega
    have hn0 : (0 : Int) ≤ (n : Int) := by omega
    have hnn2 : n < n + 1 := by omega
    go_wp2_with fail
    refine HC.out.mono ?_
    rintro e w2 ⟨v2, m2, rfl, hown, hb2⟩
    have HO := Lib.hid hown
    have HB2 := Lib.hid (HB.out.trans (hb2.mono HB.out.size))
    have hs1 := HB.out.size
    have hs2 := hb2.size
    clear hown hb2
    go_wp2
    go_returns
    rw [show R = Agg.winAt l n by rw [HR0.out]; simp]
    exact ⟨v2, m2, rfl, OwnR.made (owns_lower HO.out hs1) HB2.out.size, HB2.out⟩
end Go.Proofs.YtikdjdoggjhmaaaGreat
