/-
  Kinds that the model draws.
-/
import Derived.Test.YtohllpdmopofoaaGreatDr
namespace Go.Proofs.YtohllpdmopofoaaGreat
set_option linter.unusedSimpArgs false
set_option linter.unusedVariables false
open Go.RowKit

theorem ListAt.new (w : World) (ll : List Int) (T : TypeId) : ListAt (w.alloc (.cells (ll.map (Value.int .i64)).toArray T)) w.heap.size ll := by
  refine ⟨by simp, fun i hi => ?_⟩
  simp [World.cell?_alloc_new, hi]
theorem ListAt.kept {w w' : World} {b c : Nat} {ll : List Int} (h : ListAt w b ll) (hg : w.grownBy w' (some c)) (hbc : b ≠ c) : ListAt w' b ll :=
  ⟨Nat.lt_of_lt_of_le h.1 hg.size, fun i hi => (World.cell?_of_block (hg.block b h.1 (fun e => hbc (Option.some.inj e)))).trans (h.2 i hi)⟩

/-- A number is drawn: one of a kind's; the reader is some steps further, at most m. -/
def Drawn (P : Int → Prop) (m : Int) (B c : Nat) (p : Int) (w : World) (e : Ending) (w' : World) : Prop :=
  ∃ v p' : Int, e = .returned (.int .i64 v) ∧ P v ∧ p ≤ p' ∧ p' ≤ p + m ∧ Rd w' B c p' ∧ w.grownBy w' (some c)

theorem l1Kind_any (B c : Nat) (p : Int) (w : World) (h : Rd w B c p) (hp : p ≤ 1000000) :
    Calls Tryz.prog 49 #[.pointer (some ⟨c, 0, none⟩)] w (Drawn (fun k => 1 ≤ k ∧ k ≤ 10) 1 B c p w) := by
  have hlt := h.2.1
  have HR := Lib.hid h; clear h
  go_enter Tryz.func49, Tryz.ntmps49
  go_wp2_with fail
  refine (num_any w.heap.size 10 [8, 9, 10, 1, 7, 4, 3, 5, 6, 2] B c p _ (HR.out.kept (World.grownBy_alloc _ _ _)) hp (ListAt.new w [8, 9, 10, 1, 7, 4, 3, 5, 6, 2] _) (by omega) (by decide) (by decide)).mono ?_
  rintro e w1 ⟨v, rfl, hv, hr, hg⟩
  have HR1 := Lib.hid hr; clear hr
  have HV := Lib.hid hv; clear hv
  have HG := Lib.hid (grown_trans (grown_alloc (grown_refl w c) _) hg); clear hg
  go_wp2
  go_returns
  refine ⟨v, p + 1, rfl, ?_, by omega, by omega, HR1.out, HG.out⟩
  have := HV.out
  simp only [List.mem_cons, List.not_mem_nil, or_false] at this
  omega

set_option maxHeartbeats 1000000 in
theorem l1Wrong_any (k : Int) (B c : Nat) (p : Int) (w : World) (h : Rd w B c p) (hp : p ≤ 900000) :
    Calls Tryz.prog 48 #[.pointer (some ⟨c, 0, none⟩), .int .i64 k] w (Drawn (fun v => v = k ∨ v = 0 ∨ v = 11 ∨ v = -1) 2 B c p w) := by
  have HR := Lib.hid h; clear h
  go_enter Tryz.func48, Tryz.ntmps48
  go_wp2_with fail
  refine (pick_any _ B c p _ HR.out (by omega) (by omega)).mono ?_
  rintro e w1 ⟨v, rfl, hv0, hv1, -, hr, hg⟩
  have hlt := hr.2.1
  have HR1 := Lib.hid hr; clear hr
  have HG := Lib.hid hg; clear hg
  clear hv1
  by_cases hz : v = 0
  · subst hz
    go_wp2_with fail
    refine (num_any w1.heap.size 3 [0, 11, -1] B c (p + 1) _ (HR1.out.kept (World.grownBy_alloc _ _ _)) (by omega) (ListAt.new w1 [0, 11, -1] _) (by omega) (by decide) (by decide)).mono ?_
    rintro e w2 ⟨u, rfl, hu, hr2, hg2⟩
    have HR2 := Lib.hid hr2; clear hr2
    have HU := Lib.hid hu; clear hu
    have HG2 := Lib.hid (grown_trans (grown_alloc HG.out _) hg2); clear hg2
    go_wp2
    go_returns
    refine ⟨u, p + 1 + 1, rfl, ?_, by omega, by omega, HR2.out, HG2.out⟩
    have := HU.out
    simp only [List.mem_cons, List.not_mem_nil, or_false] at this
    omega
  · go_wp2_with fail
    go_returns
    exact ⟨k, p + 1, rfl, .inl rfl, by omega, by omega, HR1.out, HG.out⟩

/-- A number is drawn out of bytes. -/
def DrawnNum (w : World) (e : Ending) (w' : World) : Prop := ∃ k : Int, e = .returned (.int .i64 k) ∧ Below w.heap.size w w'


end Go.Proofs.YtohllpdmopofoaaGreat
