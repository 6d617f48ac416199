/-
  What the model draws: a reader is opened, numbers are taken from lists, kinds are drawn.
-/
import Derived.Test.YtohllpdmopofoaaGreatPk
namespace Go.Proofs.YtohllpdmopofoaaGreat
set_option linter.unusedSimpArgs false
set_option linter.unusedVariables false
open Go.RowKit

theorem grown_trans {a b d : World} {c : Nat} (h : a.grownBy b (some c)) (k : b.grownBy d (some c)) : a.grownBy d (some c) :=
  ⟨k.os.trans h.os, k.tape.trans h.tape, k.output.trans h.output, Nat.le_trans h.size k.size, fun i hi hne => (k.block i (Nat.lt_of_lt_of_le hi h.size) hne).trans (h.block i hi hne)⟩
theorem grown_alloc {a b : World} {c : Nat} (h : a.grownBy b (some c)) (o : Obj) : a.grownBy (b.alloc o) (some c) := grown_trans h (World.grownBy_alloc _ _ _)
theorem grown_refl (a : World) (c : Nat) : a.grownBy a (some c) := ⟨rfl, rfl, rfl, Nat.le_refl _, fun _ _ _ => rfl⟩
theorem grown_below {a b : World} {c n : Nat} (h : a.grownBy b (some c)) (hn : n ≤ a.heap.size) (hc : n ≤ c) : Below n a b :=
  (Below.refl _ _).grown h hn (fun k hk => by have := Option.some.inj hk; omega)

/-- A reader that was just opened, in new memory. -/
def Opened (w : World) (e : Ending) (w' : World) : Prop :=
  ∃ c, e = .returned (.pointer (some ⟨c, 0, none⟩)) ∧ Rd w' w.heap.size c 0 ∧ Below w.heap.size w w'

/-- Bytes that came in. -/
def Bytes (w : World) (a : Option Addr) (n cap : Nat) (l : List Int) : Prop :=
  n ≤ cap ∧ cap ≤ 9223372036854775807 ∧
  (n = 0 ∨ ∃ b off, a = some ⟨b, off, none⟩ ∧ b < w.heap.size ∧ ∀ i, i < n → w.cell? ⟨b, off + i, none⟩ = some (.int .u8 (l[i]?.getD 0)) ∧ 0 ≤ l[i]?.getD 0 ∧ l[i]?.getD 0 ≤ 255)
theorem Bytes.of_row {w : World} {a : Option Addr} {n cap : Nat} {zs : List Int} (h : IsRow .u8 w a n cap zs) : Bytes w a n cap (zs.take n) := by
  obtain ⟨h1, h2, h3, h4⟩ := Nums.of_row h
  have hw := Nums.row_wf h
  unfold maxLen at h3
  refine ⟨h2, by omega, ?_⟩
  rcases h4 with h4 | ⟨b, off, ha, hb, hc⟩
  · exact .inl h4
  · refine .inr ⟨b, off, ha, hb, fun i hi => ⟨hc i hi, ?_⟩⟩
    have hm := hw ((zs.take n)[i]'(by omega)) (List.getElem_mem _)
    rw [List.getElem?_eq_getElem (by omega)]
    simp only [Option.getD_some]
    simpa [Lit.wf, IntKind.min, IntKind.max, IntKind.bits, IntKind.signed] using hm

theorem open_any (a : Option Addr) (n cap : Nat) (l : List Int) (w : World) (h : Bytes w a n cap l) :
    Calls Tryz.prog 47 #[.slice a n cap] w (Opened w) := by
  obtain ⟨h1, h2, h3⟩ := h
  have H3 := Lib.hid h3; clear h3
  by_cases h2000 : n ≤ 2000
  · go_enter Tryz.func47, Tryz.ntmps47
    go_wp2
    go_returns
    refine ⟨w.heap.size, rfl, ⟨Nat.le_refl _, by simp, by omega, a, n, cap, l, heap_alloc_new w _, h2000, ?_⟩, (Below.refl _ _).alloc (Nat.le_refl _) _⟩
    rcases H3.out with h | ⟨b, off, ha, hb, hc⟩
    · exact .inl h
    · exact .inr ⟨b, off, ha, hb, fun i hi => ⟨(World.cell?_of_block (heap_alloc_old w _ hb)).trans (hc i hi).1, (hc i hi).2⟩⟩
  · rcases H3.out with h | ⟨b, off, rfl, hb, hc⟩
    · omega
    · have HC := Lib.hid hc; clear hc
      go_enter Tryz.func47, Tryz.ntmps47
      go_wp2
      go_returns
      refine ⟨w.heap.size, rfl, ⟨Nat.le_refl _, by simp, by omega, _, 2000, cap, l, heap_alloc_new w _, Nat.le_refl _, ?_⟩, (Below.refl _ _).alloc (Nat.le_refl _) _⟩
      exact .inr ⟨b, off, rfl, hb, fun i hi => ⟨(World.cell?_of_block (heap_alloc_old w _ hb)).trans (HC.out i (by omega)).1, (HC.out i (by omega)).2⟩⟩

/-- A list of numbers in one block, from its head. -/
def ListAt (w : World) (b : Nat) (ll : List Int) : Prop := b < w.heap.size ∧ ∀ i, i < ll.length → w.cell? ⟨b, i, none⟩ = some (.int .i64 (ll[i]?.getD 0))

/-- One of the numbers of a list is returned; the reader is one further. -/
def Taken (ll : List Int) (B c : Nat) (p : Int) (w : World) (e : Ending) (w' : World) : Prop :=
  ∃ v : Int, e = .returned (.int .i64 v) ∧ v ∈ ll ∧ Rd w' B c (p + 1) ∧ w.grownBy w' (some c)

set_option maxHeartbeats 1000000 in
theorem num_any (b lcap : Nat) (ll : List Int) (B c : Nat) (p : Int) (w : World) (h : Rd w B c p) (hp : p ≤ 1000000) (hl : ListAt w b ll) (hbc : b ≠ c) (h0 : 0 < ll.length) (h1 : ll.length ≤ 1000) :
    Calls Tryz.prog 51 #[.pointer (some ⟨c, 0, none⟩), .slice (some ⟨b, 0, none⟩) ll.length lcap] w (Taken ll B c p w) := by
  obtain ⟨n, hn⟩ : ∃ n, n = ll.length := ⟨_, rfl⟩
  rw [← hn] at h0 h1 ⊢
  have HN := Lib.hid hn; clear hn
  have HR := Lib.hid h; clear h
  have HL := Lib.hid hl; clear hl
  go_enter Tryz.func51, Tryz.ntmps51
  go_wp2_with fail
  refine (pick_any _ B c p _ HR.out hp (by omega)).mono ?_
  rintro e w1 ⟨v, rfl, hv0, hv1, -, hr, hg⟩
  have HR1 := Lib.hid hr; clear hr
  obtain ⟨j, rfl⟩ := Int.eq_ofNat_of_zero_le hv0
  have hj := hv1 (by omega)
  have hjn : j < n := by omega
  obtain ⟨x, hx⟩ : ∃ x, x = ll[j]?.getD 0 := ⟨_, rfl⟩
  have hcell : w1.cell? ⟨b, j, none⟩ = some (.int .i64 x) := by
    rw [hx]
    exact (World.cell?_of_block (hg.block b HL.out.1 (fun e => hbc (Option.some.inj e)))).trans (HL.out.2 j (by have := HN.out; omega))
  have hmem : x ∈ ll := by
    rw [hx, List.getElem?_eq_getElem (by have := HN.out; omega)]; exact List.getElem_mem _
  clear hx hv1
  have HG := Lib.hid hg; clear hg
  go_wp2
  go_returns
  exact ⟨x, rfl, hmem, HR1.out, HG.out⟩
end Go.Proofs.YtohllpdmopofoaaGreat
