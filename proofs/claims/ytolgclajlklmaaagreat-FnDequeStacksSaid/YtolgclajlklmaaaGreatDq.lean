import Derived.Test.YtolgclajlklmaaaGreatRw
import Derived.Deep.RegionHeld3
import Derived.Maps.AppendAt
import Derived.Deep.DeepMust
/-
  The reader from which the laws draw: a slice of bytes and a position in a block of the call's own; what pick answers.
-/
namespace Go.Proofs.YtolgclajlklmaaaGreat
set_option linter.unusedSimpArgs false
set_option linter.unusedVariables false
open Go.RowKit

/-- A reader in block c: its bytes lie below block B, which is not above c. -/
def Rd (w : World) (B c : Nat) (p : Int) : Prop :=
  B ≤ c ∧ c < w.heap.size ∧ 0 ≤ p ∧ ∃ (a : Option Addr) (n cap : Nat) (l : List Int),
    w.heap[c]? = some (.cells #[.slice a n cap, .int .i64 p] 110 (0, 0)) ∧ n ≤ 2000 ∧
    (n = 0 ∨ ∃ b off, a = some ⟨b, off, none⟩ ∧ b < B ∧ ∀ i, i < n → w.cell? ⟨b, off + i, none⟩ = some (.int .u8 (l[i]?.getD 0)) ∧ 0 ≤ l[i]?.getD 0 ∧ l[i]?.getD 0 ≤ 255)

/-- The reader stays where another block, or none, is written. -/
theorem Rd.kept {w w' : World} {B c : Nat} {p : Int} (h : Rd w B c p) (hg : w.grownBy w' none) : Rd w' B c p := by
  obtain ⟨h1, h2, h3, a, n, cap, l, h4, h5, h6⟩ := h
  refine ⟨h1, Nat.lt_of_lt_of_le h2 hg.size, h3, a, n, cap, l, (hg.block c h2 (by simp)).trans h4, h5, ?_⟩
  rcases h6 with h6 | ⟨b, off, ha, hb, hc⟩
  · exact .inl h6
  · exact .inr ⟨b, off, ha, hb, fun i hi => ⟨(World.cell?_of_block (hg.block b (by omega) (by simp))).trans (hc i hi).1, (hc i hi).2⟩⟩

def Picked (n : Int) (B c : Nat) (p : Int) (w : World) (e : Ending) (w' : World) : Prop :=
  ∃ v : Int, e = .returned (.int .i64 v) ∧ 0 ≤ v ∧ (1 ≤ n → v < n) ∧ (n < 1 → v = 0) ∧ Rd w' B c (p + 1) ∧ w.grownBy w' (some c)

theorem Rd.stepped {w : World} {B c : Nat} {p : Int} (h : Rd w B c p) : Rd (w.setCell ⟨c, 1, none⟩ (.int .i64 (p + 1))) B c (p + 1) ∧ w.grownBy (w.setCell ⟨c, 1, none⟩ (.int .i64 (p + 1))) (some c) := by
  obtain ⟨h1, h2, h3, a, n, cap, l, h4, h5, h6⟩ := h
  refine ⟨⟨h1, by simpa [World.setCell] using h2, by omega, a, n, cap, l, ?_, h5, ?_⟩, ⟨rfl, rfl, rfl, by simp [World.setCell], fun k hk hne => Below.heap_setCell _ _ _ _ (fun e => hne (by rw [e]))⟩⟩
  · simp [World.setCell, Array.getElem?_modify, h4]
  · rcases h6 with h6 | ⟨b, off, ha, hb, hc⟩
    · exact .inl h6
    · refine .inr ⟨b, off, ha, hb, fun i hi => ⟨(World.cell?_of_block ?_).trans (hc i hi).1, (hc i hi).2⟩⟩
      exact Below.heap_setCell _ _ _ _ (by show b ≠ c; omega)

end Go.Proofs.YtolgclajlklmaaaGreat

/-
  What pick answers: a number below its argument; the reader is one further.
-/
namespace Go.Proofs.YtolgclajlklmaaaGreat
set_option linter.unusedSimpArgs false
set_option linter.unusedVariables false
open Go.RowKit
theorem xor_i64 (a b : Nat) (ha : a < 4611686018427387904) (hb : b < 4611686018427387904) :
    bits .xor .i64 (a : Int) (b : Int) = ((a ^^^ b : Nat) : Int) ∧ a ^^^ b < 4611686018427387904 := by
  have hx : a ^^^ b < 2 ^ 62 := Nat.xor_lt_two_pow (by omega) (by omega)
  have h1 : (BitVec.ofInt 64 (a : Int)).toNat = a := by
    rw [BitVec.ofInt_natCast, BitVec.toNat_ofNat]; exact Nat.mod_eq_of_lt (by omega)
  have h2 : (BitVec.ofInt 64 (b : Int)).toNat = b := by
    rw [BitVec.ofInt_natCast, BitVec.toNat_ofNat]; exact Nat.mod_eq_of_lt (by omega)
  refine ⟨?_, by omega⟩
  show IntKind.i64.wrap ((BitVec.ofInt 64 (a : Int) ^^^ BitVec.ofInt 64 (b : Int)).toNat : Int) = _
  rw [BitVec.toNat_xor, h1, h2]
  exact IntWalk.i64_in _ (by omega)
theorem xor_bounds (X : Int) (h0 : 0 ≤ X) (h1 : X ≤ 1000000000) : 0 ≤ bits .xor .i64 X (X / 64) ∧ bits .xor .i64 X (X / 64) ≤ 4611686018427387904 := by
  obtain ⟨a, rfl⟩ := Int.eq_ofNat_of_zero_le h0
  have e : (a : Int) / 64 = ((a / 64 : Nat) : Int) := by omega
  rw [e]
  obtain ⟨h2, h3⟩ := xor_i64 a (a / 64) (by omega) (by omega)
  rw [h2]
  omega

set_option maxHeartbeats 4000000 in
theorem pick_any (n : Int) (B c : Nat) (p : Int) (w : World) (h : Rd w B c p) (hp : p ≤ 1000000) (hn : n ≤ 1000) :
    Calls Tryz.prog 66 #[.pointer (some ⟨c, 0, none⟩), .int .i64 n] w (Picked n B c p w) := by
  obtain ⟨st, sg⟩ := h.stepped
  have ST := Lib.hid st; clear st
  have SG := Lib.hid sg; clear sg
  obtain ⟨hBc, hcw, hp0, a, m, cap, l, hheap, hm, h6⟩ := h
  have q0 : w.cell? ⟨c, 0, none⟩ = some (.slice a m cap) := by simp [World.cell?, hheap]
  have q1 : w.cell? ⟨c, 1, none⟩ = some (.int .i64 p) := by simp [World.cell?, hheap]
  have z0 : w.frozen? ⟨c, 0, none⟩ = false := by simp [World.frozen?, hheap]
  have z1 : w.frozen? ⟨c, 1, none⟩ = false := by simp [World.frozen?, hheap]
  clear hheap
  have H6 := Lib.hid h6; clear h6
  by_cases h1 : n < 1
  · go_enter Tryz.func66, Tryz.ntmps66
    go_wp2
    go_returns
    exact ⟨0, rfl, by omega, by omega, fun _ => rfl, ST.out, SG.out⟩
  · by_cases h2 : m = 0
    · subst h2
      go_enter Tryz.func66, Tryz.ntmps66
      go_wp2
      go_returns
      exact ⟨0, rfl, by omega, by omega, fun _ => rfl, ST.out, SG.out⟩
    · rcases H6.out with h6 | ⟨b, off, rfl, hb, hcs⟩
      · omega
      · have hbc : b ≠ c := by omega
        have hm0 : ((m : Int) == 0) = false := by simp; omega
        have hm1 : 0 < (m : Int) := by omega
        by_cases h3 : p < m
        · obtain ⟨j, rfl⟩ := Int.eq_ofNat_of_zero_le hp0
          have hj := hcs j (by omega)
          obtain ⟨x, hx⟩ : ∃ x, x = l[j]?.getD 0 := ⟨_, rfl⟩
          rw [← hx] at hj
          obtain ⟨hj1, hj2, hj3⟩ := hj
          clear hcs hx
          go_enter Tryz.func66, Tryz.ntmps66
          go_wp2
          go_returns
          exact ⟨x % n, rfl, Int.emod_nonneg _ (by omega), fun _ => Int.emod_lt_of_pos _ (by omega), by omega, ST.out, SG.out⟩
        · obtain ⟨j, rfl⟩ := Int.eq_ofNat_of_zero_le hp0
          obtain ⟨u, hu⟩ : ∃ u : Nat, (j : Int) % (m : Int) = (u : Int) := Int.eq_ofNat_of_zero_le (Int.emod_nonneg _ (by omega))
          obtain ⟨v, hv⟩ : ∃ v : Nat, ((j : Int) * 7 + 3) % (m : Int) = (v : Int) := Int.eq_ofNat_of_zero_le (Int.emod_nonneg _ (by omega))
          have hum : u < m := by have := Int.emod_lt_of_pos (j : Int) hm1; omega
          have hvm : v < m := by have := Int.emod_lt_of_pos ((j : Int) * 7 + 3) hm1; omega
          obtain ⟨hx1, hx2, hx3⟩ := hcs u hum
          obtain ⟨hy1, hy2, hy3⟩ := hcs v hvm
          obtain ⟨x, hx⟩ : ∃ x, x = l[u]?.getD 0 := ⟨_, rfl⟩
          obtain ⟨y, hy⟩ : ∃ y, y = l[v]?.getD 0 := ⟨_, rfl⟩
          rw [← hx] at hx1 hx2 hx3
          rw [← hy] at hy1 hy2 hy3
          obtain ⟨d, hd⟩ : ∃ d, (j : Int) / (m : Int) = d := ⟨_, rfl⟩
          have hd0 : 0 ≤ d := by rw [← hd]; exact Int.ediv_nonneg (by omega) (by omega)
          have hd1 : d ≤ 1000000 := by have := Int.ediv_le_self (m : Int) (show (0 : Int) ≤ j by omega); rw [hd] at this; omega
          have hum' : (u : Int) < (m : Int) := by omega
          have hvm' : (v : Int) < (m : Int) := by omega
          have hu0 : (0 : Int) ≤ (u : Int) := by omega
          have hv0 : (0 : Int) ≤ (v : Int) := by omega
          obtain ⟨X, hX⟩ : ∃ X, x * 131 + y * 1117 + (j : Int) * 29 + d * 53 = X := ⟨_, rfl⟩
          have hX0 : 0 ≤ X := by omega
          have hX1 : X ≤ 1000000000 := by omega
          obtain ⟨hZ0, hZ1⟩ := xor_bounds X hX0 hX1
          clear hcs hx hy
          go_enter Tryz.func66, Tryz.ntmps66
          go_wp2
          go_quiet (fail)
          go_wp2
          go_returns
          exact ⟨bits .xor .i64 X (X / 64) % n, rfl, Int.emod_nonneg _ (by omega), fun _ => Int.emod_lt_of_pos _ (by omega), by omega, ST.out, ⟨SG.out.os, SG.out.tape, SG.out.output, SG.out.size, SG.out.block⟩⟩
end Go.Proofs.YtolgclajlklmaaaGreat

/-
  What the model draws: a reader is opened, numbers are taken from lists, kinds are drawn.
-/
namespace Go.Proofs.YtolgclajlklmaaaGreat
set_option linter.unusedSimpArgs false
set_option linter.unusedVariables false
open Go.RowKit

theorem grown_trans {a b d : World} {c : Nat} (h : a.grownBy b (some c)) (k : b.grownBy d (some c)) : a.grownBy d (some c) :=
  ⟨k.os.trans h.os, k.tape.trans h.tape, k.output.trans h.output, Nat.le_trans h.size k.size, fun i hi hne => (k.block i (Nat.lt_of_lt_of_le hi h.size) hne).trans (h.block i hi hne)⟩
theorem grown_alloc {a b : World} {c : Nat} (h : a.grownBy b (some c)) (o : Obj) : a.grownBy (b.alloc o) (some c) := grown_trans h (World.grownBy_alloc _ _ _)
theorem grown_refl (a : World) (c : Nat) : a.grownBy a (some c) := ⟨rfl, rfl, rfl, Nat.le_refl _, fun _ _ _ => rfl⟩
theorem grown_below {a b : World} {c n : Nat} (h : a.grownBy b (some c)) (hn : n ≤ a.heap.size) (hc : n ≤ c) : Below n a b :=
  (Below.refl _ _).grown h hn (fun k hk => by have := Option.some.inj hk; omega)

/-- A reader that was just opened, in new memory. -/
def Opened (w : World) (e : Ending) (w' : World) : Prop :=
  ∃ c, e = .returned (.pointer (some ⟨c, 0, none⟩)) ∧ Rd w' w.heap.size c 0 ∧ Below w.heap.size w w'

/-- Bytes that came in. -/
def Bytes (w : World) (a : Option Addr) (n cap : Nat) (l : List Int) : Prop :=
  n ≤ cap ∧ cap ≤ 9223372036854775807 ∧
  (n = 0 ∨ ∃ b off, a = some ⟨b, off, none⟩ ∧ b < w.heap.size ∧ ∀ i, i < n → w.cell? ⟨b, off + i, none⟩ = some (.int .u8 (l[i]?.getD 0)) ∧ 0 ≤ l[i]?.getD 0 ∧ l[i]?.getD 0 ≤ 255)
theorem Bytes.of_row {w : World} {a : Option Addr} {n cap : Nat} {zs : List Int} (h : IsRow .u8 w a n cap zs) : Bytes w a n cap (zs.take n) := by
  obtain ⟨h1, h2, h3, h4⟩ := Nums.of_row h
  have hw := Nums.row_wf h
  unfold maxLen at h3
  refine ⟨h2, by omega, ?_⟩
  rcases h4 with h4 | ⟨b, off, ha, hb, hc⟩
  · exact .inl h4
  · refine .inr ⟨b, off, ha, hb, fun i hi => ⟨hc i hi, ?_⟩⟩
    have hm := hw ((zs.take n)[i]'(by omega)) (List.getElem_mem _)
    rw [List.getElem?_eq_getElem (by omega)]
    simp only [Option.getD_some]
    simpa [Lit.wf, IntKind.min, IntKind.max, IntKind.bits, IntKind.signed] using hm

theorem open_any (a : Option Addr) (n cap : Nat) (l : List Int) (w : World) (h : Bytes w a n cap l) :
    Calls Tryz.prog 27 #[.slice a n cap] w (Opened w) := by
  obtain ⟨h1, h2, h3⟩ := h
  have H3 := Lib.hid h3; clear h3
  by_cases h2000 : n ≤ 2000
  · go_enter Tryz.func27, Tryz.ntmps27
    go_wp2
    go_returns
    refine ⟨w.heap.size, rfl, ⟨Nat.le_refl _, by simp, by omega, a, n, cap, l, heap_alloc_new w _, h2000, ?_⟩, (Below.refl _ _).alloc (Nat.le_refl _) _⟩
    rcases H3.out with h | ⟨b, off, ha, hb, hc⟩
    · exact .inl h
    · exact .inr ⟨b, off, ha, hb, fun i hi => ⟨(World.cell?_of_block (heap_alloc_old w _ hb)).trans (hc i hi).1, (hc i hi).2⟩⟩
  · rcases H3.out with h | ⟨b, off, rfl, hb, hc⟩
    · omega
    · have HC := Lib.hid hc; clear hc
      go_enter Tryz.func27, Tryz.ntmps27
      go_wp2
      go_returns
      refine ⟨w.heap.size, rfl, ⟨Nat.le_refl _, by simp, by omega, _, 2000, cap, l, heap_alloc_new w _, Nat.le_refl _, ?_⟩, (Below.refl _ _).alloc (Nat.le_refl _) _⟩
      exact .inr ⟨b, off, rfl, hb, fun i hi => ⟨(World.cell?_of_block (heap_alloc_old w _ hb)).trans (HC.out i (by omega)).1, (HC.out i (by omega)).2⟩⟩

/-- A list of numbers in one block, from its head. -/
def ListAt (w : World) (b : Nat) (ll : List Int) : Prop := b < w.heap.size ∧ ∀ i, i < ll.length → w.cell? ⟨b, i, none⟩ = some (.int .i64 (ll[i]?.getD 0))

/-- One of the numbers of a list is returned; the reader is one further. -/
def Taken (ll : List Int) (B c : Nat) (p : Int) (w : World) (e : Ending) (w' : World) : Prop :=
  ∃ v : Int, e = .returned (.int .i64 v) ∧ v ∈ ll ∧ Rd w' B c (p + 1) ∧ w.grownBy w' (some c)

set_option maxHeartbeats 1000000 in
theorem num_any (b lcap : Nat) (ll : List Int) (B c : Nat) (p : Int) (w : World) (h : Rd w B c p) (hp : p ≤ 1000000) (hl : ListAt w b ll) (hbc : b ≠ c) (h0 : 0 < ll.length) (h1 : ll.length ≤ 1000) :
    Calls Tryz.prog 31 #[.pointer (some ⟨c, 0, none⟩), .slice (some ⟨b, 0, none⟩) ll.length lcap] w (Taken ll B c p w) := by
  obtain ⟨n, hn⟩ : ∃ n, n = ll.length := ⟨_, rfl⟩
  rw [← hn] at h0 h1 ⊢
  have HN := Lib.hid hn; clear hn
  have HR := Lib.hid h; clear h
  have HL := Lib.hid hl; clear hl
  go_enter Tryz.func31, Tryz.ntmps31
  go_wp2_with fail
  refine (pick_any _ B c p _ HR.out hp (by omega)).mono ?_
  rintro e w1 ⟨v, rfl, hv0, hv1, -, hr, hg⟩
  have HR1 := Lib.hid hr; clear hr
  obtain ⟨j, rfl⟩ := Int.eq_ofNat_of_zero_le hv0
  have hj := hv1 (by omega)
  have hjn : j < n := by omega
  obtain ⟨x, hx⟩ : ∃ x, x = ll[j]?.getD 0 := ⟨_, rfl⟩
  have hcell : w1.cell? ⟨b, j, none⟩ = some (.int .i64 x) := by
    rw [hx]
    exact (World.cell?_of_block (hg.block b HL.out.1 (fun e => hbc (Option.some.inj e)))).trans (HL.out.2 j (by have := HN.out; omega))
  have hmem : x ∈ ll := by
    rw [hx, List.getElem?_eq_getElem (by have := HN.out; omega)]; exact List.getElem_mem _
  clear hx hv1
  have HG := Lib.hid hg; clear hg
  go_wp2
  go_returns
  exact ⟨x, rfl, hmem, HR1.out, HG.out⟩
end Go.Proofs.YtolgclajlklmaaaGreat

/-
  Kinds that the model draws.
-/
namespace Go.Proofs.YtolgclajlklmaaaGreat
set_option linter.unusedSimpArgs false
set_option linter.unusedVariables false
open Go.RowKit

theorem ListAt.new (w : World) (ll : List Int) (T : TypeId) : ListAt (w.alloc (.cells (ll.map (Value.int .i64)).toArray T)) w.heap.size ll := by
  refine ⟨by simp, fun i hi => ?_⟩
  simp [World.cell?_alloc_new, hi]
theorem ListAt.kept {w w' : World} {b c : Nat} {ll : List Int} (h : ListAt w b ll) (hg : w.grownBy w' (some c)) (hbc : b ≠ c) : ListAt w' b ll :=
  ⟨Nat.lt_of_lt_of_le h.1 hg.size, fun i hi => (World.cell?_of_block (hg.block b h.1 (fun e => hbc (Option.some.inj e)))).trans (h.2 i hi)⟩

/-- A number is drawn: one of a kind's; the reader is some steps further, at most m. -/
def Drawn (P : Int → Prop) (m : Int) (B c : Nat) (p : Int) (w : World) (e : Ending) (w' : World) : Prop :=
  ∃ v p' : Int, e = .returned (.int .i64 v) ∧ P v ∧ p ≤ p' ∧ p' ≤ p + m ∧ Rd w' B c p' ∧ w.grownBy w' (some c)



/-- A number is drawn out of bytes. -/
def DrawnNum (w : World) (e : Ending) (w' : World) : Prop := ∃ k : Int, e = .returned (.int .i64 k) ∧ Below w.heap.size w w'


end Go.Proofs.YtolgclajlklmaaaGreat

/-
  Lists of items that the model draws.
-/
namespace Go.Proofs.YtolgclajlklmaaaGreat
set_option linter.unusedSimpArgs false
set_option linter.unusedVariables false
open Go.RowKit

theorem Rd.kept' {w w' : World} {B c : Nat} {p : Int} {row : Option Nat} (h : Rd w B c p) (hg : w.grownBy w' row) (hr : ∀ k, row = some k → B ≤ k ∧ k ≠ c) : Rd w' B c p := by
  obtain ⟨h1, h2, h3, a, n, cap, l, h4, h5, h6⟩ := h
  refine ⟨h1, Nat.lt_of_lt_of_le h2 hg.size, h3, a, n, cap, l, (hg.block c h2 (fun e => (hr c e.symm).2 rfl)).trans h4, h5, ?_⟩
  rcases h6 with h6 | ⟨b, off, ha, hb, hc⟩
  · exact .inl h6
  · exact .inr ⟨b, off, ha, hb, fun i hi => ⟨(World.cell?_of_block (hg.block b (by omega) (fun e => by have := (hr b e.symm).1; omega))).trans (hc i hi).1, (hc i hi).2⟩⟩
theorem grown_new {a b d : World} {c : Nat} {row : Option Nat} (h : a.grownBy b (some c)) (k : b.grownBy d row) (hr : ∀ j, row = some j → a.heap.size ≤ j) : a.grownBy d (some c) :=
  ⟨k.os.trans h.os, k.tape.trans h.tape, k.output.trans h.output, Nat.le_trans h.size k.size, fun i hi hne => (k.block i (Nat.lt_of_lt_of_le hi h.size) (fun e => by have := hr i e.symm; omega)).trans (h.block i hi hne)⟩

/-- A list of items in new memory; the reader is some steps further. -/
def ListDrawn (most : Int) (B c : Nat) (p : Int) (w : World) (e : Ending) (w' : World) : Prop :=
  ∃ (v : Value) (n : Nat) (xs : List Int) (p' : Int), e = .returned v ∧ v ≠ .slice none 0 0 ∧ w'.ownsRow w.heap.size 3 1 v n (xs.map (Value.int .i64)) ∧ (n : Int) ≤ most ∧ (∀ x ∈ xs, 0 ≤ x ∧ x ≤ 96) ∧ p ≤ p' ∧ p' ≤ p + 1 + most ∧ Rd w' B c p' ∧ w.grownBy w' (some c)

end Go.Proofs.YtolgclajlklmaaaGreat

/-
  Changes that the model draws.
-/
namespace Go.Proofs.YtolgclajlklmaaaGreat
set_option linter.unusedSimpArgs false
set_option linter.unusedVariables false
open Go.RowKit
/-- A row of changes in new memory; the reader is some steps further. -/
def OpsDrawn (bound : Nat) (more : Int) (B c : Nat) (p : Int) (w : World) (e : Ending) (w' : World) : Prop :=
  ∃ (v : Value) (n : Nat) (l : List (Bool × Int)) (p' : Int), e = .returned v ∧ w'.ownsRow w.heap.size 76 2 v n (opRow l) ∧ n ≤ bound ∧ p ≤ p' ∧ p' ≤ p + more ∧ Rd w' B c p' ∧ w.grownBy w' (some c)
set_option maxRecDepth 8000 in
set_option maxHeartbeats 4000000 in
theorem l2Draw_any (most : Nat) (B c : Nat) (p : Int) (w : World) (h : Rd w B c p) (hp : p ≤ 900000) (hm : most ≤ 50) :
    Calls Tryz.prog 30 #[.pointer (some ⟨c, 0, none⟩), .int .i64 most] w (OpsDrawn (2 * most) 300 B c p w) := by
  obtain ⟨i0, hi, hz0, hz1, hz2⟩ := info_parts infoOp
  have hlt := h.2.1
  have hBc := h.1
  have HR := Lib.hid h; clear h
  have hm0 : (0 : Int) ≤ (most : Int) := Int.natCast_nonneg _
  have hm1 : (most : Int) ≤ 50 := by omega
  go_enter Tryz.func30, Tryz.ntmps30
  go_wp2_with fail
  refine (pick_any _ B c p _ (HR.out.kept (World.grownBy_alloc _ _ _)) (by omega) (by omega)).mono ?_
  rintro e w1 ⟨m, rfl, hv0, hv1, -, hr, hg⟩
  have hmm := hv1 (by omega)
  have hown : w1.ownsRow w.heap.size 76 2 (.slice (some ⟨w.heap.size, 0, none⟩) 0 0) 0 (opRow []) := by
    have h0 : (w.alloc (.cells #[] 76)).ownsRow w.heap.size 76 2 (.slice (some ⟨w.heap.size, 0, none⟩) 0 0) 0 (opRow []) := ⟨by simp [opRow], .inr ⟨w.heap.size, 0, _, rfl, Nat.le_refl _, heap_alloc_new w _, Nat.le_refl _, by simp, by simp, by simp [opRow]⟩⟩
    refine h0.kept (row := some c) hg (.inr ?_)
    intro e; simp [Value.ownBlock] at e; omega
  have HO := Lib.hid hown; clear hown
  have HR1 := Lib.hid hr; clear hr
  have HG := Lib.hid (grown_trans (grown_alloc (grown_refl w c) _) hg); clear hg
  clear hv1
  obtain ⟨mm, rfl⟩ := Int.eq_ofNat_of_zero_le hv0
  go_wp2
  go_loopw [5, 6, 7] (fun ov nv i wr => ∃ (k nn n : Nat) (l : List (Bool × Int)) (p' : Int), i = .int .i64 k ∧ nv = .int .i64 nn ∧ nn ≤ n ∧ n + k ≤ most ∧ Hid (wr.ownsRow w.heap.size 76 2 ov n (opRow l)) ∧ p ≤ p' ∧ p' + 2 * k ≤ p + 1 + 2 * most ∧ Hid (Rd wr B c p') ∧ Hid (w.grownBy wr (some c))) (fun _ _ i _ => (intOf i).toNat)
  case atStart => exact ⟨mm, 0, 0, [], p + 1, rfl, rfl, Nat.le_refl _, by omega, HO, by omega, by omega, HR1, HG⟩
  case round =>
    obtain ⟨k, nn, n, l, p', rfl, rfl, hnn, hnk, ho, hpp, hpk, hr, hg⟩ := hrel
    clear HO HR1 HG
    have hwr := hg.out.size
    have hlt' : ∀ j, u5.ownBlock = some j → w.heap.size ≤ j := fun j hj => (ho.out.lt j hj).1
    have hk00 : (0 : Int) ≤ (k : Int) := Int.natCast_nonneg _
    have hn00 : (0 : Int) ≤ (nn : Int) := Int.natCast_nonneg _
    by_cases hk : k = 0
    · subst hk
      go_wp2_with fail
      refine (pick_any _ B c p' _ hr.out (by omega) (by omega)).mono ?_
      rintro e w2 ⟨x, rfl, hx0, hx1, -, hr2, hg2⟩
      have hx3 := hx1 (by omega)
      have ho2 := ho.out.kept hg2 (.inr (fun e => by have := hlt' c e; omega))
      have HO2 := Lib.hid ho2; clear ho2
      have HR2 := Lib.hid hr2; clear hr2
      have HG2 := Lib.hid (grown_trans hg.out hg2); clear hg2
      clear hx1
      by_cases hx : x = 0
      · subst hx
        go_wp2
        go_loopw [5, 6] (fun ov nv wr => ∃ (nn n : Nat) (l : List (Bool × Int)) (p'' : Int), nv = .int .i64 nn ∧ n + nn ≤ 2 * most ∧ Hid (wr.ownsRow w.heap.size 76 2 ov n (opRow l)) ∧ p ≤ p'' ∧ p'' + nn ≤ p + 2 + 3 * most ∧ Hid (Rd wr B c p'') ∧ Hid (w.grownBy wr (some c))) (fun _ nv _ => (intOf nv).toNat)
        case atStart => exact ⟨nn, n, l, p' + 1, rfl, by omega, HO2, by omega, by omega, HR2, HG2⟩
        case round =>
          clear hr hg ho hlt' hpk hpp hnn hnk hk00 hn00 hwr
          obtain ⟨nn, n, l, p2, rfl, hnn, ho, hpp, hpk, hr, hg⟩ := hrel
          clear HO2 HR2 HG2
          have hwr := hg.out.size
          have hlt' : ∀ j, u5.ownBlock = some j → w.heap.size ≤ j := fun j hj => (ho.out.lt j hj).1
          have hn00 : (0 : Int) ≤ (nn : Int) := Int.natCast_nonneg _
          by_cases hn0 : nn = 0
          · subst hn0
            go_wp2
            go_returns
            exact ⟨u5, n, l, p2, rfl, ho.out, by omega, hpp, by omega, hr.out, hg.out⟩
          · have hnp : (0 : Int) < (nn : Int) := by omega
            go_wp2_with fail
            refine (pick_any _ B c p2 _ hr.out (by omega) (by omega)).mono ?_
            rintro e w4 ⟨y, rfl, hy0, hy1, -, hr4, hg4⟩
            have hy6 := hy1 (by omega)
            have ho4 := ho.out.kept hg4 (.inr (fun e => by have := hlt' c e; omega))
            have HO4 := Lib.hid ho4; clear ho4
            have HR4 := Lib.hid hr4; clear hr4
            have HG4 := Lib.hid (grown_trans hg.out hg4); clear hg4
            have hs4 := HG4.out.size
            clear hy1
            by_cases hy : 0 < y
            · go_wp2_with (at_builtin; refine wpList_append_own _ rfl (.tmp 51) (.tmp 53) 23 rfl w.heap.size 76 i0 (.agg #[.bool false, .int .i64 0]) 2 16 Tryz.underlying23 hi hz0 hz1 hz2 rfl (by decide) _ _ _ rfl (HO4.out.alloc _) ⟨w4.heap.size, 0, none⟩ 1 1 [.bool false, .int .i64 0] rfl rfl (cell_two_new _ _ _ _) (two_oneCell _ _) (by unfold maxLen; omega) (by omega) (by simp; omega) ?_; intro v3 w3 hown3 hgrow3 hnil3)
              go_roundw
              case rel =>
                have hs3 := hgrow3.size
                simp at hs3
                refine ⟨nn - 1, n + 1, l ++ [(false, 0)], p2 + 1, by go_num, by omega, Lib.hid (by rw [opRow_snoc]; exact hown3), by omega, by omega, ?_, ?_⟩
                · exact Lib.hid ((HR4.out.kept (World.grownBy_alloc _ _ _)).kept' hgrow3 (fun j hj => by have := hlt' j hj; omega))
                · exact Lib.hid (grown_new (grown_alloc HG4.out _) hgrow3 hlt')
              case measure => simp [intOf]; omega
            · go_wp2
              go_returns
              exact ⟨u5, n, l, p2 + 1, rfl, HO4.out, by omega, by omega, by omega, HR4.out, HG4.out⟩
      · go_wp2
        go_returns
        exact ⟨u5, n, l, p' + 1, rfl, HO2.out, by omega, by omega, by omega, HR2.out, HG2.out⟩
    · have hkp : (0 : Int) < (k : Int) := by omega
      by_cases hn0 : nn = 0
      · subst hn0
        go_wp2_with fail
        refine (num_any wr.heap.size 8 [3, 1, 0, 96, 7, 50, 2, 20] B c p' _ (hr.out.kept (World.grownBy_alloc _ _ _)) (by omega) (ListAt.new wr [3, 1, 0, 96, 7, 50, 2, 20] _) (by omega) (by decide) (by decide)).mono ?_
        rintro e w2 ⟨x, rfl, hx, hr2, hg2⟩
        have hs2 := hg2.size
        simp at hs2
        have ho2 := (ho.out.alloc _).kept hg2 (.inr (fun e => by have := hlt' c e; omega))
        have HO2 := Lib.hid ho2; clear ho2
        have HR2 := Lib.hid hr2; clear hr2
        have HG2 := Lib.hid hg2; clear hg2
        clear hx
        go_wp2_with (at_builtin; refine wpList_append_own _ rfl (.tmp 32) (.tmp 37) 23 rfl w.heap.size 76 i0 (.agg #[.bool false, .int .i64 0]) 2 16 Tryz.underlying23 hi hz0 hz1 hz2 rfl (by decide) _ _ _ rfl (HO2.out.alloc _) ⟨w2.heap.size, 0, none⟩ 1 1 [.bool true, .int .i64 x] rfl rfl (cell_two_new _ _ _ _) (two_oneCell _ _) (by unfold maxLen; omega) (by omega) (by simp; omega) ?_; intro v3 w3 hown3 hgrow3 hnil3)
        go_roundw
        case rel =>
          have hs3 := hgrow3.size
          simp at hs3
          refine ⟨k - 1, 1, n + 1, l ++ [(true, x)], p' + 1, by go_num, rfl, by omega, by omega, Lib.hid (by rw [opRow_snoc]; exact hown3), by omega, by omega, ?_, ?_⟩
          · exact Lib.hid ((HR2.out.kept (World.grownBy_alloc _ _ _)).kept' hgrow3 (fun j hj => by have := hlt' j hj; omega))
          · exact Lib.hid (grown_new (grown_alloc (grown_trans (grown_alloc hg.out _) HG2.out) _) hgrow3 hlt')
        case measure => simp [intOf]; omega
      · have hnp : (0 : Int) < (nn : Int) := by omega
        go_wp2_with fail
        refine (pick_any _ B c p' _ hr.out (by omega) (by omega)).mono ?_
        rintro e w4 ⟨y, rfl, hy0, hy1, -, hr4, hg4⟩
        have hy6 := hy1 (by omega)
        have ho4 := ho.out.kept hg4 (.inr (fun e => by have := hlt' c e; omega))
        have HO4 := Lib.hid ho4; clear ho4
        have HR4 := Lib.hid hr4; clear hr4
        have HG4 := Lib.hid (grown_trans hg.out hg4); clear hg4
        have hs4 := HG4.out.size
        clear hy1
        by_cases hy : y < 2
        · go_wp2_with (at_builtin; refine wpList_append_own _ rfl (.tmp 24) (.tmp 26) 23 rfl w.heap.size 76 i0 (.agg #[.bool false, .int .i64 0]) 2 16 Tryz.underlying23 hi hz0 hz1 hz2 rfl (by decide) _ _ _ rfl (HO4.out.alloc _) ⟨w4.heap.size, 0, none⟩ 1 1 [.bool false, .int .i64 0] rfl rfl (cell_two_new _ _ _ _) (two_oneCell _ _) (by unfold maxLen; omega) (by omega) (by simp; omega) ?_; intro v3 w3 hown3 hgrow3 hnil3)
          go_roundw
          case rel =>
            have hs3 := hgrow3.size
            simp at hs3
            refine ⟨k - 1, nn - 1, n + 1, l ++ [(false, 0)], p' + 1, by go_num, by go_num, by omega, by omega, Lib.hid (by rw [opRow_snoc]; exact hown3), by omega, by omega, ?_, ?_⟩
            · exact Lib.hid ((HR4.out.kept (World.grownBy_alloc _ _ _)).kept' hgrow3 (fun j hj => by have := hlt' j hj; omega))
            · exact Lib.hid (grown_new (grown_alloc HG4.out _) hgrow3 hlt')
          case measure => simp [intOf]; omega
        · have hn60 : (nn : Int) < 60 := by omega
          go_wp2_with fail
          refine (num_any w4.heap.size 8 [3, 1, 0, 96, 7, 50, 2, 20] B c (p' + 1) _ (HR4.out.kept (World.grownBy_alloc _ _ _)) (by omega) (ListAt.new w4 [3, 1, 0, 96, 7, 50, 2, 20] _) (by omega) (by decide) (by decide)).mono ?_
          rintro e w2 ⟨x, rfl, hx, hr2, hg2⟩
          have hs2 := hg2.size
          simp at hs2
          have ho2 := (HO4.out.alloc _).kept hg2 (.inr (fun e => by have := hlt' c e; omega))
          have HO2 := Lib.hid ho2; clear ho2
          have HR2 := Lib.hid hr2; clear hr2
          have HG2 := Lib.hid hg2; clear hg2
          clear hx
          go_wp2_with (at_builtin; refine wpList_append_own _ rfl (.tmp 32) (.tmp 37) 23 rfl w.heap.size 76 i0 (.agg #[.bool false, .int .i64 0]) 2 16 Tryz.underlying23 hi hz0 hz1 hz2 rfl (by decide) _ _ _ rfl (HO2.out.alloc _) ⟨w2.heap.size, 0, none⟩ 1 1 [.bool true, .int .i64 x] rfl rfl (cell_two_new _ _ _ _) (two_oneCell _ _) (by unfold maxLen; omega) (by omega) (by simp; omega) ?_; intro v3 w3 hown3 hgrow3 hnil3)
          go_roundw
          case rel =>
            have hs3 := hgrow3.size
            simp at hs3
            refine ⟨k - 1, nn + 1, n + 1, l ++ [(true, x)], p' + 1 + 1, by go_num, by go_num, by omega, by omega, Lib.hid (by rw [opRow_snoc]; exact hown3), by omega, by omega, ?_, ?_⟩
            · exact Lib.hid ((HR2.out.kept (World.grownBy_alloc _ _ _)).kept' hgrow3 (fun j hj => by have := hlt' j hj; omega))
            · exact Lib.hid (grown_new (grown_alloc (grown_trans (grown_alloc HG4.out _) HG2.out) _) hgrow3 hlt')
          case measure => simp [intOf]; omega
end Go.Proofs.YtolgclajlklmaaaGreat

/-
  Changes that the model bends; cases of a kind and changes.
-/
namespace Go.Proofs.YtolgclajlklmaaaGreat
set_option linter.unusedSimpArgs false
set_option linter.unusedVariables false
open Go.RowKit
theorem opRow_oneCell (l : List (Bool × Int)) : ∀ u ∈ opRow l, u.oneCell' = true := by
  intro u hu
  simp only [opRow, List.mem_flatMap] at hu
  obtain ⟨v, -, hv⟩ := hu
  exact two_oneCell _ _ u hv
theorem opRow_set (l : List (Bool × Int)) (j : Nat) (q : Bool) (x : Int) (h : j < l.length) : ((opRow l).set (j * 2) (.bool q)).set (j * 2 + 1) (.int .i64 x) = opRow (l.set j (q, x)) := by
  induction l generalizing j with
  | nil => simp at h
  | cons o l ih =>
    cases j with
    | zero => simp [opRow, opCells]
    | succ j =>
      have := ih j (by simpa using h)
      rw [show (j + 1) * 2 = j * 2 + 1 + 1 by omega]
      simp only [opRow, opCells, List.flatMap_cons, List.cons_append, List.nil_append, List.set_cons_succ] at this ⊢
      rw [this]
theorem ops_src {w : World} {base n : Nat} {v : Value} {l : List (Bool × Int)} (h : w.ownsRow base 76 2 v n (opRow l)) : ∃ a c, v = .slice a n c ∧ SrcOk w a n 2 (opRow l) := by
  have hl : (opRow l).length = n * 2 := h.1
  rcases h.2 with ⟨rfl, rfl⟩ | ⟨g, cap, cur, rfl, -, hg, h1, h2, h3, h4⟩
  · exact ⟨none, 0, rfl, fun _ => ⟨rfl, List.eq_nil_of_length_eq_zero (by simpa using hl)⟩, fun ad e => (by cases e), hl, opRow_oneCell l⟩
  · refine ⟨_, cap, rfl, fun e => (by cases e), ?_, hl, opRow_oneCell l⟩
    intro ad e j u hj
    obtain rfl := Option.some.inj e
    have hjn : j < n * 2 := by rw [← hl]; exact (List.getElem?_eq_some_iff.1 hj).1
    rw [Addr.add_lit, Nat.zero_add]
    have hc : cur[j]? = some u := by rw [← hj, ← h4, List.getElem?_take, if_pos hjn, Array.getElem?_toList]
    simp [World.cell?, hg, hc]
theorem opRow_set1 (l : List (Bool × Int)) (j : Nat) (x : Int) (h : j < l.length) : (opRow l).set (j * 2 + 1) (.int .i64 x) = opRow (l.set j ((l[j]?.getD (false, 0)).1, x)) := by
  induction l generalizing j with
  | nil => simp at h
  | cons o l ih =>
    cases j with
    | zero => simp [opRow, opCells]
    | succ j =>
      have := ih j (by simpa using h)
      rw [show (j + 1) * 2 = j * 2 + 1 + 1 by omega]
      simp only [opRow, opCells, List.flatMap_cons, List.cons_append, List.nil_append, List.set_cons_succ, List.getElem?_cons_succ] at this ⊢
      rw [this]
def lenV : Value → Nat
  | .slice _ n _ => n
  | _ => 0
theorem own_some_f {w : World} {base e size n : Nat} {v : Value} {xs : List Value} (h : w.ownsRow base e size v n xs) (hn : 0 < n) : ∃ g c, v = .slice (some ⟨g, 0, none⟩) n c ∧ base ≤ g ∧ g < w.heap.size ∧ c ≤ 9223372036854775807 ∧ n ≤ c := by
  rcases h.2 with ⟨_, h0⟩ | ⟨g, cap, cur, rfl, hb, hg, h1, h2, -⟩
  · omega
  · exact ⟨g, cap, rfl, hb, (Array.getElem?_eq_some_iff.1 hg).1, by unfold maxLen at h2; omega, h1⟩
theorem row_ne_some {v : Value} {b c : Nat} (h : ∀ k, v.ownBlock = some k → b ≤ k) (hc : c < b) : v.ownBlock = none ∨ v.ownBlock ≠ some c := by
  cases hv : v.ownBlock with
  | none => exact .inl rfl
  | some k => exact .inr (fun e => by have := h k hv; cases e; omega)
set_option maxRecDepth 8000 in
set_option maxHeartbeats 4000000 in
theorem l2Wrong_any (B c : Nat) (p : Int) (base n0 : Nat) (v0 : Value) (l0 : List (Bool × Int)) (w : World) (h : Rd w B c p) (hp : p ≤ 900000) (hrow : w.ownsRow base 76 2 v0 n0 (opRow l0)) (hn0 : n0 ≤ 100) :
    Calls Tryz.prog 29 #[.pointer (some ⟨c, 0, none⟩), v0] w (OpsDrawn 100 3 B c p w) := by
  obtain ⟨i0, hi, hz0, hz1, hz2⟩ := info_parts infoOp
  have hlt := h.2.1
  have hBc := h.1
  have HR := Lib.hid h; clear h
  obtain ⟨a0, c0, rfl, hsrc⟩ := ops_src (hrow.kept (show w.grownBy (w.alloc (.cells #[] 76)) none from World.grownBy_alloc _ _ _) (by cases hv : v0.ownBlock <;> simp))
  have HS := Lib.hid hsrc
  clear hsrc hrow
  have hn63 : n0 ≤ 9223372036854775807 := by omega
  by_cases h00 : n0 = 0
  · subst h00
    go_enter Tryz.func29, Tryz.ntmps29
    go_wp2_with (at_builtin; go_must (refine wpList_append_copy rfl (.tmp 7) (.tmp 8) 23 rfl 76 i0 (.agg #[.bool false, .int .i64 0]) 2 16 Tryz.underlying23 hi hz0 hz1 hz2 rfl (by decide) w.heap.size rfl (heap_alloc_new w _) a0 0 c0 (opRow l0) rfl HS.out (by unfold maxLen; omega) (by omega) ?_; intro v1 w1 hown1 hgrow1; obtain ⟨a1, c1, e1⟩ : ∃ a c, v1 = .slice a 0 c := (by rcases hown1.2 with ⟨e, e2⟩ | ⟨g, cap, cur, e, -⟩; exact ⟨none, 0, by rw [e, e2]⟩; exact ⟨_, cap, e⟩); subst e1; have HO1 := Lib.hid hown1; have HR1 := Lib.hid ((HR.out.kept (World.grownBy_alloc _ _ _)).kept' hgrow1 (fun k hk => by have := Option.some.inj hk; omega)); have HG1 := Lib.hid (grown_new (grown_alloc (grown_refl w c) _) hgrow1 (fun k hk => by have := Option.some.inj hk; omega)); clear hown1 hgrow1))
    go_returns
    exact ⟨_, 0, l0, p, rfl, HO1.out, by omega, by omega, by omega, HR1.out, HG1.out⟩
  · have hni : ¬ ((n0 : Int) = 0) := by omega
    have hnp : 0 < n0 := by omega
    have hnp' : (1 : Int) ≤ (n0 : Int) := by omega
    go_enter Tryz.func29, Tryz.ntmps29
    go_wp2_with (at_builtin; go_must (refine wpList_append_copy rfl (.tmp 7) (.tmp 8) 23 rfl 76 i0 (.agg #[.bool false, .int .i64 0]) 2 16 Tryz.underlying23 hi hz0 hz1 hz2 rfl (by decide) w.heap.size rfl (heap_alloc_new w _) a0 n0 c0 (opRow l0) rfl HS.out (by unfold maxLen; omega) (by omega) ?_; intro v1 w1 hown1 hgrow1; obtain ⟨a1, c1, e1⟩ : ∃ a c, v1 = .slice a n0 c := (by rcases hown1.2 with ⟨e, e2⟩ | ⟨g, cap, cur, e, -⟩; exact ⟨none, 0, by rw [e, e2]⟩; exact ⟨_, cap, e⟩); subst e1; have HO1 := Lib.hid hown1; have HR1 := Lib.hid ((HR.out.kept (World.grownBy_alloc _ _ _)).kept' hgrow1 (fun k hk => by have := Option.some.inj hk; omega)); have HG1 := Lib.hid (grown_new (grown_alloc (grown_refl w c) _) hgrow1 (fun k hk => by have := Option.some.inj hk; omega)); clear hown1 hgrow1))
    refine (pick_any _ B c p _ HR1.out (by omega) (by omega)).mono ?_
    rintro e w2 ⟨x, rfl, hx0, hx1, -, hr2, hg2⟩
    have hxn := hx1 (by omega)
    obtain ⟨j, rfl⟩ := Int.eq_ofNat_of_zero_le hx0
    have hjn : j < n0 := by omega
    have hlt1 : ∀ k, (Value.slice a1 n0 c1).ownBlock = some k → w.heap.size ≤ k := fun k hk => (HO1.out.lt k hk).1
    have HO2 := Lib.hid (HO1.out.kept hg2 (row_ne_some hlt1 hlt))
    have HR2 := Lib.hid hr2
    have HG2 := Lib.hid (grown_trans HG1.out hg2)
    clear hx1 hr2 hg2 HO1 HR1 HG1
    go_wp2_with fail
    refine (pick_any _ B c (p + 1) _ HR2.out (by omega) (by omega)).mono ?_
    rintro e w3 ⟨y, rfl, hy0, hy1, -, hr3, hg3⟩
    have hy20 := hy1 (by omega)
    have HO3 := Lib.hid (HO2.out.kept hg3 (row_ne_some hlt1 hlt))
    have HR3 := Lib.hid hr3
    have HG3 := Lib.hid (grown_trans HG2.out hg3)
    clear hy1 hr3 hg3 HO2 HR2 HG2
    obtain ⟨g, cc, e1, hg1, hg2, hcc, hnc⟩ := own_some_f HO3.out hnp
    simp only [Value.slice.injEq] at e1
    obtain ⟨rfl, -, rfl⟩ := e1
    have hj0 : (0 : Int) ≤ (j : Int) := Int.natCast_nonneg _
    have hji : (j : Int) < (n0 : Int) := by omega
    have hlen : (opRow l0).length = n0 * 2 := HO3.out.1
    have hll : j < l0.length := by rw [opRow_length] at hlen; omega
    have HLL := Lib.hid hll
    have HLEN := Lib.hid hlen
    clear hlen hll
    by_cases hy00 : y = 0
    · subst hy00
      go_wp2_with fail
      refine (num_any w3.heap.size 3 [97, -1, 5] B c (p + 1 + 1) _ (HR3.out.kept (World.grownBy_alloc _ _ _)) (by omega) (ListAt.new w3 [97, -1, 5] _) (by have := HR3.out.2.1; omega) (by decide) (by decide)).mono ?_
      rintro e w4 ⟨x, rfl, hx, hr4, hg4⟩
      have hO4 := (HO3.out.alloc (.cells #[.int .i64 97, .int .i64 (-1), .int .i64 5] 3)).kept hg4 (row_ne_some hlt1 hlt)
      have HR4 := Lib.hid hr4
      have HG4 := Lib.hid (grown_trans (grown_alloc HG3.out _) hg4)
      have hfr := hO4.frozenAt (j * 2 + 1)
      obtain ⟨y1, hcd1⟩ : ∃ y, w4.cell? ⟨g, j * 2 + 1, none⟩ = some y := ⟨_, (hO4.cellAt (j * 2 + 1) (by omega)).trans (List.getElem?_eq_getElem (by have := HLEN.out; omega))⟩
      have HO4 := Lib.hid hO4
      clear hO4 hx hr4 hg4 HO3 HR3 HG3
      go_wp2
      go_returns
      have hs := HO4.out.stored (j * 2 + 1) (Value.int .i64 x)
      rw [opRow_set1 l0 j x HLL.out] at hs
      exact ⟨_, n0, _, p + 1 + 1 + 1, rfl, hs.1, hn0, by omega, by omega, HR4.out.kept' hs.2 (fun k hk => by have := Option.some.inj hk; omega), grown_new HG4.out hs.2 (fun k hk => by have := Option.some.inj hk; omega)⟩
    · by_cases hy11 : y = 1
      · subst hy11
        have hfr := HO3.out.frozenAt (j * 2)
        have hfr1 := HO3.out.frozenAt (j * 2 + 1)
        obtain ⟨y0, hcd0⟩ : ∃ y, w3.cell? ⟨g, j * 2, none⟩ = some y := ⟨_, (HO3.out.cellAt (j * 2) (by omega)).trans (List.getElem?_eq_getElem (by have := HLEN.out; omega))⟩
        obtain ⟨y1, hcd1⟩ : ∃ y, w3.cell? ⟨g, j * 2 + 1, none⟩ = some y := ⟨_, (HO3.out.cellAt (j * 2 + 1) (by omega)).trans (List.getElem?_eq_getElem (by have := HLEN.out; omega))⟩
        go_wp2
        go_returns
        have hs := HO3.out.stored (j * 2) (Value.bool false)
        have hs2 := hs.1.stored (j * 2 + 1) (Value.int .i64 0)
        rw [opRow_set l0 j false 0 HLL.out] at hs2
        have hR4 := HR3.out.kept' hs.2 (fun k hk => by have := Option.some.inj hk; omega)
        have hG4 := grown_new HG3.out hs.2 (fun k hk => by have := Option.some.inj hk; omega)
        exact ⟨_, n0, _, p + 1 + 1, rfl, hs2.1, hn0, by omega, by omega, hR4.kept' hs2.2 (fun k hk => by have := Option.some.inj hk; omega), grown_new hG4 hs2.2 (fun k hk => by have := Option.some.inj hk; omega)⟩
      · by_cases hy22 : y = 2
        · subst hy22
          have HRP := Lib.hid HR3.out
          go_wp2
          go_loopw [5] (fun ov wr => ∃ (a : Option Addr) (n cp : Nat) (l : List (Bool × Int)), ov = .slice a n cp ∧ n ≤ 100 ∧ cp ≤ 9223372036854775807 ∧ Hid (wr.ownsRow w.heap.size 76 2 (.slice a n cp) n (opRow l)) ∧ Hid (Rd wr B c (p + 1 + 1)) ∧ Hid (w.grownBy wr (some c))) (fun ov _ => 70 - lenV ov)
          case atStart => exact ⟨_, n0, c1, l0, rfl, hn0, hcc, HO3, HR3, HG3⟩
          case round =>
            obtain ⟨a, n, cp, l, rfl, hn, hcp, ho, hr, hg⟩ := hrel
            clear HO3 HR3 HG3 HRP
            have hlt2 : ∀ k, (Value.slice a n cp).ownBlock = some k → w.heap.size ≤ k := fun k hk => (ho.out.lt k hk).1
            have hwr := hg.out.size
            by_cases h70 : n < 70
            · have h70' : (n : Int) < 70 := by omega
              go_wp2_with (at_builtin; refine wpList_append_own _ rfl (.tmp 40) (.tmp 42) 23 rfl w.heap.size 76 i0 (.agg #[.bool false, .int .i64 0]) 2 16 Tryz.underlying23 hi hz0 hz1 hz2 rfl (by decide) _ _ _ rfl (ho.out.alloc _) ⟨wr.heap.size, 0, none⟩ 1 1 [.bool true, .int .i64 0] rfl rfl (cell_two_new _ _ _ _) (two_oneCell _ _) (by unfold maxLen; omega) (by omega) (by simp; omega) ?_; intro v3 w3 hown3 hgrow3 hnil3)
              go_roundw
              case rel =>
                obtain ⟨a3, c3, e3⟩ : ∃ a c, v3 = .slice a (n + 1) c := by
                  rcases hown3.2 with ⟨e, e2⟩ | ⟨g, cap, cur, e, -⟩
                  · omega
                  · exact ⟨_, cap, e⟩
                subst e3
                have hc3 : c3 ≤ 9223372036854775807 := by obtain ⟨g, c, e, -, -, h, -⟩ := own_some_f hown3 (by omega); simp only [Value.slice.injEq] at e; omega
                refine ⟨a3, n + 1, c3, l ++ [(true, 0)], rfl, by omega, hc3, Lib.hid (by rw [opRow_snoc]; exact hown3), ?_, ?_⟩
                · exact Lib.hid ((hr.out.kept (World.grownBy_alloc _ _ _)).kept' hgrow3 (fun j hj => by have := hlt2 j hj; omega))
                · exact Lib.hid (grown_new (grown_alloc hg.out _) hgrow3 hlt2)
              case measure =>
                obtain ⟨a3, c3, e3⟩ : ∃ a c, v3 = .slice a (n + 1) c := by
                  rcases hown3.2 with ⟨e, e2⟩ | ⟨g, cap, cur, e, -⟩
                  · omega
                  · exact ⟨_, cap, e⟩
                subst e3
                simp [lenV]; omega
            · have h70' : ¬ ((n : Int) < 70) := by omega
              go_wp2
              go_returns
              exact ⟨_, n, l, p + 1 + 1, rfl, ho.out, hn, by omega, by omega, hr.out, hg.out⟩
        · go_wp2
          go_returns
          exact ⟨_, n0, l0, p + 1 + 1, rfl, HO3.out, hn0, by omega, by omega, HR3.out, HG3.out⟩
/-- A kind and changes. -/
def CaseDrawn (w : World) (e : Ending) (w' : World) : Prop :=
  ∃ (k : Int) (v : Value) (n : Nat) (l : List (Bool × Int)), e = .returned (.tuple #[.int .i64 k, v]) ∧ OwnO w' w.heap.size w'.heap.size v n l ∧ n ≤ 100 ∧ -1 ≤ k ∧ k ≤ 11 ∧ Below w.heap.size w w'
end Go.Proofs.YtolgclajlklmaaaGreat
