import Derived.Test.YtofpnmjadflebaaRw
import Derived.Deep.RegionHeld3
import Derived.Maps.AppendAt
import Derived.Deep.DeepMust
/-
  The reader from which the laws draw: a slice of bytes and a position in a block of the call's own; what pick answers.
-/
namespace Go.Proofs.Ytofpnmjadflebaa
set_option linter.unusedSimpArgs false
set_option linter.unusedVariables false
open Go.RowKit

/-- A reader in block c: its bytes lie below block B, which is not above c. -/
def Rd (w : World) (B c : Nat) (p : Int) : Prop :=
  B ≤ c ∧ c < w.heap.size ∧ 0 ≤ p ∧ ∃ (a : Option Addr) (n cap : Nat) (l : List Int),
    w.heap[c]? = some (.cells #[.slice a n cap, .int .i64 p] 70 (0, 0)) ∧ n ≤ 2000 ∧
    (n = 0 ∨ ∃ b off, a = some ⟨b, off, none⟩ ∧ b < B ∧ ∀ i, i < n → w.cell? ⟨b, off + i, none⟩ = some (.int .u8 (l[i]?.getD 0)) ∧ 0 ≤ l[i]?.getD 0 ∧ l[i]?.getD 0 ≤ 255)

/-- The reader stays where another block, or none, is written. -/
theorem Rd.kept {w w' : World} {B c : Nat} {p : Int} (h : Rd w B c p) (hg : w.grownBy w' none) : Rd w' B c p := by
  obtain ⟨h1, h2, h3, a, n, cap, l, h4, h5, h6⟩ := h
  refine ⟨h1, Nat.lt_of_lt_of_le h2 hg.size, h3, a, n, cap, l, (hg.block c h2 (by simp)).trans h4, h5, ?_⟩
  rcases h6 with h6 | ⟨b, off, ha, hb, hc⟩
  · exact .inl h6
  · exact .inr ⟨b, off, ha, hb, fun i hi => ⟨(World.cell?_of_block (hg.block b (by omega) (by simp))).trans (hc i hi).1, (hc i hi).2⟩⟩

def Picked (n : Int) (B c : Nat) (p : Int) (w : World) (e : Ending) (w' : World) : Prop :=
  ∃ v : Int, e = .returned (.int .i64 v) ∧ 0 ≤ v ∧ (1 ≤ n → v < n) ∧ (n < 1 → v = 0) ∧ Rd w' B c (p + 1) ∧ w.grownBy w' (some c)

theorem Rd.stepped {w : World} {B c : Nat} {p : Int} (h : Rd w B c p) : Rd (w.setCell ⟨c, 1, none⟩ (.int .i64 (p + 1))) B c (p + 1) ∧ w.grownBy (w.setCell ⟨c, 1, none⟩ (.int .i64 (p + 1))) (some c) := by
  obtain ⟨h1, h2, h3, a, n, cap, l, h4, h5, h6⟩ := h
  refine ⟨⟨h1, by simpa [World.setCell] using h2, by omega, a, n, cap, l, ?_, h5, ?_⟩, ⟨rfl, rfl, rfl, by simp [World.setCell], fun k hk hne => Below.heap_setCell _ _ _ _ (fun e => hne (by rw [e]))⟩⟩
  · simp [World.setCell, Array.getElem?_modify, h4]
  · rcases h6 with h6 | ⟨b, off, ha, hb, hc⟩
    · exact .inl h6
    · refine .inr ⟨b, off, ha, hb, fun i hi => ⟨(World.cell?_of_block ?_).trans (hc i hi).1, (hc i hi).2⟩⟩
      exact Below.heap_setCell _ _ _ _ (by show b ≠ c; omega)

end Go.Proofs.Ytofpnmjadflebaa

/-
  What pick answers: a number below its argument; the reader is one further.
-/
namespace Go.Proofs.Ytofpnmjadflebaa
set_option linter.unusedSimpArgs false
set_option linter.unusedVariables false
open Go.RowKit
theorem xor_i64 (a b : Nat) (ha : a < 4611686018427387904) (hb : b < 4611686018427387904) :
    bits .xor .i64 (a : Int) (b : Int) = ((a ^^^ b : Nat) : Int) ∧ a ^^^ b < 4611686018427387904 := by
  have hx : a ^^^ b < 2 ^ 62 := Nat.xor_lt_two_pow (by omega) (by omega)
  have h1 : (BitVec.ofInt 64 (a : Int)).toNat = a := by
    rw [BitVec.ofInt_natCast, BitVec.toNat_ofNat]; exact Nat.mod_eq_of_lt (by omega)
  have h2 : (BitVec.ofInt 64 (b : Int)).toNat = b := by
    rw [BitVec.ofInt_natCast, BitVec.toNat_ofNat]; exact Nat.mod_eq_of_lt (by omega)
  refine ⟨?_, by omega⟩
  show IntKind.i64.wrap ((BitVec.ofInt 64 (a : Int) ^^^ BitVec.ofInt 64 (b : Int)).toNat : Int) = _
  rw [BitVec.toNat_xor, h1, h2]
  exact IntWalk.i64_in _ (by omega)
theorem xor_bounds (X : Int) (h0 : 0 ≤ X) (h1 : X ≤ 1000000000) : 0 ≤ bits .xor .i64 X (X / 64) ∧ bits .xor .i64 X (X / 64) ≤ 4611686018427387904 := by
  obtain ⟨a, rfl⟩ := Int.eq_ofNat_of_zero_le h0
  have e : (a : Int) / 64 = ((a / 64 : Nat) : Int) := by omega
  rw [e]
  obtain ⟨h2, h3⟩ := xor_i64 a (a / 64) (by omega) (by omega)
  rw [h2]
  omega

set_option maxHeartbeats 4000000 in
theorem pick_any (n : Int) (B c : Nat) (p : Int) (w : World) (h : Rd w B c p) (hp : p ≤ 1000000) (hn : n ≤ 1000) :
    Calls Try.prog 31 #[.pointer (some ⟨c, 0, none⟩), .int .i64 n] w (Picked n B c p w) := by
  obtain ⟨st, sg⟩ := h.stepped
  have ST := Lib.hid st; clear st
  have SG := Lib.hid sg; clear sg
  obtain ⟨hBc, hcw, hp0, a, m, cap, l, hheap, hm, h6⟩ := h
  have q0 : w.cell? ⟨c, 0, none⟩ = some (.slice a m cap) := by simp [World.cell?, hheap]
  have q1 : w.cell? ⟨c, 1, none⟩ = some (.int .i64 p) := by simp [World.cell?, hheap]
  have z0 : w.frozen? ⟨c, 0, none⟩ = false := by simp [World.frozen?, hheap]
  have z1 : w.frozen? ⟨c, 1, none⟩ = false := by simp [World.frozen?, hheap]
  clear hheap
  have H6 := Lib.hid h6; clear h6
  by_cases h1 : n < 1
  · go_enter Try.func31, Try.ntmps31
    go_wp2
    go_returns
    exact ⟨0, rfl, by omega, by omega, fun _ => rfl, ST.out, SG.out⟩
  · by_cases h2 : m = 0
    · subst h2
      go_enter Try.func31, Try.ntmps31
      go_wp2
      go_returns
      exact ⟨0, rfl, by omega, by omega, fun _ => rfl, ST.out, SG.out⟩
    · rcases H6.out with h6 | ⟨b, off, rfl, hb, hcs⟩
      · omega
      · have hbc : b ≠ c := by omega
        have hm0 : ((m : Int) == 0) = false := by simp; omega
        have hm1 : 0 < (m : Int) := by omega
        by_cases h3 : p < m
        · obtain ⟨j, rfl⟩ := Int.eq_ofNat_of_zero_le hp0
          have hj := hcs j (by omega)
          obtain ⟨x, hx⟩ : ∃ x, x = l[j]?.getD 0 := ⟨_, rfl⟩
          rw [← hx] at hj
          obtain ⟨hj1, hj2, hj3⟩ := hj
          clear hcs hx
          go_enter Try.func31, Try.ntmps31
          go_wp2
          go_returns
          exact ⟨x % n, rfl, Int.emod_nonneg _ (by omega), fun _ => Int.emod_lt_of_pos _ (by omega), by omega, ST.out, SG.out⟩
        · obtain ⟨j, rfl⟩ := Int.eq_ofNat_of_zero_le hp0
          obtain ⟨u, hu⟩ : ∃ u : Nat, (j : Int) % (m : Int) = (u : Int) := Int.eq_ofNat_of_zero_le (Int.emod_nonneg _ (by omega))
          obtain ⟨v, hv⟩ : ∃ v : Nat, ((j : Int) * 7 + 3) % (m : Int) = (v : Int) := Int.eq_ofNat_of_zero_le (Int.emod_nonneg _ (by omega))
          have hum : u < m := by have := Int.emod_lt_of_pos (j : Int) hm1; omega
          have hvm : v < m := by have := Int.emod_lt_of_pos ((j : Int) * 7 + 3) hm1; omega
          obtain ⟨hx1, hx2, hx3⟩ := hcs u hum
          obtain ⟨hy1, hy2, hy3⟩ := hcs v hvm
          obtain ⟨x, hx⟩ : ∃ x, x = l[u]?.getD 0 := ⟨_, rfl⟩
          obtain ⟨y, hy⟩ : ∃ y, y = l[v]?.getD 0 := ⟨_, rfl⟩
          rw [← hx] at hx1 hx2 hx3
          rw [← hy] at hy1 hy2 hy3
          obtain ⟨d, hd⟩ : ∃ d, (j : Int) / (m : Int) = d := ⟨_, rfl⟩
          have hd0 : 0 ≤ d := by rw [← hd]; exact Int.ediv_nonneg (by omega) (by omega)
          have hd1 : d ≤ 1000000 := by have := Int.ediv_le_self (m : Int) (show (0 : Int) ≤ j by omega); rw [hd] at this; omega
          have hum' : (u : Int) < (m : Int) := by omega
          have hvm' : (v : Int) < (m : Int) := by omega
          have hu0 : (0 : Int) ≤ (u : Int) := by omega
          have hv0 : (0 : Int) ≤ (v : Int) := by omega
          obtain ⟨X, hX⟩ : ∃ X, x * 131 + y * 1117 + (j : Int) * 29 + d * 53 = X := ⟨_, rfl⟩
          have hX0 : 0 ≤ X := by omega
          have hX1 : X ≤ 1000000000 := by omega
          obtain ⟨hZ0, hZ1⟩ := xor_bounds X hX0 hX1
          clear hcs hx hy
          go_enter Try.func31, Try.ntmps31
          go_wp2
          go_quiet (fail)
          go_wp2
          go_returns
          exact ⟨bits .xor .i64 X (X / 64) % n, rfl, Int.emod_nonneg _ (by omega), fun _ => Int.emod_lt_of_pos _ (by omega), by omega, ST.out, ⟨SG.out.os, SG.out.tape, SG.out.output, SG.out.size, SG.out.block⟩⟩
end Go.Proofs.Ytofpnmjadflebaa

/-
  What the model draws: a reader is opened, numbers are taken from lists, kinds are drawn.
-/
namespace Go.Proofs.Ytofpnmjadflebaa
set_option linter.unusedSimpArgs false
set_option linter.unusedVariables false
open Go.RowKit

theorem grown_trans {a b d : World} {c : Nat} (h : a.grownBy b (some c)) (k : b.grownBy d (some c)) : a.grownBy d (some c) :=
  ⟨k.os.trans h.os, k.tape.trans h.tape, k.output.trans h.output, Nat.le_trans h.size k.size, fun i hi hne => (k.block i (Nat.lt_of_lt_of_le hi h.size) hne).trans (h.block i hi hne)⟩
theorem grown_alloc {a b : World} {c : Nat} (h : a.grownBy b (some c)) (o : Obj) : a.grownBy (b.alloc o) (some c) := grown_trans h (World.grownBy_alloc _ _ _)
theorem grown_refl (a : World) (c : Nat) : a.grownBy a (some c) := ⟨rfl, rfl, rfl, Nat.le_refl _, fun _ _ _ => rfl⟩
theorem grown_below {a b : World} {c n : Nat} (h : a.grownBy b (some c)) (hn : n ≤ a.heap.size) (hc : n ≤ c) : Below n a b :=
  (Below.refl _ _).grown h hn (fun k hk => by have := Option.some.inj hk; omega)

/-- A reader that was just opened, in new memory. -/
def Opened (w : World) (e : Ending) (w' : World) : Prop :=
  ∃ c, e = .returned (.pointer (some ⟨c, 0, none⟩)) ∧ Rd w' w.heap.size c 0 ∧ Below w.heap.size w w'

/-- Bytes that came in. -/
def Bytes (w : World) (a : Option Addr) (n cap : Nat) (l : List Int) : Prop :=
  n ≤ cap ∧ cap ≤ 9223372036854775807 ∧
  (n = 0 ∨ ∃ b off, a = some ⟨b, off, none⟩ ∧ b < w.heap.size ∧ ∀ i, i < n → w.cell? ⟨b, off + i, none⟩ = some (.int .u8 (l[i]?.getD 0)) ∧ 0 ≤ l[i]?.getD 0 ∧ l[i]?.getD 0 ≤ 255)
theorem Bytes.of_row {w : World} {a : Option Addr} {n cap : Nat} {zs : List Int} (h : IsRow .u8 w a n cap zs) : Bytes w a n cap (zs.take n) := by
  obtain ⟨h1, h2, h3, h4⟩ := Nums.of_row h
  have hw := Nums.row_wf h
  unfold maxLen at h3
  refine ⟨h2, by omega, ?_⟩
  rcases h4 with h4 | ⟨b, off, ha, hb, hc⟩
  · exact .inl h4
  · refine .inr ⟨b, off, ha, hb, fun i hi => ⟨hc i hi, ?_⟩⟩
    have hm := hw ((zs.take n)[i]'(by omega)) (List.getElem_mem _)
    rw [List.getElem?_eq_getElem (by omega)]
    simp only [Option.getD_some]
    simpa [Lit.wf, IntKind.min, IntKind.max, IntKind.bits, IntKind.signed] using hm

theorem open_any (a : Option Addr) (n cap : Nat) (l : List Int) (w : World) (h : Bytes w a n cap l) :
    Calls Try.prog 26 #[.slice a n cap] w (Opened w) := by
  obtain ⟨h1, h2, h3⟩ := h
  have H3 := Lib.hid h3; clear h3
  by_cases h2000 : n ≤ 2000
  · go_enter Try.func26, Try.ntmps26
    go_wp2
    go_returns
    refine ⟨w.heap.size, rfl, ⟨Nat.le_refl _, by simp, by omega, a, n, cap, l, heap_alloc_new w _, h2000, ?_⟩, (Below.refl _ _).alloc (Nat.le_refl _) _⟩
    rcases H3.out with h | ⟨b, off, ha, hb, hc⟩
    · exact .inl h
    · exact .inr ⟨b, off, ha, hb, fun i hi => ⟨(World.cell?_of_block (heap_alloc_old w _ hb)).trans (hc i hi).1, (hc i hi).2⟩⟩
  · rcases H3.out with h | ⟨b, off, rfl, hb, hc⟩
    · omega
    · have HC := Lib.hid hc; clear hc
      go_enter Try.func26, Try.ntmps26
      go_wp2
      go_returns
      refine ⟨w.heap.size, rfl, ⟨Nat.le_refl _, by simp, by omega, _, 2000, cap, l, heap_alloc_new w _, Nat.le_refl _, ?_⟩, (Below.refl _ _).alloc (Nat.le_refl _) _⟩
      exact .inr ⟨b, off, rfl, hb, fun i hi => ⟨(World.cell?_of_block (heap_alloc_old w _ hb)).trans (HC.out i (by omega)).1, (HC.out i (by omega)).2⟩⟩

/-- A list of numbers in one block, from its head. -/
def ListAt (w : World) (b : Nat) (ll : List Int) : Prop := b < w.heap.size ∧ ∀ i, i < ll.length → w.cell? ⟨b, i, none⟩ = some (.int .i64 (ll[i]?.getD 0))

/-- One of the numbers of a list is returned; the reader is one further. -/
def Taken (ll : List Int) (B c : Nat) (p : Int) (w : World) (e : Ending) (w' : World) : Prop :=
  ∃ v : Int, e = .returned (.int .i64 v) ∧ v ∈ ll ∧ Rd w' B c (p + 1) ∧ w.grownBy w' (some c)

set_option maxHeartbeats 1000000 in
theorem num_any (b lcap : Nat) (ll : List Int) (B c : Nat) (p : Int) (w : World) (h : Rd w B c p) (hp : p ≤ 1000000) (hl : ListAt w b ll) (hbc : b ≠ c) (h0 : 0 < ll.length) (h1 : ll.length ≤ 1000) :
    Calls Try.prog 32 #[.pointer (some ⟨c, 0, none⟩), .slice (some ⟨b, 0, none⟩) ll.length lcap] w (Taken ll B c p w) := by
  obtain ⟨n, hn⟩ : ∃ n, n = ll.length := ⟨_, rfl⟩
  rw [← hn] at h0 h1 ⊢
  have HN := Lib.hid hn; clear hn
  have HR := Lib.hid h; clear h
  have HL := Lib.hid hl; clear hl
  go_enter Try.func32, Try.ntmps32
  go_wp2_with fail
  refine (pick_any _ B c p _ HR.out hp (by omega)).mono ?_
  rintro e w1 ⟨v, rfl, hv0, hv1, -, hr, hg⟩
  have HR1 := Lib.hid hr; clear hr
  obtain ⟨j, rfl⟩ := Int.eq_ofNat_of_zero_le hv0
  have hj := hv1 (by omega)
  have hjn : j < n := by omega
  obtain ⟨x, hx⟩ : ∃ x, x = ll[j]?.getD 0 := ⟨_, rfl⟩
  have hcell : w1.cell? ⟨b, j, none⟩ = some (.int .i64 x) := by
    rw [hx]
    exact (World.cell?_of_block (hg.block b HL.out.1 (fun e => hbc (Option.some.inj e)))).trans (HL.out.2 j (by have := HN.out; omega))
  have hmem : x ∈ ll := by
    rw [hx, List.getElem?_eq_getElem (by have := HN.out; omega)]; exact List.getElem_mem _
  clear hx hv1
  have HG := Lib.hid hg; clear hg
  go_wp2
  go_returns
  exact ⟨x, rfl, hmem, HR1.out, HG.out⟩
end Go.Proofs.Ytofpnmjadflebaa

/-
  Kinds that the model draws.
-/
namespace Go.Proofs.Ytofpnmjadflebaa
set_option linter.unusedSimpArgs false
set_option linter.unusedVariables false
open Go.RowKit

theorem ListAt.new (w : World) (ll : List Int) (T : TypeId) : ListAt (w.alloc (.cells (ll.map (Value.int .i64)).toArray T)) w.heap.size ll := by
  refine ⟨by simp, fun i hi => ?_⟩
  simp [World.cell?_alloc_new, hi]
theorem ListAt.kept {w w' : World} {b c : Nat} {ll : List Int} (h : ListAt w b ll) (hg : w.grownBy w' (some c)) (hbc : b ≠ c) : ListAt w' b ll :=
  ⟨Nat.lt_of_lt_of_le h.1 hg.size, fun i hi => (World.cell?_of_block (hg.block b h.1 (fun e => hbc (Option.some.inj e)))).trans (h.2 i hi)⟩

/-- A number is drawn: one of a kind's; the reader is some steps further, at most m. -/
def Drawn (P : Int → Prop) (m : Int) (B c : Nat) (p : Int) (w : World) (e : Ending) (w' : World) : Prop :=
  ∃ v p' : Int, e = .returned (.int .i64 v) ∧ P v ∧ p ≤ p' ∧ p' ≤ p + m ∧ Rd w' B c p' ∧ w.grownBy w' (some c)

theorem l1Kind_any (B c : Nat) (p : Int) (w : World) (h : Rd w B c p) (hp : p ≤ 1000000) :
    Calls Try.prog 44 #[.pointer (some ⟨c, 0, none⟩)] w (Drawn (fun k => 1 ≤ k ∧ k ≤ 10) 1 B c p w) := by
  have hlt := h.2.1
  have HR := Lib.hid h; clear h
  go_enter Try.func44, Try.ntmps44
  go_wp2_with fail
  refine (num_any w.heap.size 10 [8, 9, 10, 1, 7, 4, 3, 5, 6, 2] B c p _ (HR.out.kept (World.grownBy_alloc _ _ _)) hp (ListAt.new w [8, 9, 10, 1, 7, 4, 3, 5, 6, 2] _) (by omega) (by decide) (by decide)).mono ?_
  rintro e w1 ⟨v, rfl, hv, hr, hg⟩
  have HR1 := Lib.hid hr; clear hr
  have HV := Lib.hid hv; clear hv
  have HG := Lib.hid (grown_trans (grown_alloc (grown_refl w c) _) hg); clear hg
  go_wp2
  go_returns
  refine ⟨v, p + 1, rfl, ?_, by omega, by omega, HR1.out, HG.out⟩
  have := HV.out
  simp only [List.mem_cons, List.not_mem_nil, or_false] at this
  omega

set_option maxHeartbeats 1000000 in
theorem l1Wrong_any (k : Int) (B c : Nat) (p : Int) (w : World) (h : Rd w B c p) (hp : p ≤ 900000) :
    Calls Try.prog 43 #[.pointer (some ⟨c, 0, none⟩), .int .i64 k] w (Drawn (fun v => v = k ∨ v = 0 ∨ v = 11 ∨ v = -1) 2 B c p w) := by
  have HR := Lib.hid h; clear h
  go_enter Try.func43, Try.ntmps43
  go_wp2_with fail
  refine (pick_any _ B c p _ HR.out (by omega) (by omega)).mono ?_
  rintro e w1 ⟨v, rfl, hv0, hv1, -, hr, hg⟩
  have hlt := hr.2.1
  have HR1 := Lib.hid hr; clear hr
  have HG := Lib.hid hg; clear hg
  clear hv1
  by_cases hz : v = 0
  · subst hz
    go_wp2_with fail
    refine (num_any w1.heap.size 3 [0, 11, -1] B c (p + 1) _ (HR1.out.kept (World.grownBy_alloc _ _ _)) (by omega) (ListAt.new w1 [0, 11, -1] _) (by omega) (by decide) (by decide)).mono ?_
    rintro e w2 ⟨u, rfl, hu, hr2, hg2⟩
    have HR2 := Lib.hid hr2; clear hr2
    have HU := Lib.hid hu; clear hu
    have HG2 := Lib.hid (grown_trans (grown_alloc HG.out _) hg2); clear hg2
    go_wp2
    go_returns
    refine ⟨u, p + 1 + 1, rfl, ?_, by omega, by omega, HR2.out, HG2.out⟩
    have := HU.out
    simp only [List.mem_cons, List.not_mem_nil, or_false] at this
    omega
  · go_wp2_with fail
    go_returns
    exact ⟨k, p + 1, rfl, .inl rfl, by omega, by omega, HR1.out, HG.out⟩

/-- A number is drawn out of bytes. -/
def DrawnNum (w : World) (e : Ending) (w' : World) : Prop := ∃ k : Int, e = .returned (.int .i64 k) ∧ Below w.heap.size w w'


end Go.Proofs.Ytofpnmjadflebaa

/-
  Lists of items that the model draws.
-/
namespace Go.Proofs.Ytofpnmjadflebaa
set_option linter.unusedSimpArgs false
set_option linter.unusedVariables false
open Go.RowKit

theorem Rd.kept' {w w' : World} {B c : Nat} {p : Int} {row : Option Nat} (h : Rd w B c p) (hg : w.grownBy w' row) (hr : ∀ k, row = some k → B ≤ k ∧ k ≠ c) : Rd w' B c p := by
  obtain ⟨h1, h2, h3, a, n, cap, l, h4, h5, h6⟩ := h
  refine ⟨h1, Nat.lt_of_lt_of_le h2 hg.size, h3, a, n, cap, l, (hg.block c h2 (fun e => (hr c e.symm).2 rfl)).trans h4, h5, ?_⟩
  rcases h6 with h6 | ⟨b, off, ha, hb, hc⟩
  · exact .inl h6
  · exact .inr ⟨b, off, ha, hb, fun i hi => ⟨(World.cell?_of_block (hg.block b (by omega) (fun e => by have := (hr b e.symm).1; omega))).trans (hc i hi).1, (hc i hi).2⟩⟩
theorem grown_new {a b d : World} {c : Nat} {row : Option Nat} (h : a.grownBy b (some c)) (k : b.grownBy d row) (hr : ∀ j, row = some j → a.heap.size ≤ j) : a.grownBy d (some c) :=
  ⟨k.os.trans h.os, k.tape.trans h.tape, k.output.trans h.output, Nat.le_trans h.size k.size, fun i hi hne => (k.block i (Nat.lt_of_lt_of_le hi h.size) (fun e => by have := hr i e.symm; omega)).trans (h.block i hi hne)⟩

/-- A list of items in new memory; the reader is some steps further. -/
def ListDrawn (most : Int) (B c : Nat) (p : Int) (w : World) (e : Ending) (w' : World) : Prop :=
  ∃ (v : Value) (n : Nat) (xs : List Int) (p' : Int), e = .returned v ∧ v ≠ .slice none 0 0 ∧ w'.ownsRow w.heap.size 3 1 v n (xs.map (Value.int .i64)) ∧ (n : Int) ≤ most ∧ (∀ x ∈ xs, 0 ≤ x ∧ x ≤ 96) ∧ p ≤ p' ∧ p' ≤ p + 1 + most ∧ Rd w' B c p' ∧ w.grownBy w' (some c)

set_option maxRecDepth 4000 in
set_option maxHeartbeats 2000000 in
theorem l1List_any (most : Int) (B c : Nat) (p : Int) (w : World) (h : Rd w B c p) (hp : p ≤ 900000) (hm0 : 0 ≤ most) (hm1 : most ≤ 100) :
    Calls Try.prog 45 #[.pointer (some ⟨c, 0, none⟩), .int .i64 most] w (ListDrawn most B c p w) := by
  obtain ⟨i0, hi, hz0, hz1, hz2⟩ := info_parts infoInt
  have hlt := h.2.1
  have hBc := h.1
  have HR := Lib.hid h; clear h
  go_enter Try.func45, Try.ntmps45
  go_wp2_with fail
  refine (pick_any _ B c p _ (HR.out.kept (World.grownBy_alloc _ _ _)) (by omega) (by omega)).mono ?_
  rintro e w1 ⟨m, rfl, hv0, hv1, -, hr, hg⟩
  have hmm := hv1 (by omega)
  have hown : w1.ownsRow w.heap.size 3 1 (.slice (some ⟨w.heap.size, 0, none⟩) 0 0) 0 (([] : List Int).map (Value.int .i64)) := by
    have h0 := World.ownsRow_made (base := w.heap.size) (e := 3) (size := 1) w #[] 0 (Nat.le_refl _) (by simp [maxLen]) (by simp)
    refine h0.kept (row := some c) hg (.inr ?_)
    intro e; simp [Value.ownBlock] at e; omega
  have HO := Lib.hid hown; clear hown
  have HR1 := Lib.hid hr; clear hr
  have HG := Lib.hid (grown_trans (grown_alloc (grown_refl w c) _) hg); clear hg
  clear hv1
  obtain ⟨mm, rfl⟩ := Int.eq_ofNat_of_zero_le hv0
  go_wp2
  go_loopw [5, 6] (fun ov i wr => ∃ (k n : Nat) (xs : List Int) (p' : Int), i = .int .i64 k ∧ ov ≠ .slice none 0 0 ∧ (n : Int) + k ≤ most ∧ Hid (wr.ownsRow w.heap.size 3 1 ov n (xs.map (Value.int .i64))) ∧ Hid (∀ x ∈ xs, 0 ≤ x ∧ x ≤ 96) ∧ p ≤ p' ∧ p' + k ≤ p + 1 + most ∧ Hid (Rd wr B c p') ∧ Hid (w.grownBy wr (some c))) (fun _ i _ => (intOf i).toNat)
  case atStart => exact ⟨mm, 0, [], p + 1, rfl, by simp, by omega, HO, by show ∀ x ∈ ([] : List Int), _; simp, by omega, by omega, HR1, HG⟩
  case round =>
    obtain ⟨k, n, xs, p', rfl, hov, hnk, ho, hxs, hpp, hpk, hr, hg⟩ := hrel
    have hwr := hg.out.size
    have hwn := hg.out.size
    by_cases hk : k = 0
    · subst hk
      go_wp2
      go_returns
      exact ⟨u5, n, xs, p', rfl, hov, ho.out, by omega, hxs.out, hpp, by omega, hr.out, hg.out⟩
    · go_wp2_with fail
      refine (num_any wr.heap.size 8 [3, 1, 0, 96, 7, 50, 2, 20] B c p' _ (hr.out.kept (World.grownBy_alloc _ _ _)) (by omega) (ListAt.new wr [3, 1, 0, 96, 7, 50, 2, 20] _) (by omega) (by decide) (by decide)).mono ?_
      rintro e w2 ⟨x, rfl, hx, hr2, hg2⟩
      have hx2 : 0 ≤ x ∧ x ≤ 96 := by simp at hx; omega
      have hs2 := hg2.size
      simp at hs2
      have hlt' : ∀ j, u5.ownBlock = some j → w.heap.size ≤ j := fun j hj => (ho.out.lt j hj).1
      have ho2 := (ho.out.alloc _).kept hg2 (.inr (fun e => by have := hlt' c e; omega))
      have HO2 := Lib.hid ho2; clear ho2
      have HR2 := Lib.hid hr2; clear hr2
      have HG2 := Lib.hid hg2; clear hg2
      go_wp2_with (at_builtin; refine wpList_append_own _ rfl (.tmp 16) (.tmp 20) 35 rfl w.heap.size 3 i0 (.int .i64 0) 1 8 Try.underlying35 hi hz0 hz1 hz2 rfl (by decide) _ _ _ rfl (HO2.out.alloc _) ⟨w2.heap.size, 0, none⟩ 1 1 [.int .i64 x] rfl rfl (cell_one_new _ _ _) (ints_oneCell .i64 [x]) (by unfold maxLen; omega) (by omega) (by simp; omega) ?_; intro v' w3 hown3 hgrow3 hnil3)
      go_roundw
      case rel =>
        have hs3 := hgrow3.size
        simp at hs3
        refine ⟨k - 1, n + 1, xs ++ [x], p' + 1, by go_num, fun hh => hov (hnil3.1 hh).1, by omega, ?_, ?_, by omega, by omega, ?_, ?_⟩
        · exact Lib.hid (by simpa using hown3)
        · refine Lib.hid (fun y hy => ?_)
          rcases List.mem_append.1 hy with hy | hy
          · exact hxs.out y hy
          · have := List.mem_singleton.1 hy; subst this; exact hx2
        · exact Lib.hid ((HR2.out.kept (World.grownBy_alloc _ _ _)).kept' hgrow3 (fun j hj => by have := hlt' j hj; omega))
        · exact Lib.hid (grown_new (grown_alloc (grown_trans (grown_alloc hg.out _) HG2.out) _) hgrow3 hlt')
      case measure => simp [intOf]; omega
end Go.Proofs.Ytofpnmjadflebaa

/-
  Changes that the model draws.
-/
namespace Go.Proofs.Ytofpnmjadflebaa
end Go.Proofs.Ytofpnmjadflebaa

/-
  Changes that the model bends; cases of a kind and changes.
-/
namespace Go.Proofs.Ytofpnmjadflebaa
end Go.Proofs.Ytofpnmjadflebaa
