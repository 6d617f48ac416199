import Derived.Test.YtolgclajlklmaaaGreat3e
import Derived.Test.YtolgclajlklmaaaGreatTa
import Derived.Deep.RegionHeld3
import Derived.Deep.Cut
import Derived.Deep.DeepMust
import Derived.Test.YtolgclajlklmaaaGreatTb
namespace Go.Proofs.YtolgclajlklmaaaGreat
set_option linter.unusedSimpArgs false
set_option linter.unusedVariables false
open Go.RowKit
def flat (C : Nat → List Value) (n : Nat) : List Value := (List.range n).flatMap C
theorem flat_zero (C : Nat → List Value) : flat C 0 = [] := rfl
theorem flat_succ (C : Nat → List Value) (n : Nat) : flat C (n + 1) = flat C n ++ C n := by simp [flat, List.range_succ]
theorem flat_congr {C D : Nat → List Value} : ∀ {n : Nat}, (∀ i, i < n → C i = D i) → flat C n = flat D n
  | 0, _ => rfl
  | n + 1, h => by rw [flat_succ, flat_succ, flat_congr (fun i hi => h i (by omega)), h n (by omega)]
theorem flat_len {C : Nat → List Value} {sz : Nat} : ∀ {n : Nat}, (∀ i, i < n → (C i).length = sz) → (flat C n).length = n * sz
  | 0, _ => by simp [flat]
  | n + 1, h => by rw [flat_succ, List.length_append, flat_len (fun i hi => h i (by omega)), h n (by omega), Nat.add_mul, Nat.one_mul]
theorem flat_at {C : Nat → List Value} {sz : Nat} : ∀ {n : Nat}, (∀ i, i < n → (C i).length = sz) → ∀ i c, i < n → c < sz → (flat C n)[i * sz + c]? = (C i)[c]?
  | 0, _, i, c, hi, hc => by omega
  | n + 1, h, i, c, hi, hc => by
    have hl := flat_len (C := C) (sz := sz) (n := n) (fun i hi => h i (by omega))
    rw [flat_succ]
    by_cases hin : i < n
    · have h1 : i * sz + c < n * sz := by
        have := Nat.mul_le_mul_right sz (show i + 1 ≤ n by omega)
        rw [Nat.add_mul, Nat.one_mul] at this
        omega
      rw [List.getElem?_append_left (by omega)]
      exact flat_at (fun i hi => h i (by omega)) i c hin hc
    · obtain rfl : i = n := by omega
      rw [List.getElem?_append_right (by omega), hl]
      congr 1
      omega
theorem flat_put (C : Nat → List Value) (L : List Value) (n : Nat) : flat (fun i => if i = n then L else C i) (n + 1) = flat C n ++ L := by
  rw [flat_succ]
  congr 1
  · exact flat_congr (fun i hi => by simp [show i ≠ n by omega])
  · simp
theorem own_cells {w : World} {base e size n : Nat} {v : Value} {xs : List Value} (h : w.ownsRow base e size v n xs) (hn : 0 < n) :
    ∃ g cap, v = .slice (some ⟨g, 0, none⟩) n cap ∧ base ≤ g ∧ g < w.heap.size ∧ n ≤ cap ∧ cap ≤ 9223372036854775807 ∧ ∀ j, j < n * size → w.cell? ⟨g, j, none⟩ = xs[j]? := by
  rcases h.2 with ⟨rfl, rfl⟩ | ⟨g, cap, cur, rfl, hb, hg, h1, h2, h3, h4⟩
  · omega
  · refine ⟨g, cap, rfl, hb, (Array.getElem?_eq_some_iff.1 hg).1, h1, by unfold maxLen at h2; omega, fun j hj => ?_⟩
    have : cur[j]? = xs[j]? := by
      rw [← h4, List.getElem?_take, if_pos hj, Array.getElem?_toList]
    simp [World.cell?, hg, this]
theorem set_grown (w : World) (c o : Nat) (u : Value) : w.grownBy (w.setCell ⟨c, o, none⟩ u) (some c) := ⟨rfl, rfl, rfl, by simp [World.setCell], fun k hk hne => Below.heap_setCell _ _ _ _ (fun e => hne (by rw [e]))⟩
theorem OwnR.put {w : World} {lo hi n c o : Nat} {v u : Value} {l : List Int} (h : OwnR w lo hi v n l) (hc : c < lo) : OwnR (w.setCell ⟨c, o, none⟩ u) lo hi v n l := h.set (.inl hc)
theorem OwnV.put {w : World} {lo hi n c o : Nat} {v u : Value} {l : List Agg.V} (h : OwnV w lo hi v n l) (hc : c < lo) : OwnV (w.setCell ⟨c, o, none⟩ u) lo hi v n l := h.set (.inl hc)
theorem own_hiR {w : World} {lo hi n : Nat} {v : Value} {l : List Int} (h : OwnR w lo hi v n l) : hi ≤ w.heap.size := h.2.2.1
theorem own_hiV {w : World} {lo hi n : Nat} {v : Value} {l : List Agg.V} (h : OwnV w lo hi v n l) : hi ≤ w.heap.size := h.2.2.1
theorem own_lit {w : World} {base n size : Nat} {e : TypeId} (cur : Array Value) (hb : base ≤ w.heap.size) (hm : n ≤ maxLen) (hs : cur.size = n * size) : (w.alloc (.cells cur e)).ownsRow base e size (.slice (some ⟨w.heap.size, 0, none⟩) n n) n cur.toList :=
  ⟨by simpa using hs, .inr ⟨w.heap.size, n, cur, rfl, hb, heap_alloc_new w _, Nat.le_refl _, hm, hs, List.take_of_length_le (by rw [Array.length_toList, hs]; exact Nat.le_refl _)⟩⟩
def stkCells (fv iv : Value) (s : Agg.S) : List Value := [fv, iv, .int .i64 s.back.x, .int .i64 s.back.y, .int .i64 s.back.z, .int .i64 s.flips, .int .i64 s.cost]
def StkRow (w : World) (base lo0 c : Nat) (v : Value) (n : Nat) (S : Nat → Agg.S) : Prop :=
  ∃ C : Nat → List Value, w.ownsRow base 42 7 v n (flat C n) ∧ ∀ i, i < n → ∃ fv iv lo hi, C i = stkCells fv iv (S i) ∧ OwnV w lo hi fv (S i).front.length (S i).front ∧ OwnR w lo hi iv (S i).items.length (S i).items ∧ lo0 ≤ lo ∧ (∀ g, v.ownBlock = some g → g < lo ∨ hi ≤ g) ∧ (c < lo ∨ hi ≤ c)
theorem StkRow.below {w w' : World} {base lo0 c n : Nat} {v : Value} {S : Nat → Agg.S} (h : StkRow w base lo0 c v n S) (hb : Below w.heap.size w w') : StkRow w' base lo0 c v n S := by
  obtain ⟨C, h1, h2⟩ := h
  refine ⟨C, h1.kept (Below.grownNone hb none) (by cases hv : v.ownBlock <;> simp), fun i hi => ?_⟩
  obtain ⟨fv, iv, lo, hi', e, a, b, d⟩ := h2 i hi
  exact ⟨fv, iv, lo, hi', e, a.below hb, b.below hb, d⟩
theorem StkRow.lower {w : World} {base base' lo0 lo0' c n : Nat} {v : Value} {S : Nat → Agg.S} (h : StkRow w base lo0 c v n S) (h1 : base' ≤ base) (h2 : lo0' ≤ lo0) : StkRow w base' lo0' c v n S := by
  obtain ⟨C, g1, g2⟩ := h
  refine ⟨C, owns_lower g1 h1, fun i hi => ?_⟩
  obtain ⟨fv, iv, lo, hi', e, a, b, d1, d2⟩ := g2 i hi
  exact ⟨fv, iv, lo, hi', e, a, b, by omega, d2⟩
theorem StkRow.set {w : World} {base lo0 c o n : Nat} {u v : Value} {S : Nat → Agg.S} (h : StkRow w base lo0 c v n S) (hc : c < base) : StkRow (w.setCell ⟨c, o, none⟩ u) base lo0 c v n S := by
  obtain ⟨C, g1, g2⟩ := h
  refine ⟨C, g1.kept (row := some c) ⟨rfl, rfl, rfl, by simp [World.setCell], fun k hk hne => Below.heap_setCell _ _ _ _ (fun e => hne (by rw [e]))⟩ ?_, fun i hi => ?_⟩
  · cases hv : v.ownBlock with
    | none => exact .inl rfl
    | some g => exact .inr (fun e => by have := (g1.lt g hv).1; have := Option.some.inj e; omega)
  · obtain ⟨fv, iv, lo, hi', e, a, b, d1, d2, d3⟩ := g2 i hi
    exact ⟨fv, iv, lo, hi', e, a.set d3, b.set d3, d1, d2, d3⟩
def StksAt (w : World) (a : Option Addr) (n cap : Nat) (S : Nat → Agg.S) : Prop :=
  n ≤ cap ∧ cap ≤ 9223372036854775807 ∧ (n = 0 ∨ ∃ b off, a = some ⟨b, off, none⟩ ∧ b < w.heap.size ∧ ∀ i, i < n → ∃ fa fc ia ic, (w.cell? ⟨b, off + i * 7, none⟩ = some (.slice fa (S i).front.length fc) ∧ w.cell? ⟨b, off + i * 7 + 1, none⟩ = some (.slice ia (S i).items.length ic) ∧ w.cell? ⟨b, off + i * 7 + 2, none⟩ = some (.int .i64 (S i).back.x) ∧ w.cell? ⟨b, off + i * 7 + 3, none⟩ = some (.int .i64 (S i).back.y) ∧ w.cell? ⟨b, off + i * 7 + 4, none⟩ = some (.int .i64 (S i).back.z) ∧ w.cell? ⟨b, off + i * 7 + 5, none⟩ = some (.int .i64 (S i).flips) ∧ w.cell? ⟨b, off + i * 7 + 6, none⟩ = some (.int .i64 (S i).cost)) ∧ Vals w fa (S i).front.length fc (S i).front ∧ Nums .i64 w ia (S i).items.length ic (S i).items)
theorem StksAt.below {w w' : World} {a : Option Addr} {n cap : Nat} {S : Nat → Agg.S} (h : StksAt w a n cap S) (hb : Below w.heap.size w w') : StksAt w' a n cap S := by
  obtain ⟨h1, h2, h3⟩ := h
  refine ⟨h1, h2, ?_⟩
  rcases h3 with h3 | ⟨b, off, ha, hlt, hc⟩
  · exact .inl h3
  · refine .inr ⟨b, off, ha, Nat.lt_of_lt_of_le hlt hb.size, fun i hi => ?_⟩
    obtain ⟨fa, fc, ia, ic, ⟨c0, c1, c2, c3, c4, c5, c6⟩, hV, hN⟩ := hc i hi
    have k := fun o => hb.cell (p := ⟨b, o, none⟩) hlt
    exact ⟨fa, fc, ia, ic, ⟨(k _).trans c0, (k _).trans c1, (k _).trans c2, (k _).trans c3, (k _).trans c4, (k _).trans c5, (k _).trans c6⟩, hV.below hb, hN.below hb⟩
theorem StkRow.read {w : World} {base lo0 c n : Nat} {v : Value} {S : Nat → Agg.S} (h : StkRow w base lo0 c v n S) (hn : 0 < n) :
    ∃ g cap, v = .slice (some ⟨g, 0, none⟩) n cap ∧ base ≤ g ∧ g < w.heap.size ∧ n ≤ cap ∧ cap ≤ 9223372036854775807 ∧ ∀ i, i ≤ n → StksAt w (some ⟨g, i * 7, none⟩) (n - i) (cap - i) (fun j => S (i + j)) := by
  obtain ⟨C, h1, h2⟩ := h
  obtain ⟨g, cap, rfl, hb, hg, hnc, hcm, hcell⟩ := own_cells h1 hn
  refine ⟨g, cap, rfl, hb, hg, hnc, hcm, fun i hi => ⟨by omega, by omega, .inr ⟨g, i * 7, rfl, hg, fun j hj => ?_⟩⟩⟩
  have hlen : ∀ q, q < n → (C q).length = 7 := fun q hq => by
    obtain ⟨fv, iv, lo, hi', e, -⟩ := h2 q hq
    rw [e]; rfl
  obtain ⟨fv, iv, lo, hi', e, hV, hR, -⟩ := h2 (i + j) (by omega)
  obtain ⟨fa, fc, rfl, hV2⟩ := hV.vals
  obtain ⟨ia, ic, rfl, hR2, -⟩ := hR.nums
  have hc : ∀ c, c < 7 → w.cell? ⟨g, i * 7 + j * 7 + c, none⟩ = (C (i + j))[c]? := fun c hc => by
    rw [hcell _ (by omega), show i * 7 + j * 7 + c = (i + j) * 7 + c by omega]
    exact flat_at hlen _ _ (by omega) hc
  refine ⟨fa, fc, ia, ic, ⟨?_, ?_, ?_, ?_, ?_, ?_, ?_⟩, hV2, hR2⟩
  · have := hc 0 (by omega); rw [e] at this; exact this
  · have := hc 1 (by omega); rw [e] at this; exact this
  · have := hc 2 (by omega); rw [e] at this; exact this
  · have := hc 3 (by omega); rw [e] at this; exact this
  · have := hc 4 (by omega); rw [e] at this; exact this
  · have := hc 5 (by omega); rw [e] at this; exact this
  · have := hc 6 (by omega); rw [e] at this; exact this
theorem StkRow.own {w : World} {base lo0 c n : Nat} {v : Value} {S : Nat → Agg.S} (h : StkRow w base lo0 c v n S) {i : Nat} (hi : i < n) :
    ∃ g cap fv iv, v = .slice (some ⟨g, 0, none⟩) n cap ∧ (w.cell? ⟨g, i * 7, none⟩ = some fv ∧ w.cell? ⟨g, i * 7 + 1, none⟩ = some iv ∧ w.cell? ⟨g, i * 7 + 2, none⟩ = some (.int .i64 (S i).back.x) ∧ w.cell? ⟨g, i * 7 + 3, none⟩ = some (.int .i64 (S i).back.y) ∧ w.cell? ⟨g, i * 7 + 4, none⟩ = some (.int .i64 (S i).back.z) ∧ w.cell? ⟨g, i * 7 + 5, none⟩ = some (.int .i64 (S i).flips) ∧ w.cell? ⟨g, i * 7 + 6, none⟩ = some (.int .i64 (S i).cost)) ∧ StkOwn w lo0 w.heap.size (.agg #[fv, iv, .int .i64 (S i).back.x, .int .i64 (S i).back.y, .int .i64 (S i).back.z, .int .i64 (S i).flips, .int .i64 (S i).cost]) (S i) := by
  obtain ⟨C, h1, h2⟩ := h
  obtain ⟨g, cap, rfl, hb, hg, hnc, hcm, hcell⟩ := own_cells h1 (by omega)
  have hlen : ∀ q, q < n → (C q).length = 7 := fun q hq => by
    obtain ⟨fv, iv, lo, hi', e, -⟩ := h2 q hq
    rw [e]; rfl
  obtain ⟨fv, iv, lo, hi', e, hV, hR, hlo, -⟩ := h2 i hi
  have hc : ∀ c, c < 7 → w.cell? ⟨g, i * 7 + c, none⟩ = (C i)[c]? := fun c hc => by
    rw [hcell _ (by omega)]
    exact flat_at hlen _ _ (by omega) hc
  refine ⟨g, cap, fv, iv, rfl, ⟨?_, ?_, ?_, ?_, ?_, ?_, ?_⟩, fv, iv, rfl, hV.wide hlo (hV.2.2.1) (Nat.le_refl _), hR.wide hlo (hR.2.2.1) (Nat.le_refl _)⟩
  · have := hc 0 (by omega); rw [e] at this; exact this
  · have := hc 1 (by omega); rw [e] at this; exact this
  · have := hc 2 (by omega); rw [e] at this; exact this
  · have := hc 3 (by omega); rw [e] at this; exact this
  · have := hc 4 (by omega); rw [e] at this; exact this
  · have := hc 5 (by omega); rw [e] at this; exact this
  · have := hc 6 (by omega); rw [e] at this; exact this
theorem StkRow.more {w w1 w2 : World} {base lo0 c n lo hi : Nat} {v v' fv iv : Value} {S : Nat → Agg.S} {C : Nat → List Value}
    (h2 : ∀ i, i < n → ∃ fv iv lo hi, C i = stkCells fv iv (S i) ∧ OwnV w lo hi fv (S i).front.length (S i).front ∧ OwnR w lo hi iv (S i).items.length (S i).items ∧ lo0 ≤ lo ∧ (∀ g, v.ownBlock = some g → g < lo ∨ hi ≤ g) ∧ (c < lo ∨ hi ≤ c))
    (hb : Below w.heap.size w w1) (hV : OwnV w1 lo hi fv (S n).front.length (S n).front) (hR : OwnR w1 lo hi iv (S n).items.length (S n).items) (hlo : lo0 ≤ lo) (hnew : ∀ g, v.ownBlock = some g → g < lo ∨ hi ≤ g) (hcc : c < lo ∨ hi ≤ c)
    (hg : w1.grownBy w2 v.ownBlock) (hown : w2.ownsRow base 42 7 v' (n + 1) (flat C n ++ stkCells fv iv (S n))) (hwh : v'.ownBlock = v.ownBlock ∨ ∃ g, v'.ownBlock = some g ∧ w1.heap.size ≤ g) : StkRow w2 base lo0 c v' (n + 1) S := by
  refine ⟨fun i => if i = n then stkCells fv iv (S n) else C i, by rw [flat_put]; exact hown, fun i hi => ?_⟩
  have hout : ∀ {lo hi : Nat}, hi ≤ w1.heap.size → (∀ g, v.ownBlock = some g → g < lo ∨ hi ≤ g) → ∀ g, v'.ownBlock = some g → g < lo ∨ hi ≤ g := fun hle hh g hgv => by
    rcases hwh with e | ⟨g', e, hge⟩
    · exact hh g (e ▸ hgv)
    · rw [e] at hgv
      obtain rfl := Option.some.inj hgv
      exact .inr (by omega)
  by_cases hin : i = n
  · subst hin
    exact ⟨fv, iv, lo, _, by simp, hV.kept hg hnew, hR.kept hg hnew, hlo, hout hV.2.2.1 hnew, hcc⟩
  · obtain ⟨fv', iv', lo', hi', e, a, b, d0, d, d3⟩ := h2 i (by omega)
    have a' := a.below hb
    have b' := b.below hb
    exact ⟨fv', iv', lo', hi', by simp [hin, e], a'.kept hg d, b'.kept hg d, d0, hout a'.2.2.1 d, d3⟩
end Go.Proofs.YtolgclajlklmaaaGreat

namespace Go.Proofs.YtolgclajlklmaaaGreat
set_option linter.unusedSimpArgs false
set_option linter.unusedVariables false
open Go.RowKit
theorem Box7.news {w : World} {c : Nat} {T : TypeId} {v0 v1 v2 v3 v4 v5 v6 : Value} (h : Box7 w c T v0 v1 v2 v3 v4 v5 v6) : ∀ j u, [v0, v1, v2, v3, v4, v5, v6][j]? = some u → w.cell? ((⟨c, 0, none⟩ : Addr).add j) = some u := by
  obtain ⟨h0, h1, h2, h3, h4, h5, h6⟩ := h.cells
  intro j u hj
  rw [Addr.add_lit, Nat.zero_add]
  match j, hj with
  | 0, hj => simp at hj; subst hj; exact h0
  | 1, hj => simp at hj; subst hj; exact h1
  | 2, hj => simp at hj; subst hj; exact h2
  | 3, hj => simp at hj; subst hj; exact h3
  | 4, hj => simp at hj; subst hj; exact h4
  | 5, hj => simp at hj; subst hj; exact h5
  | 6, hj => simp at hj; subst hj; exact h6
  | j + 7, hj => simp at hj
def StkOut (b : Bool) (s : Agg.S) (w : World) (e : Ending) (w' : World) : Prop :=
  ∃ v, e = .returned (.tuple #[v, .bool b]) ∧ StkOwn w' w.heap.size w'.heap.size v s ∧ Below w.heap.size w w'
def StatesOut (b : Bool) (n : Nat) (S : Nat → Agg.S) (w : World) (e : Ending) (w' : World) : Prop :=
  ∃ v, e = .returned (.tuple #[v, .bool b]) ∧ (b = true → ∃ c, StkRow w' w.heap.size w.heap.size c v n S) ∧ Below w.heap.size w w'
theorem infoStk : (Tryz.prog.info? 42).map (fun i => (i.zero, i.size, i.bytes)) = some (some (.agg #[.slice none 0 0, .slice none 0 0, .int .i64 0, .int .i64 0, .int .i64 0, .int .i64 0, .int .i64 0]), 7, 88) := by kernel_rfl
set_option maxRecDepth 8000 in
set_option maxHeartbeats 4000000 in
theorem statesOf_stacks (k : Int) (f0 f1 : Nat) (c0 : ∀ args w, Sem.run Tryz.prog (Go.callFunc f0 args) w = .ok (.enter f0 args) w) (c1 : ∀ args w, Sem.run Tryz.prog (Go.callFunc f1 args) w = .ok (.enter f1 args) w)
    (kb : Bool) (S : Nat → Agg.S) (a : Option Addr) (n cap : Nat) (l : List (Bool × Int)) (w : World) (h : Ops w a n cap l)
    (hstart : ∀ w', Calls Tryz.prog f0 #[.int .i64 k] w' (StkOut kb (S 0) w'))
    (hstep : kb = true → Agg.opsOk l = true → ∀ j, j < n → ∀ w' fa fc ia ic, Vals w' fa (S j).front.length fc (S j).front → Nums .i64 w' ia (S j).items.length ic (S j).items →
      Calls Tryz.prog f1 #[.int .i64 k, .agg #[.slice fa (S j).front.length fc, .slice ia (S j).items.length ic, .int .i64 (S j).back.x, .int .i64 (S j).back.y, .int .i64 (S j).back.z, .int .i64 (S j).flips, .int .i64 (S j).cost], .agg #[.bool (Agg.opAt l j).1, .int .i64 (Agg.opAt l j).2]] w' (StkOut true (S (j + 1)) w')) :
    Calls Tryz.prog 51 #[.int .i64 k, .slice a n cap, .func (.func f0) #[] #[], .func (.func f1) #[] #[]] w (StatesOut (kb && Agg.opsOk l) (n + 1) S w) := by
  obtain ⟨i0, hi0, hz0, hz1, hz2⟩ := info_parts infoStk
  have hll : l.length = n := h.1
  have hnc : n ≤ cap := h.2.1
  have hcm : cap ≤ 9223372036854775807 := by have := h.2.2.1; unfold maxLen at this; omega
  have H0 := Lib.hid h
  have HLL := Lib.hid hll
  have HC0 := Lib.hid (hstart w)
  have HSTP := Lib.hid hstep
  clear h hll hstart hstep
  obtain ⟨lb, hlb⟩ : ∃ lb, lb = Agg.opsOk l := ⟨_, rfl⟩
  rw [← hlb]
  have HLB := Lib.hid hlb
  clear hlb
  go_enter Tryz.func51, Tryz.ntmps51
  go_wp2_with fail
  refine HC0.out.mono ?_
  rintro e w1 ⟨v1, rfl, hs1, hb1⟩
  obtain ⟨fv, iv, rfl, hV1, hR1⟩ := hs1
  obtain ⟨fa, fc, rfl, -⟩ := id hV1.vals
  obtain ⟨ia, ic, rfl, -, -⟩ := id hR1.nums
  obtain ⟨W2, hW2⟩ : ∃ W2, W2 = w1.alloc (.cells #[.slice fa (S 0).front.length fc, .slice ia (S 0).items.length ic, .int .i64 (S 0).back.x, .int .i64 (S 0).back.y, .int .i64 (S 0).back.z, .int .i64 (S 0).flips, .int .i64 (S 0).cost] 42) := ⟨_, rfl⟩
  have hbn : Below w1.heap.size w1 W2 := by rw [hW2]; exact (Below.refl _ _).alloc (Nat.le_refl _) _
  have HX2 := Lib.hid (show Box7 W2 w1.heap.size 42 (.slice fa (S 0).front.length fc) (.slice ia (S 0).items.length ic) (.int .i64 (S 0).back.x) (.int .i64 (S 0).back.y) (.int .i64 (S 0).back.z) (.int .i64 (S 0).flips) (.int .i64 (S 0).cost) from by rw [hW2]; exact Box7.new w1 _ _ _ _ _ _ _ _)
  have HB2 := Lib.hid (hb1.trans (hbn.mono hb1.size))
  have HV2 := Lib.hid (hV1.below hbn)
  have HR2 := Lib.hid (hR1.below hbn)
  have hsv1 : w.heap.size ≤ w1.heap.size := hb1.size
  clear hb1 hbn hV1 hR1
  go_upto_region 2 with (fail)
  rw [← hW2]
  clear hW2
  obtain ⟨sv, hsv⟩ : ∃ sv, sv = w1.heap.size := ⟨_, rfl⟩
  rw [← hsv] at HX2 HV2 HR2 hsv1 ⊢
  clear hsv
  cases kb
  · go_wp2
    go_returns
    exact ⟨_, rfl, (fun h => by simp at h), HB2.out⟩
  · go_wp2_with fail
    refine (opsValid_any a n cap l _ (H0.out.below HB2.out)).mono ?_
    rintro e w3 ⟨rfl, hb3⟩
    rw [← HLB.out]
    have HX3 := Lib.hid (HX2.out.call hb3)
    have HB3 := Lib.hid (HB2.out.trans (hb3.mono HB2.out.size))
    have HV3 := Lib.hid (HV2.out.below hb3)
    have HR3 := Lib.hid (HR2.out.below hb3)
    clear hb3 HX2 HB2 HV2 HR2 HC0
    cases lb
    · go_wp2
      go_returns
      exact ⟨_, rfl, (fun h => by simp at h), HB3.out⟩
    · have hops := HLB.out.symm
      have HSTJ := Lib.hid (HSTP.out (by first | rfl | trivial) hops)
      clear HSTP
      have hn2 : n ≤ 200 := by
        simp only [Agg.opsOk, Bool.and_eq_true, decide_eq_true_eq] at hops
        have := hops.1.1
        have := HLL.out
        omega
      have hlx := HX3.out.lt
      obtain ⟨q0, q1, q2, q3, q4, q5, q6⟩ := HX3.out.cells
      obtain ⟨W4, hW4⟩ : ∃ W4, W4 = w3.alloc (.cells #[.slice fa (S 0).front.length fc, .slice ia (S 0).items.length ic, .int .i64 (S 0).back.x, .int .i64 (S 0).back.y, .int .i64 (S 0).back.z, .int .i64 (S 0).flips, .int .i64 (S 0).cost] 42) := ⟨_, rfl⟩
      have hbn : Below w3.heap.size w3 W4 := by rw [hW4]; exact (Below.refl _ _).alloc (Nat.le_refl _) _
      have HX4 := Lib.hid (HX3.out.call hbn)
      have HB4 := Lib.hid (HB3.out.trans (hbn.mono HB3.out.size))
      have HS4 := Lib.hid (show StkRow W4 (sv + 1) w.heap.size sv (.slice (some ⟨w3.heap.size, 0, none⟩) 1 1) 1 S ∧ (∃ lo hi, OwnV W4 lo hi (.slice fa (S 0).front.length fc) (S 0).front.length (S 0).front ∧ OwnR W4 lo hi (.slice ia (S 0).items.length ic) (S 0).items.length (S 0).items ∧ (∀ g, (Value.slice (some ⟨w3.heap.size, 0, none⟩) 1 1).ownBlock = some g → g < lo ∨ hi ≤ g)) from by
        have hVV := HV3.out.below hbn
        have hRR := HR3.out.below hbn
        have hgg : ∀ g, (Value.slice (some ⟨w3.heap.size, 0, none⟩) 1 1).ownBlock = some g → g < w.heap.size ∨ sv ≤ g := fun g hg => by
          simp only [Value.ownBlock, Option.some.injEq] at hg
          exact .inr (by omega)
        refine ⟨⟨fun _ => stkCells (.slice fa (S 0).front.length fc) (.slice ia (S 0).items.length ic) (S 0), ?_, fun i hi => ?_⟩, w.heap.size, sv, hVV, hRR, hgg⟩
        · rw [hW4]
          have := own_lit (w := w3) (base := sv + 1) (n := 1) (size := 7) (e := 42) #[.slice fa (S 0).front.length fc, .slice ia (S 0).items.length ic, .int .i64 (S 0).back.x, .int .i64 (S 0).back.y, .int .i64 (S 0).back.z, .int .i64 (S 0).flips, .int .i64 (S 0).cost] (by omega) (by simp [maxLen]) (by simp)
          simpa [flat, stkCells] using this
        · obtain rfl : i = 0 := by omega
          exact ⟨_, _, w.heap.size, sv, rfl, hVV, hRR, Nat.le_refl _, hgg, .inr (Nat.le_refl _)⟩)
      clear hbn HX3 HB3 HV3 HR3 hops
      go_upto_region 5 with (fail)
      rw [← hW4]
      obtain ⟨rv, hrv⟩ : ∃ rv, rv = Value.slice (some ⟨w3.heap.size, 0, none⟩) 1 1 := ⟨_, rfl⟩
      rw [← hrv] at HS4 ⊢
      clear hW4 hrv q0 q1 q2 q3 q4 q5 q6
      go_wp2_with fail
      go_loopw [12, 32] (fun ov i wr => ∃ (j lo hi : Nat) (fa : Option Addr) (fc : Nat) (ia : Option Addr) (ic : Nat), j ≤ n ∧ i = .int .i64 j ∧ Hid (StkRow wr (sv + 1) w.heap.size sv ov (j + 1) S) ∧ Hid (Box7 wr sv 42 (.slice fa (S j).front.length fc) (.slice ia (S j).items.length ic) (.int .i64 (S j).back.x) (.int .i64 (S j).back.y) (.int .i64 (S j).back.z) (.int .i64 (S j).flips) (.int .i64 (S j).cost)) ∧ Hid (OwnV wr lo hi (.slice fa (S j).front.length fc) (S j).front.length (S j).front ∧ OwnR wr lo hi (.slice ia (S j).items.length ic) (S j).items.length (S j).items) ∧ Hid (Below w.heap.size w wr)) (fun _ i _ => n - (intOf i).toNat)
      case atStart =>
        obtain ⟨hs4, lo4, hi4, hV4, hR4, -⟩ := HS4.out
        exact ⟨0, lo4, hi4, fa, fc, ia, ic, Nat.zero_le _, rfl, Lib.hid hs4, HX4, Lib.hid ⟨hV4, hR4⟩, HB4⟩
      case round =>
        clear HX4 HB4 HS4
        obtain ⟨j, lo, hi, ga, gc, ja, jc, hj, rfl, ho, hx, hrows, hw⟩ := hrel
        have hwr := hw.out.size
        have hxl := hx.out.lt
        by_cases hlt : j < n
        · rcases H0.out.2.2.2 with h4 | ⟨b, off, rfl, hbl, hcs⟩
          · omega
          · have hc0 := (hcs j hlt).1
            have hd0 := (hcs j hlt).2
            clear hcs
            have hV := hrows.out.1.vals
            obtain ⟨a1, b1, e1, hF⟩ := hV
            simp only [Value.slice.injEq, true_and] at e1
            obtain ⟨rfl, rfl⟩ := e1
            obtain ⟨a1, b1, e1, hI, -⟩ := hrows.out.2.nums
            simp only [Value.slice.injEq, true_and] at e1
            obtain ⟨rfl, rfl⟩ := e1
            have HF := Lib.hid hF
            have HI := Lib.hid hI
            clear hF hI
            have hst := HSTJ.out j hlt
            have hopat : Agg.opAt l j = l[j]?.getD (false, 0) := rfl
            obtain ⟨⟨p, x⟩, hpx⟩ : ∃ o, o = Agg.opAt l j := ⟨_, rfl⟩
            rw [← hopat, ← hpx] at hc0 hd0
            rw [← hpx] at hst
            obtain ⟨S1, hS1⟩ : ∃ S1, S1 = S (j + 1) := ⟨_, rfl⟩
            rw [← hS1] at hst
            obtain ⟨S0, hS0⟩ : ∃ S0, S0 = S j := ⟨_, rfl⟩
            rw [← hS0] at hst HF HI hx hrows
            obtain ⟨F, I, ⟨bx, by', bz⟩, fl, co⟩ := S0
            simp only at hst HF HI hx hrows
            have HST := Lib.hid hst
            have HS1 := Lib.hid hS1
            have hk0 : (0 : Int) ≤ (j : Int) := Int.natCast_nonneg _
            have hkn : (j : Int) < (n : Int) := by omega
            have hck := (hw.out.cell (p := ⟨b, off + j * 2, none⟩) hbl).trans hc0
            have hcl := (hw.out.cell (p := ⟨b, off + j * 2 + 1, none⟩) hbl).trans hd0
            obtain ⟨W5, hW5⟩ : ∃ W5, W5 = wr.alloc (.cells #[.bool p, .int .i64 x] 76) := ⟨_, rfl⟩
            have hbn : Below wr.heap.size wr W5 := by rw [hW5]; exact (Below.refl _ _).alloc (Nat.le_refl _) _
            have hnew : W5.heap[wr.heap.size]? = some (.cells #[.bool p, .int .i64 x] 76 (0, 0)) := by rw [hW5]; exact heap_alloc_new wr _
            have p0 : W5.cell? ⟨wr.heap.size, 0, none⟩ = some (.bool p) := by simp [World.cell?, hnew]
            have p1 : W5.cell? ⟨wr.heap.size, 1, none⟩ = some (.int .i64 x) := by simp [World.cell?, hnew]
            have HX5 := Lib.hid (hx.out.call hbn)
            have HO5 := Lib.hid (ho.out.below hbn)
            have HF5 := Lib.hid (HF.out.below hbn)
            have HI5 := Lib.hid (HI.out.below hbn)
            have HB5 := Lib.hid (hw.out.trans (hbn.mono hwr))
            have hs5 : wr.heap.size ≤ W5.heap.size := hbn.size
            have HLT := Lib.hid (show ∀ g, u12.ownBlock = some g → sv < g ∧ g < W5.heap.size from fun g hg => by
              obtain ⟨C, g1, -⟩ := ho.out
              have := g1.lt g hg
              omega)
            clear hbn hnew hst hopat hpx hc0 hd0 hS0 hS1 HF HI hrows
            go_upto_region 8 with (fail)
            rw [← hW5]
            clear hW5
            obtain ⟨q0, q1, q2, q3, q4, q5, q6⟩ := HX5.out.cells
            go_wp2_with fail
            refine (HST.out _ _ _ _ _ HF5.out HI5.out).mono ?_
            rintro e w6 ⟨v6, rfl, hs6, hb6⟩
            obtain ⟨fv6, iv6, rfl, hV6, hR6⟩ := hs6
            obtain ⟨na, nc, rfl, -⟩ := id hV6.vals
            obtain ⟨ma, mc, rfl, -, -⟩ := id hR6.nums
            have HX6 := Lib.hid (HX5.out.call hb6)
            have HO6 := Lib.hid (HO5.out.below hb6)
            have HB6 := Lib.hid (HB5.out.trans (hb6.mono HB5.out.size))
            have hs6 : W5.heap.size ≤ w6.heap.size := hb6.size
            clear hb6 q0 q1 q2 q3 q4 q5 q6 p0 p1 HX5 HO5 HB5 HF5 HI5
            obtain ⟨X6, hX6⟩ : ∃ X6, X6 = (((((((w6.setCell ⟨sv, 0, none⟩ (.slice na S1.front.length nc)).setCell ⟨sv, 1, none⟩ (.slice ma S1.items.length mc)).setCell ⟨sv, 2, none⟩ (.int .i64 S1.back.x)).setCell ⟨sv, 3, none⟩ (.int .i64 S1.back.y)).setCell ⟨sv, 4, none⟩ (.int .i64 S1.back.z)).setCell ⟨sv, 5, none⟩ (.int .i64 S1.flips)).setCell ⟨sv, 6, none⟩ (.int .i64 S1.cost)) := ⟨_, rfl⟩
            have hsz : w6.heap.size ≤ X6.heap.size := by rw [hX6]; simp [World.setCell]
            have hwr5 : sv < W5.heap.size := by omega
            have HX7 := Lib.hid (show Box7 X6 sv 42 (.slice na S1.front.length nc) (.slice ma S1.items.length mc) (.int .i64 S1.back.x) (.int .i64 S1.back.y) (.int .i64 S1.back.z) (.int .i64 S1.flips) (.int .i64 S1.cost) from by rw [hX6]; exact ((((((HX6.out.set0 _).set1 _).set2 _).set3 _).set4 _).set5 _).set6 _)
            have HO7 := Lib.hid (show StkRow X6 (sv + 1) w.heap.size sv u12 (j + 1) S from by
              have hc : sv < sv + 1 := Nat.lt_succ_self _
              rw [hX6]
              exact ((((((HO6.out.set hc).set hc).set hc).set hc).set hc).set hc).set hc)
            have HB7 := Lib.hid (show Below w.heap.size w X6 from by
              rw [hX6]
              exact ((((((HB6.out.setCell hsv1 _).setCell hsv1 _).setCell hsv1 _).setCell hsv1 _).setCell hsv1 _).setCell hsv1 _).setCell hsv1 _)
            have HV7 := Lib.hid (show OwnV X6 W5.heap.size w6.heap.size (.slice na S1.front.length nc) S1.front.length S1.front ∧ OwnR X6 W5.heap.size w6.heap.size (.slice ma S1.items.length mc) S1.items.length S1.items from by
              have hc : sv < W5.heap.size ∨ w6.heap.size ≤ sv := .inl hwr5
              rw [hX6]
              exact ⟨((((((hV6.set hc).set hc).set hc).set hc).set hc).set hc).set hc, ((((((hR6.set hc).set hc).set hc).set hc).set hc).set hc).set hc⟩)
            clear hV6 hR6 HO6 HB6
            obtain ⟨q0, q1, q2, q3, q4, q5, q6⟩ := HX6.out.cells
            have q7 := HX6.out.free
            go_upto_region 9 with (fail)
            rw [← hX6]
            clear hX6 q0 q1 q2 q3 q4 q5 q6 q7 HX6
            obtain ⟨C, hown7, hst7⟩ := HO7.out
            have HOWN7 := Lib.hid hown7
            have HST7 := Lib.hid hst7
            clear hown7 hst7 HO7
            have hsz7 : sv < X6.heap.size := by omega
            obtain ⟨q0, q1, q2, q3, q4, q5, q6⟩ := HX7.out.cells
            go_wp2_with (
              at_builtin
              go_must (refine wpList_append_where rfl (.tmp 44) (.tmp 46) 90 rfl (sv + 1) 42 i0 (.agg #[.slice none 0 0, .slice none 0 0, .int .i64 0, .int .i64 0, .int .i64 0, .int .i64 0, .int .i64 0]) 7 88 Tryz.underlying90 hi0 hz0 hz1 hz2 rfl (by decide) _ _ _ rfl (HOWN7.out.alloc _) ⟨X6.heap.size, 0, none⟩ 1 1 [.slice na S1.front.length nc, .slice ma S1.items.length mc, .int .i64 S1.back.x, .int .i64 S1.back.y, .int .i64 S1.back.z, .int .i64 S1.flips, .int .i64 S1.cost] rfl rfl (Box7.news (Box7.new X6 _ _ _ _ _ _ _ _)) (fun u hu => by simp only [List.mem_cons, List.not_mem_nil, or_false] at hu; rcases hu with rfl | rfl | rfl | rfl | rfl | rfl | rfl <;> rfl) (by unfold maxLen; omega) (by omega) (by simp; omega) ?_)
              intro v9 w9 hown9 hgrow9 hwh9
              have hba : Below X6.heap.size X6 (X6.alloc (.cells #[.slice na S1.front.length nc, .slice ma S1.items.length mc, .int .i64 S1.back.x, .int .i64 S1.back.y, .int .i64 S1.back.z, .int .i64 S1.flips, .int .i64 S1.cost] 42)) := (Below.refl _ _).alloc (Nat.le_refl _) _
              have HR9 := Lib.hid (show StkRow w9 (sv + 1) w.heap.size sv v9 (j + 1 + 1) S from by
                have hh := HS1.out
                refine StkRow.more (lo := W5.heap.size) (hi := w6.heap.size) (fv := .slice na S1.front.length nc) (iv := .slice ma S1.items.length mc) HST7.out hba ?_ ?_ ?_ ?_ (.inl hwr5) hgrow9 ?_ ?_
                · rw [← hh]; exact HV7.out.1.below hba
                · rw [← hh]; exact HV7.out.2.below hba
                · omega
                · exact fun g hg => .inl (HLT.out g hg).2
                · rw [← hh]; exact hown9
                · exact hwh9)
              have HX9 := Lib.hid ((HX7.out.call hba).grown hgrow9 (fun e => by have := (HLT.out _ e).1; omega))
              have HV9 := Lib.hid (show OwnV w9 W5.heap.size w6.heap.size (.slice na S1.front.length nc) S1.front.length S1.front ∧ OwnR w9 W5.heap.size w6.heap.size (.slice ma S1.items.length mc) S1.items.length S1.items from ⟨(HV7.out.1.below hba).kept hgrow9 (fun g hg => .inl (HLT.out g hg).2), (HV7.out.2.below hba).kept hgrow9 (fun g hg => .inl (HLT.out g hg).2)⟩)
              have HB9 := Lib.hid ((HB7.out.trans (hba.mono HB7.out.size)).grown hgrow9 (by have := hba.size; omega) (fun g hg => by have := (HLT.out g hg).1; omega))
              clear hown9 hgrow9 hwh9 hba)
            go_roundw
            case rel =>
              have hh := HS1.out
              refine ⟨j + 1, W5.heap.size, w6.heap.size, na, nc, ma, mc, by omega, by go_num, HR9, ?_, ?_, HB9⟩
              · rw [← hh]; exact HX9
              · rw [← hh]; exact HV9
            case measure => simp [intOf]; omega
        · obtain rfl : j = n := by omega
          have hlt' : ¬ (j : Int) < (j : Int) := by omega
          go_wp2
          go_returns
          exact ⟨_, rfl, fun _ => ⟨sv, ho.out.lower (by omega) (Nat.le_refl _)⟩, hw.out⟩
end Go.Proofs.YtolgclajlklmaaaGreat

namespace Go.Proofs.YtolgclajlklmaaaGreat
set_option linter.unusedSimpArgs false
set_option linter.unusedVariables false
open Go.RowKit
def Agg.numsV (k : Int) (V : Nat → Agg.V) (n : Nat) : List Int := (List.range n).map fun i => Agg.num k (V i)
theorem Agg.numsV_len (k : Int) (V : Nat → Agg.V) (n : Nat) : (Agg.numsV k V n).length = n := by simp [Agg.numsV]
theorem Agg.numsV_step (k : Int) (V : Nat → Agg.V) (n j : Nat) (h : j < n) : (Agg.numsV k V n).take (j + 1) = (Agg.numsV k V n).take j ++ [Agg.num k (V j)] := by
  rw [List.take_succ_eq_append_getElem (by rw [Agg.numsV_len]; exact h)]
  simp [Agg.numsV]
set_option maxRecDepth 8000 in
set_option maxHeartbeats 2000000 in
theorem numbersOf_stacks (k : Int) (f1 : Nat) (c1 : ∀ args w, Sem.run Tryz.prog (Go.callFunc f1 args) w = .ok (.enter f1 args) w) (S : Nat → Agg.S) (V : Nat → Agg.V) (a : Option Addr) (n cap : Nat) (hn : n ≤ 1000) (w : World) (h : StksAt w a n cap S)
    (hval : ∀ j, j < n → ∀ w' fa fc ia ic, Vals w' fa (S j).front.length fc (S j).front → Nums .i64 w' ia (S j).items.length ic (S j).items →
      Calls Tryz.prog f1 #[.int .i64 k, .agg #[.slice fa (S j).front.length fc, .slice ia (S j).items.length ic, .int .i64 (S j).back.x, .int .i64 (S j).back.y, .int .i64 (S j).back.z, .int .i64 (S j).flips, .int .i64 (S j).cost]] w' fun e w2 => e = .returned (.tuple #[.agg #[.int .i64 (V j).x, .int .i64 (V j).y, .int .i64 (V j).z], .bool true]) ∧ Below w'.heap.size w' w2) :
    Calls Tryz.prog 54 #[.int .i64 k, .slice a n cap, .func (.func f1) #[] #[]] w (MadeRow (Agg.numsV k V n) n w) := by
  obtain ⟨i0, hi0, hz0, hz1, hz2⟩ := info_parts infoInt
  have hnc := h.1
  have hcm := h.2.1
  have HN := Lib.hid h
  have HVAL := Lib.hid hval
  clear h hval
  have hsl := Agg.numsV_len k V n
  have hst := fun j => Agg.numsV_step k V n j
  obtain ⟨L, hL⟩ : ∃ L, L = Agg.numsV k V n := ⟨_, rfl⟩
  rw [← hL] at hsl hst ⊢
  have HSL := Lib.hid hsl
  have HST := Lib.hid hst
  clear hsl hst hL
  go_enter Tryz.func54, Tryz.ntmps54
  go_wp2_with (at_make; refine wpList_make_own _ rfl _ _ 26 rfl w.heap.size 3 i0 (.int .i64 0) 1 Tryz.underlying26 hi0 hz0 hz1 .i64 .i64 _ n rfl rfl rfl ?b1 ?b2 ?b3 ?_)
  case b1 => rw [hz2]; omega
  case b2 => unfold maxLen; omega
  case b3 => exact Nat.le_refl _
  intro w1 hown hgrow
  have HO := Lib.hid (show w1.ownsRow w.heap.size 3 1 (.slice (some ⟨w.heap.size, 0, none⟩) 0 n) 0 ((L.take 0).map (Value.int .i64)) from hown)
  have HB := Lib.hid ((Below.refl w.heap.size w).grown hgrow (Nat.le_refl _) (fun k hk => by simp at hk))
  clear hown hgrow
  go_wp2
  go_loopw [7, 17] (fun ov i wr => ∃ j : Nat, j ≤ n ∧ i = .int .i64 j ∧ Hid (wr.ownsRow w.heap.size 3 1 ov j ((L.take j).map (Value.int .i64))) ∧ Hid (Below w.heap.size w wr)) (fun _ i _ => n - (intOf i).toNat)
  case atStart => exact ⟨0, Nat.zero_le _, rfl, HO, HB⟩
  case round =>
    obtain ⟨j, hj, rfl, ho, hw⟩ := hrel
    clear HO HB
    have hwr := hw.out.size
    by_cases hlt : j < n
    · rcases (HN.out.below hw.out).2.2 with h0 | ⟨b, off, rfl, hbw, hcs⟩
      · omega
      · obtain ⟨ga, gc, ja, jc, ⟨q0, q1, q2, q3, q4, q5, q6⟩, hF, hI⟩ := hcs j hlt
        clear hcs
        have hst := HST.out j hlt
        have hvj := HVAL.out j hlt
        obtain ⟨S0, hS0⟩ : ∃ S0, S0 = S j := ⟨_, rfl⟩
        rw [← hS0] at hvj q0 q1 q2 q3 q4 q5 q6 hF hI
        obtain ⟨⟨vx, vy, vz⟩, hV⟩ : ∃ Y, Y = V j := ⟨_, rfl⟩
        rw [← hV] at hvj hst
        obtain ⟨x, hx⟩ : ∃ x, x = Agg.num k ⟨vx, vy, vz⟩ := ⟨_, rfl⟩
        have hG := fun w => numberOf_any k vx vy vz w
        rw [← hx] at hst hG
        obtain ⟨F, I, ⟨bx, by', bz⟩, fl, co⟩ := S0
        simp only at hvj hF hI q0 q1 q2 q3 q4 q5 q6
        have HF := Lib.hid hF
        have HI := Lib.hid hI
        have HVJ := Lib.hid hvj
        have HG := Lib.hid hG
        have HS2 := Lib.hid hst
        have hk0 : (0 : Int) ≤ (j : Int) := Int.natCast_nonneg _
        have hkn : (j : Int) < (n : Int) := by omega
        have hlt' : ∀ q, u7.ownBlock = some q → w.heap.size ≤ q := fun q hq => (ho.out.lt q hq).1
        obtain ⟨W5, hW5⟩ : ∃ W5, W5 = wr.alloc (.cells #[.slice ga F.length gc, .slice ja I.length jc, .int .i64 bx, .int .i64 by', .int .i64 bz, .int .i64 fl, .int .i64 co] 42) := ⟨_, rfl⟩
        have hbn : Below wr.heap.size wr W5 := by rw [hW5]; exact (Below.refl _ _).alloc (Nat.le_refl _) _
        have HX5 := Lib.hid (show Box7 W5 wr.heap.size 42 (.slice ga F.length gc) (.slice ja I.length jc) (.int .i64 bx) (.int .i64 by') (.int .i64 bz) (.int .i64 fl) (.int .i64 co) from by rw [hW5]; exact Box7.new wr _ _ _ _ _ _ _ _)
        have HF5 := Lib.hid (HF.out.below hbn)
        have HI5 := Lib.hid (HI.out.below hbn)
        have HO5 := Lib.hid (ho.out.kept (Below.grownNone hbn none) (Classical.em _))
        have HB5 := Lib.hid (hw.out.trans (hbn.mono hwr))
        clear hbn hF hI hvj hG hst hS0 hV hx HF HI
        go_upto_region 5 with (fail)
        rw [← hW5]
        clear hW5 q0 q1 q2 q3 q4 q5 q6
        obtain ⟨q0, q1, q2, q3, q4, q5, q6⟩ := HX5.out.cells
        go_wp2_with fail
        refine (HVJ.out _ _ _ _ _ HF5.out HI5.out).mono ?_
        rintro e w6 ⟨rfl, hb6⟩
        have HO6 := Lib.hid (HO5.out.kept (Below.grownNone hb6 none) (Classical.em _))
        have HB6 := Lib.hid (HB5.out.trans (hb6.mono HB5.out.size))
        clear hb6 q0 q1 q2 q3 q4 q5 q6 HX5 HO5 HB5 HF5 HI5
        obtain ⟨W7, hW7⟩ : ∃ W7, W7 = w6.alloc (.cells #[.int .i64 vx, .int .i64 vy, .int .i64 vz] 40) := ⟨_, rfl⟩
        have hbn : Below w6.heap.size w6 W7 := by rw [hW7]; exact (Below.refl _ _).alloc (Nat.le_refl _) _
        have HX7 := Lib.hid (show Box W7 w6.heap.size 40 vx vy vz from by rw [hW7]; exact Box.new w6 _ _ _ _)
        have HO7 := Lib.hid (HO6.out.kept (Below.grownNone hbn none) (Classical.em _))
        have HB7 := Lib.hid (HB6.out.trans (hbn.mono HB6.out.size))
        clear hbn HO6 HB6
        go_upto_region 6 with (fail)
        rw [← hW7]
        clear hW7
        obtain ⟨q0, q1, q2⟩ := HX7.out.cells
        go_wp2_with fail
        refine (HG.out _).mono ?_
        rintro e w8 ⟨rfl, hb8⟩
        have HO8 := Lib.hid (HO7.out.kept (Below.grownNone hb8 none) (Classical.em _))
        have HB8 := Lib.hid (HB7.out.trans (hb8.mono HB7.out.size))
        have hs8 := HB8.out.size
        clear hb8 HG HO7 HB7 q0 q1 q2 HX7
        go_wp2_with (at_builtin; refine wpList_append_own _ rfl (.tmp 28) (.tmp 32) 26 rfl w.heap.size 3 i0 (.int .i64 0) 1 8 Tryz.underlying26 hi0 hz0 hz1 hz2 rfl (by decide) _ _ _ rfl (HO8.out.alloc _) ⟨w8.heap.size, 0, none⟩ 1 1 [.int .i64 x] rfl rfl (cell_one_new _ _ _) (ints_oneCell .i64 [x]) (by unfold maxLen; omega) (by omega) (by simp; omega) ?_; intro v' w9 hown5 hgrow5 hnil5; have HO9 := Lib.hid hown5; have HB9 := Lib.hid ((HB8.out.alloc HB8.out.size _).grown hgrow5 (by have := HB8.out.size; simp; omega) hlt'); clear hown5 hgrow5 hnil5)
        go_roundw
        case rel =>
          refine ⟨j + 1, by omega, by go_num, Lib.hid ?_, HB9⟩
          rw [HS2.out, List.map_append]
          exact HO9.out
        case measure => simp [intOf]; omega
    · obtain rfl : j = n := by omega
      have ho2 := ho.out
      rw [List.take_of_length_le (by have := HSL.out; omega)] at ho2
      have HO2 := Lib.hid ho2
      clear ho2
      have hlt' : ¬ (j : Int) < (j : Int) := by omega
      go_wp2
      go_returns
      exact ⟨_, rfl, OwnR.made HO2.out hw.out.size, hw.out⟩
end Go.Proofs.YtolgclajlklmaaaGreat
