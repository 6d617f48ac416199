import Derived.Test.YtolgclajlklmaaaGreatTa
import Derived.Deep.RegionLaw
import Derived.Test.YtolgclajlklmaaaGreatM
import Derived.Test.YtolgclajlklmaaaGreatN
import Derived.Test.YtolgclajlklmaaaGreatRw
import Derived.Test.YtolgclajlklmaaaGreatMa
import Derived.Deep.RegionHeld3
import Derived.Lib.SliceRun
import Derived.Deep.DeepMust
import Derived.Test.YtolgclajlklmaaaGreatA1
import Derived.Test.YtolgclajlklmaaaGreatA2
import Derived.Test.YtolgclajlklmaaaGreatA3
import Derived.OrdersHeld
namespace Go.Proofs.YtolgclajlklmaaaGreat
set_option linter.unusedSimpArgs false
set_option linter.unusedVariables false
open Go.RowKit
theorem step_append_own {P : Program} {ops : Array Oper} {o : Oper} {a : Act} {w : World} {K : Act → World → Prop} {Q : Exit → Act → World → Prop} {E : Prop}
    (hg : o.guard = none) (s x : Operand) (t : TypeId) (hop : o.op = Op.call { callee := Callee.builtin Builtin.append, args := #[s, x], argTypes := #[t, t] })
    (base : Nat) (e : TypeId) (i : TypeInfo) (z : Value) (size bytes : Nat) (h1 : P.underlying t = some (.slice e)) (h2 : P.info? e = some i) (h3 : i.zero = some z) (h4 : i.size = size) (h5 : i.bytes = bytes) (h6 : z.cells.size = size) (h7 : 0 < size)
    (v : Value) (n : Nat) (xs : List Value) (hs : a.eval s = v) (hown : w.ownsRow base e size v n xs)
    (ad : Addr) (m c : Nat) (news : List Value) (hx : a.eval x = .slice (some ad) m c) (hn : news.length = m * size) (hc : ∀ j u, news[j]? = some u → w.cell? (ad.add j) = some u) (h1c : ∀ u ∈ news, u.oneCell' = true)
    (b1 : n + m ≤ maxLen) (b2 : (n + m) * bytes ≤ 140737488355328) (hbase : base ≤ w.heap.size)
    (hK : ∀ v' w', w'.ownsRow base e size v' (n + m) (xs ++ news) → w.grownBy w' v.ownBlock → (v' = .slice none 0 0 ↔ v = .slice none 0 0 ∧ m = 0) → K (a.put o.dst v') w') :
    if Region.wanted o (yielded ops a.tmps) = true then Oper.wp P o a w K Q else E := by
  have hw : Region.wanted o (yielded ops a.tmps) = true := by simp [Region.wanted, hg]
  rw [if_pos hw]
  exact wp_append_own w s x t hop base e i z size bytes h1 h2 h3 h4 h5 h6 h7 v n xs hs hown ad m c news hx hn hc h1c b1 b2 hbase hK
theorem own_empty {w : World} {base e g : Nat} (hb : base ≤ g) (h : w.heap[g]? = some (.cells #[] e (0, 0))) : w.ownsRow base e 1 (.slice (some ⟨g, 0, none⟩) 0 0) 0 [] :=
  ⟨rfl, .inr ⟨g, 0, _, rfl, hb, h, Nat.le_refl _, by simp, rfl, rfl⟩⟩
theorem cell_old {Y : World} {a : Addr} {v : Value} {o : Obj} (hb : a.block < Y.heap.size) (h : Y.cell? a = some v) : (Y.alloc o).cell? a = some v := (World.cell?_of_block (heap_alloc_old Y o hb)).trans h
theorem cell_new' {Y : World} {v : Value} {T : TypeId} {g : Nat} (hg : g = Y.heap.size) : (Y.alloc (.cells #[v] T)).cell? ⟨g, 0, none⟩ = some v := by
  subst hg; simp
theorem cell_drew {Y : World} {a : Addr} {v : Value} (h : Y.cell? a = some v) : Y.drew.cell? a = some v := h
theorem own_drew {w : World} {base e size n : Nat} {v : Value} {xs : List Value} (h : w.ownsRow base e size v n xs) : w.drew.ownsRow base e size v n xs := h
theorem own_empty_new {Y : World} {base e g : Nat} (hb : base ≤ Y.heap.size) (hg : g = Y.heap.size) : (Y.alloc (.cells #[] e)).ownsRow base e 1 (.slice (some ⟨g, 0, none⟩) 0 0) 0 [] := by
  subst hg
  exact own_empty hb (heap_alloc_new Y _)
theorem nums_news {w : World} {b off n cap : Nat} {l : List Int} (h : Nums .i64 w (some ⟨b, off, none⟩) n cap l) : ∀ j u, (l.map (Value.int .i64))[j]? = some u → w.cell? ((⟨b, off, none⟩ : Addr).add j) = some u := by
  intro j u hj
  obtain ⟨h1, h2, h3, h4⟩ := h
  have hjl : j < l.length := by have := (List.getElem?_eq_some_iff.1 hj).1; simpa using this
  rcases h4 with h4 | ⟨b', off', ha, hb, hc⟩
  · omega
  · simp only [Option.some.injEq, Addr.mk.injEq, and_true] at ha
    obtain ⟨rfl, rfl⟩ := ha
    rw [Addr.add_lit, hc j (by omega), List.getElem?_eq_getElem hjl]
    simp [List.getElem?_map, List.getElem?_eq_getElem hjl] at hj ⊢
    exact hj
theorem Nums.drop1 {k : IntKind} {w : World} {b n cap : Nat} {l : List Int} (h : Nums k w (some ⟨b, 0, none⟩) n cap l) (hi : 1 ≤ n) : Nums k w (some ⟨b, 1, none⟩) (n - 1) (cap - 1) (l.drop 1) := by
  obtain ⟨h1, h2, h3, h4⟩ := h
  refine ⟨by simp; omega, by omega, by omega, ?_⟩
  rcases h4 with h4 | ⟨b', off', ha, hb, hc⟩
  · exact .inl (by omega)
  · simp only [Option.some.injEq, Addr.mk.injEq, and_true] at ha
    obtain ⟨rfl, rfl⟩ := ha
    refine .inr ⟨b, 1, rfl, hb, fun j hj => ?_⟩
    have := hc (1 + j) (by omega)
    rw [Nat.zero_add] at this
    rw [this, List.getElem?_drop]
theorem one_news {w : World} {g : Nat} {x : Int} (h : w.cell? ⟨g, 0, none⟩ = some (.int .i64 x)) : ∀ j u, [Value.int .i64 x][j]? = some u → w.cell? ((⟨g, 0, none⟩ : Addr).add j) = some u := by
  intro j u hj
  match j, hj with
  | 0, hj => simp at hj; subst hj; simpa [Addr.add] using h
  | j + 1, hj => simp at hj
def RowNew (l : List Int) (w : World) (e : Ending) (w' : World) : Prop :=
  ∃ g c, e = .returned (.slice (some ⟨g, 0, none⟩) l.length c) ∧ OwnR w' w.heap.size w'.heap.size (.slice (some ⟨g, 0, none⟩) l.length c) l.length l ∧ Below w.heap.size w w'
theorem RowNew.mk' {w w' : World} {v : Value} {n : Nat} {l : List Int} (h : w'.ownsRow w.heap.size 3 1 v n (l.map (Value.int .i64))) (hv : v ≠ .slice none 0 0) (hb : Below w.heap.size w w') : RowNew l w (.returned v) w' := by
  have hl : l.length = n := by have := h.1; simpa using this
  subst hl
  obtain ⟨b, cap, rfl, -⟩ : ∃ b cap, v = .slice (some ⟨b, 0, none⟩) l.length cap ∧ True := by
    rcases h.2 with ⟨rfl, _⟩ | ⟨g, cap, cur, rfl, -⟩
    · exact absurd rfl hv
    · exact ⟨g, cap, rfl, trivial⟩
  exact ⟨b, cap, rfl, OwnR.made h hb.size, hb⟩
end Go.Proofs.YtolgclajlklmaaaGreat

namespace Go.Proofs.YtolgclajlklmaaaGreat
set_option linter.unusedSimpArgs false
set_option linter.unusedVariables false
open Go.RowKit
def Agg.num (k : Int) (v : Agg.V) : Int := if (Agg.aLow k v).2 then (Agg.aLow k v).1 else -1
def Agg.number (k : Int) (l : List Int) : Int := Agg.num k (Agg.fold k l)
def Agg.slides (k : Int) (l : List Int) (s : Nat) : List Int := (List.range (l.length + 1 - s)).map fun i => Agg.number k ((l.drop i).take s)
theorem Agg.slides_len (k : Int) (l : List Int) (s : Nat) : (Agg.slides k l s).length = l.length + 1 - s := by simp [Agg.slides]
theorem Agg.slides_step (k : Int) (l : List Int) (s j : Nat) (h : j < l.length + 1 - s) : (Agg.slides k l s).take (j + 1) = (Agg.slides k l s).take j ++ [Agg.number k ((l.drop j).take s)] := by
  rw [List.take_succ_eq_append_getElem (by rw [Agg.slides_len]; exact h)]
  simp [Agg.slides]
theorem orNone_any (n : Int) (b : Bool) (w : World) : Calls Tryz.prog 35 #[.int .i64 n, .bool b] w fun e w' => e = .returned (.int .i64 (if b then n else -1)) ∧ w = w' := by
  cases b
  all_goals
    go_enter Tryz.func35, Tryz.ntmps35
    go_wp2
    go_returns
    exact ⟨rfl, rfl⟩
theorem numberOf_any (k x y z : Int) (w : World) :
    Calls Tryz.prog 75 #[.int .i64 k, .agg #[.int .i64 x, .int .i64 y, .int .i64 z]] w fun e w' => e = .returned (.int .i64 (Agg.num k ⟨x, y, z⟩)) ∧ Below w.heap.size w w' := by
  obtain ⟨⟨n, b⟩, hb⟩ : ∃ p, p = Agg.aLow k ⟨x, y, z⟩ := ⟨_, rfl⟩
  have h1 := fun w => lowerValue_any k x y z w
  have e : Agg.num k ⟨x, y, z⟩ = if b then n else -1 := by simp [Agg.num, ← hb]
  rw [← hb] at h1
  rw [e]
  have H1 := Lib.hid h1
  clear h1 hb e
  cases b
  all_goals
    go_enter Tryz.func75, Tryz.ntmps75
    go_wp2_with fail
    refine (H1.out _).mono ?_
    rintro e w1 ⟨rfl, hb1⟩; obtain ⟨hc1, hf1⟩ := bcell hb1; obtain hz0 : w.heap.size < w1.heap.size := (by have hzz := hb1.size; (try simp at hzz); omega); have hB1 : Below w.heap.size w w1 := Below.trans (by go_grown) (hb1.mono (by first | (simp; done) | (simp; omega) | omega)); clear hb1
    go_wp2_with fail
    refine (orNone_any _ _ _).mono ?_
    rintro e w2 ⟨rfl, rfl⟩
    go_wp2_with fail
    go_returns
    exact ⟨rfl, (by first | (go_grown; done) | (refine below_drewN ?_ _; go_grown; done) | (refine (below_drewN _ ?_); go_grown; done))⟩
theorem s_fold_any (k : Int) (hk : Agg.isKind k = true) (a : Option Addr) (n cap : Nat) (l : List Int) (w : World) (h : Nums .i64 w a n cap l) (hi : Agg.itemsOk l = true) :
    Calls Tryz.prog 87 #[.int .i64 k, .slice a n cap] w fun e w' => e = .returned (.agg #[.int .i64 (Agg.fold k l).x, .int .i64 (Agg.fold k l).y, .int .i64 (Agg.fold k l).z]) ∧ Below w.heap.size w w' := by
  rcases Agg.kinds hk with rfl | rfl | rfl | rfl | rfl | rfl | rfl | rfl | rfl | rfl
  · exact s_fold_1 a n cap l w h hi
  · exact s_fold_2 a n cap l w h hi
  · exact s_fold_3 a n cap l w h hi
  · exact s_fold_4 a n cap l w h hi
  · exact s_fold_5 a n cap l w h hi
  · exact s_fold_6 a n cap l w h hi
  · exact s_fold_7 a n cap l w h hi
  · exact s_fold_8 a n cap l w h hi
  · exact s_fold_9 a n cap l w h hi
  · exact s_fold_10 a n cap l w h hi
end Go.Proofs.YtolgclajlklmaaaGreat

namespace Go.Proofs.YtolgclajlklmaaaGreat
set_option linter.unusedSimpArgs false
set_option linter.unusedVariables false
open Go.RowKit
theorem Nums.part {k : IntKind} {w : World} {b off n cap : Nat} {l : List Int} (h : Nums k w (some ⟨b, off, none⟩) n cap l) {i s : Nat} (hi : i + s ≤ n) : Nums k w (some ⟨b, off + i, none⟩) s (cap - i) ((l.drop i).take s) := by
  obtain ⟨h1, h2, h3, h4⟩ := h
  refine ⟨by simp; omega, by omega, by omega, ?_⟩
  rcases h4 with h4 | ⟨b', off', ha, hb, hc⟩
  · exact .inl (by omega)
  · simp only [Option.some.injEq, Addr.mk.injEq, and_true] at ha
    obtain ⟨rfl, rfl⟩ := ha
    refine .inr ⟨b, off + i, rfl, hb, fun j hj => ?_⟩
    rw [Nat.add_assoc, hc (i + j) (by omega), List.getElem?_take, if_pos hj, List.getElem?_drop]
theorem part_ok {l : List Int} (h : Agg.itemsOk l = true) (i s : Nat) : Agg.itemsOk ((l.drop i).take s) = true := Agg.items_take (Agg.items_drop h i) s
def RowOut (l : List Int) (b : Bool) (w : World) (e : Ending) (w' : World) : Prop :=
  ∃ (v : Value) (n : Nat), e = .returned (.tuple #[v, .bool b]) ∧ OwnR w' w.heap.size w'.heap.size v n l ∧ Below w.heap.size w w'
theorem RowOut.none_ {w w' : World} (h : Below w.heap.size w w') : RowOut [] false w (.returned (.tuple #[.slice none 0 0, .bool false])) w' :=
  ⟨_, 0, rfl, OwnR.made (World.ownsRow_nil _ _ _ _) h.size, h⟩
def Agg.rowsN (n s h : Nat) : Nat := if n < s then 0 else (n - s) / h + 1
theorem Agg.rowsN_lt {n s h j : Nat} (hh : 1 ≤ h) : j < Agg.rowsN n s h ↔ s + j * h ≤ n := by
  unfold Agg.rowsN
  split
  · constructor
    · intro h2; omega
    · intro h2; have := Nat.zero_le (j * h); omega
  · have := Nat.le_div_iff_mul_le (x := j) (y := n - s) (k := h) (by omega)
    constructor
    · intro h2; have := this.1 (by omega); omega
    · intro h2; have := this.2 (by omega); omega
theorem Agg.rowsN_le {n s h : Nat} (hs : 1 ≤ s) : Agg.rowsN n s h ≤ n := by
  unfold Agg.rowsN
  split
  · omega
  · have := Nat.div_le_self (n - s) h; omega
theorem Agg.rowsN_one {n s : Nat} (hs : 1 ≤ s) : Agg.rowsN n s 1 = n + 1 - s := by
  unfold Agg.rowsN
  split <;> (try rw [Nat.div_one]) <;> omega
def Agg.nums (k : Int) (f : Nat → List Int) (n : Nat) : List Int := (List.range n).map fun i => Agg.number k (f i)
theorem Agg.nums_len (k : Int) (f : Nat → List Int) (n : Nat) : (Agg.nums k f n).length = n := by simp [Agg.nums]
theorem Agg.nums_step (k : Int) (f : Nat → List Int) (n j : Nat) (h : j < n) : (Agg.nums k f n).take (j + 1) = (Agg.nums k f n).take j ++ [Agg.number k (f j)] := by
  rw [List.take_succ_eq_append_getElem (by rw [Agg.nums_len]; exact h)]
  simp [Agg.nums]
def Agg.hops (k : Int) (l : List Int) (s h : Nat) : List Int := Agg.nums k (fun j => (l.drop (j * h)).take s) (Agg.rowsN l.length s h)
theorem Agg.slides_hops (k : Int) (l : List Int) {s : Nat} (hs : 1 ≤ s) : Agg.slides k l s = Agg.hops k l s 1 := by
  simp [Agg.slides, Agg.hops, Agg.nums, Agg.rowsN_one hs]
def Rows2 (w : World) (a : Option Addr) (n cap : Nat) (f : Nat → List Int) : Prop :=
  n ≤ cap ∧ cap ≤ 9223372036854775807 ∧ (n = 0 ∨ ∃ b off, a = some ⟨b, off, none⟩ ∧ b < w.heap.size ∧ ∀ i, i < n → ∃ a' m c, w.cell? ⟨b, off + i, none⟩ = some (.slice a' m c) ∧ Nums .i64 w a' m c (f i))
theorem Rows2.below {w w' : World} {a : Option Addr} {n cap : Nat} {f : Nat → List Int} (h : Rows2 w a n cap f) (hb : Below w.heap.size w w') : Rows2 w' a n cap f := by
  obtain ⟨h1, h2, h3⟩ := h
  refine ⟨h1, h2, ?_⟩
  rcases h3 with h3 | ⟨b, off, ha, hlt, hc⟩
  · exact .inl h3
  · refine .inr ⟨b, off, ha, Nat.lt_of_lt_of_le hlt hb.size, fun i hi => ?_⟩
    obtain ⟨a', m, c, e, hN⟩ := hc i hi
    exact ⟨a', m, c, (hb.cell (p := ⟨b, off + i, none⟩) hlt).trans e, hN.below hb⟩
theorem Rows2.zero (w : World) (a : Option Addr) (cap : Nat) (f : Nat → List Int) (h : cap ≤ 9223372036854775807) : Rows2 w a 0 cap f := ⟨Nat.zero_le _, h, .inl rfl⟩
def RowsMade (f : Nat → List Int) (n : Nat) (w : World) (e : Ending) (w' : World) : Prop :=
  ∃ (a : Option Addr) (cap : Nat), e = .returned (.slice a n cap) ∧ Rows2 w' a n cap f ∧ Below w.heap.size w w'
theorem infoWin5 : (Tryz.prog.info? 26).map (fun i => (i.zero, i.size, i.bytes)) = some (some (.slice none 0 0), 1, 24) := by kernel_rfl
theorem RowsMade.of {f : Nat → List Int} {n : Nat} {w w' : World} {v : Value} {cs : List Value} (h : w'.ownsRow w.heap.size 26 1 v n cs) (hc : ∀ j, j < n → ∃ a m c, cs[j]? = some (.slice a m c) ∧ Nums .i64 w' a m c (f j)) (hb : Below w.heap.size w w') : RowsMade f n w (.returned v) w' := by
  rcases h.2 with ⟨rfl, rfl⟩ | ⟨g, cap, cur, rfl, hlo, hg, h1, h2, -⟩
  · exact ⟨none, 0, rfl, Rows2.zero _ _ _ _ (by omega), hb⟩
  · refine ⟨_, cap, rfl, ⟨h1, by unfold maxLen at h2; omega, .inr ⟨g, 0, rfl, (Array.getElem?_eq_some_iff.1 hg).1, fun i hi => ?_⟩⟩, hb⟩
    obtain ⟨a, m, c, e, hN⟩ := hc i hi
    exact ⟨a, m, c, by rw [Nat.zero_add]; exact (h.cellAt i (by omega)).trans e, hN⟩
set_option maxRecDepth 4000 in
set_option maxHeartbeats 1000000 in
theorem foldNumbers_any (k : Int) (hk : Agg.isKind k = true) (a : Option Addr) (n cap : Nat) (f : Nat → List Int) (hn : n ≤ 1000) (hok : ∀ i, i < n → Agg.itemsOk (f i) = true) (w : World) (h : Rows2 w a n cap f) :
    Calls Tryz.prog 44 #[.int .i64 k, .slice a n cap] w (MadeRow (Agg.nums k f n) n w) := by
  obtain ⟨i0, hi0, hz0, hz1, hz2⟩ := info_parts infoInt
  have hnc := h.1
  have hcm := h.2.1
  have HN := Lib.hid h; clear h
  have HOK := Lib.hid hok; clear hok
  have hsl := Agg.nums_len k f n
  have hst := fun j => Agg.nums_step k f n j
  obtain ⟨S, hS⟩ : ∃ S, S = Agg.nums k f n := ⟨_, rfl⟩
  rw [← hS] at hsl hst ⊢
  have HSL := Lib.hid hsl
  have HST := Lib.hid hst
  clear hsl hst hS
  go_enter Tryz.func44, Tryz.ntmps44
  go_wp2_with (at_make; refine wpList_make_own _ rfl _ _ 26 rfl w.heap.size 3 i0 (.int .i64 0) 1 Tryz.underlying26 hi0 hz0 hz1 .i64 .i64 _ n rfl rfl rfl ?b1 ?b2 ?b3 ?_)
  case b1 => rw [hz2]; omega
  case b2 => unfold maxLen; omega
  case b3 => exact Nat.le_refl _
  intro w1 hown hgrow
  have HO := Lib.hid (show w1.ownsRow w.heap.size 3 1 (.slice (some ⟨w.heap.size, 0, none⟩) 0 n) 0 ((S.take 0).map (Value.int .i64)) from hown)
  have HB := Lib.hid ((Below.refl w.heap.size w).grown hgrow (Nat.le_refl _) (fun k hk => by simp at hk))
  clear hown hgrow
  go_wp2
  go_loopw [5, 15] (fun ov i wr => ∃ j : Nat, j ≤ n ∧ i = .int .i64 j ∧ Hid (wr.ownsRow w.heap.size 3 1 ov j ((S.take j).map (Value.int .i64))) ∧ Hid (Below w.heap.size w wr)) (fun _ i _ => n - (intOf i).toNat)
  case atStart => exact ⟨0, Nat.zero_le _, rfl, HO, HB⟩
  case round =>
    obtain ⟨j, hj, rfl, ho, hw⟩ := hrel
    clear HO HB
    have hwr := hw.out.size
    by_cases hlt : j < n
    · rcases (HN.out.below hw.out).2.2 with h0 | ⟨b, off, rfl, hbw, hcs⟩
      · omega
      · obtain ⟨a2, m, c, hcell, hN⟩ := hcs j hlt
        clear hcs
        have HNN := Lib.hid hN; clear hN
        have hst := HST.out j hlt
        have hF := fun w h => foldItems_any k a2 m c (f j) w h
        rw [Agg.aFold_of hk (HOK.out j hlt)] at hF
        obtain ⟨⟨vx, vy, vz⟩, hV⟩ : ∃ V, V = Agg.fold k (f j) := ⟨_, rfl⟩
        obtain ⟨x, hx⟩ : ∃ x, x = Agg.number k (f j) := ⟨_, rfl⟩
        have hxe : Agg.num k ⟨vx, vy, vz⟩ = x := by rw [hx, Agg.number, hV]
        have hG := fun w => numberOf_any k vx vy vz w
        rw [hxe] at hG
        rw [← hV] at hF
        rw [← hx] at hst
        have HF := Lib.hid hF
        have HG := Lib.hid hG
        have HS2 := Lib.hid hst
        clear hF hG hst hV hx hxe
        have hk0 : (0 : Int) ≤ (j : Int) := Int.natCast_nonneg _
        have hkn : (j : Int) < (n : Int) := by omega
        have hlt' : ∀ q, u5.ownBlock = some q → w.heap.size ≤ q := fun q hq => (ho.out.lt q hq).1
        go_wp2_with fail
        refine (HF.out _ HNN.out).mono ?_
        rintro e w3 ⟨rfl, hb3⟩
        have HO3 := Lib.hid ((ho.out.kept (Below.grownNone hb3 none) (by cases hv : u5.ownBlock <;> simp)).alloc (.cells #[.int .i64 vx, .int .i64 vy, .int .i64 vz] 40))
        have hs3 : w.heap.size ≤ w3.heap.size := Nat.le_trans hwr hb3.size
        have HW3 := Lib.hid ((hw.out.trans (hb3.mono hwr)).alloc hs3 (.cells #[.int .i64 vx, .int .i64 vy, .int .i64 vz] 40))
        clear hb3 hcell HF
        go_wp2_with fail
        refine (HG.out _).mono ?_
        rintro e w4 ⟨rfl, hb4⟩
        have HO4 := Lib.hid (HO3.out.kept (Below.grownNone hb4 none) (by cases hv : u5.ownBlock <;> simp))
        have HW4 := Lib.hid (HW3.out.trans (hb4.mono HW3.out.size))
        have hs4 := HW4.out.size
        clear hb4 HG HO3 HW3
        go_wp2_with (at_builtin; refine wpList_append_own _ rfl (.tmp 25) (.tmp 29) 26 rfl w.heap.size 3 i0 (.int .i64 0) 1 8 Tryz.underlying26 hi0 hz0 hz1 hz2 rfl (by decide) _ _ _ rfl (HO4.out.alloc _) ⟨w4.heap.size, 0, none⟩ 1 1 [.int .i64 x] rfl rfl (cell_one_new _ _ _) (ints_oneCell .i64 [x]) (by unfold maxLen; omega) (by omega) (by simp; omega) ?_; intro v' w5 hown5 hgrow5 hnil5; have HO5 := Lib.hid hown5; have HW5 := Lib.hid ((HW4.out.alloc HW4.out.size _).grown hgrow5 (by have := HW4.out.size; simp; omega) hlt'); clear hown5 hgrow5 hnil5)
        go_roundw
        case rel =>
          refine ⟨j + 1, by omega, by go_num, Lib.hid ?_, HW5⟩
          rw [HS2.out, List.map_append]
          exact HO5.out
        case measure => simp [intOf]; omega
    · obtain rfl : j = n := by omega
      have ho2 := ho.out
      rw [List.take_of_length_le (by have := HSL.out; omega)] at ho2
      have HO2 := Lib.hid ho2
      clear ho2
      go_wp2
      go_returns
      exact ⟨_, rfl, OwnR.made HO2.out hw.out.size, hw.out⟩
end Go.Proofs.YtolgclajlklmaaaGreat

namespace Go.Proofs.YtolgclajlklmaaaGreat
set_option linter.unusedSimpArgs false
set_option linter.unusedVariables false
open Go.RowKit
def Agg.slideOk (k : Int) (l : List Int) (s : Int) : Bool := Agg.isKind k && Agg.itemsOk l && decide (1 ≤ s ∧ s ≤ 60)
def Agg.slideOut (k : Int) (l : List Int) (s : Int) : List Int := if Agg.slideOk k l s then Agg.slides k l s.toNat else []
end Go.Proofs.YtolgclajlklmaaaGreat

namespace Go.Proofs.YtolgclajlklmaaaGreat
set_option linter.unusedSimpArgs false
set_option linter.unusedVariables false
open Go.RowKit
def Agg.winOut (l : List (Bool × Int)) : List Int := if Agg.opsOk l then Agg.winAt l l.length else []
theorem Agg.opsOk_parts {l : List (Bool × Int)} (h : Agg.opsOk l = true) : l.length ≤ 200 ∧ Agg.allOk l l.length = true ∧ Agg.fitTo l l.length = true := by
  simp only [Agg.opsOk, Bool.and_eq_true, decide_eq_true_eq] at h
  exact ⟨h.1.1, h.1.2, h.2⟩
theorem Agg.winOut_len (l : List (Bool × Int)) : (Agg.winOut l).length ≤ 60 := by
  unfold Agg.winOut
  split
  · rename_i h
    exact Agg.win_len _ (Agg.opsOk_parts h).2.2
  · simp
set_option maxRecDepth 8000 in
set_option maxHeartbeats 1000000 in
theorem clone_any (a : Option Addr) (n cap : Nat) (l : List Int) (w : World) (h : Nums .i64 w a n cap l) (hn : n ≤ 1000) :
    Calls Tryz.prog 45 #[.slice a n cap] w fun e w' => ∃ v m, e = .returned v ∧ w'.ownsRow w.heap.size 3 1 v m (l.map (Value.int .i64)) ∧ Below w.heap.size w w' := by
  obtain ⟨i0, hi0, hz0, hz1, hz2⟩ := info_parts infoInt
  have hll : l.length = n := h.1
  have hnc := h.2.1
  have hcm : cap ≤ 9223372036854775807 := by have := h.2.2.1; unfold maxLen at this; omega
  cases a with
  | none =>
    have h0 : n = 0 := by
      rcases h.2.2.2 with h0 | ⟨b, off, ha, -⟩
      · exact h0
      · simp at ha
    subst h0
    obtain rfl := List.eq_nil_of_length_eq_zero hll
    clear h
    have q22 : ∀ (w : World) (a : Option Addr) (n c n' c' : Nat), (binOp .eql 26 (.slice a n c) (.slice none n' c')).run Tryz.prog w = .ok (.bool a.isNone) w := fun w a n c n' c' => Lib.run_eql_slice_nil w _ _ a n c n' c' Tryz.underlying26
    go_enter Tryz.func45, Tryz.ntmps45
    go_wp2
    go_returns
    exact ⟨_, 0, rfl, World.ownsRow_nil _ _ _ _, Below.refl _ _⟩
  | some ad =>
    have hnews : ∀ j u, (l.map (Value.int .i64))[j]? = some u → (w.alloc (.cells #[] 3)).cell? (ad.add j) = some u := by
      rcases h.2.2.2 with h0 | ⟨b, off, ha, -⟩
      · subst h0
        obtain rfl := List.eq_nil_of_length_eq_zero hll
        intro j u hj
        simp at hj
      · obtain rfl := Option.some.inj ha
        exact nums_news (h.below ((Below.refl _ _).alloc (Nat.le_refl _) _))
    have HN := Lib.hid hnews
    clear hnews h
    have q22 : ∀ (w : World) (a : Option Addr) (n c n' c' : Nat), (binOp .eql 26 (.slice a n c) (.slice none n' c')).run Tryz.prog w = .ok (.bool a.isNone) w := fun w a n c n' c' => Lib.run_eql_slice_nil w _ _ a n c n' c' Tryz.underlying26
    go_enter Tryz.func45, Tryz.ntmps45
    go_wp2_with (at_builtin; go_must (refine wpList_append_own _ rfl (.tmp 5) (.tmp 6) 26 rfl w.heap.size 3 i0 (.int .i64 0) 1 8 Tryz.underlying26 hi0 hz0 hz1 hz2 rfl (by decide) _ _ _ rfl (own_empty_new (Nat.le_refl _) rfl) ad n cap (l.map (Value.int .i64)) rfl (by simp; omega) HN.out (ints_oneCell .i64 _) (by unfold maxLen; omega) (by omega) (by simp) ?_); go_must (intro v' w' hown' hgrow' hnil'; have HO := Lib.hid hown'; have HB := Lib.hid (show Below w.heap.size w w' from Below.grown (((Below.refl _ _).alloc (Nat.le_refl _) _)) hgrow' (by simp) (fun k hk => Nat.le_of_eq (Option.some.inj hk))); clear hown' hgrow' hnil'))
    go_wp2
    go_returns
    exact ⟨v', _, rfl, by have := HO.out; simpa using this, HB.out⟩
set_option maxRecDepth 8000 in
set_option maxHeartbeats 1000000 in
theorem windowAfter_any (a : Option Addr) (n cap : Nat) (l : List (Bool × Int)) (w : World) (h : Ops w a n cap l) :
    Calls Tryz.prog 12 #[.slice a n cap] w (RowOut (Agg.winOut l) (Agg.opsOk l) w) := by
  have hll : l.length = n := h.1
  have hW := windowsOf_any a n cap l w h
  obtain ⟨b, hb⟩ : ∃ b, b = Agg.opsOk l := ⟨_, rfl⟩
  have hwo : Agg.winOut l = if b then Agg.winAt l n else [] := by rw [Agg.winOut, ← hb, hll]
  have hlen : b = true → (Agg.winAt l n).length ≤ 60 := fun e => by have := Agg.winOut_len l; rw [hwo, e, if_pos rfl] at this; exact this
  rw [← hb] at hW ⊢
  rw [hwo]
  obtain ⟨R, hR⟩ : ∃ R, R = (if b then Agg.winAt l n else []) := ⟨_, rfl⟩
  rw [← hR]
  have HR0 := Lib.hid hR
  clear hR
  have HW := Lib.hid hW
  clear hW hb h hwo
  go_enter Tryz.func12, Tryz.ntmps12
  go_wp2_with fail
  refine HW.out.mono ?_
  rintro e w1 ⟨ht, hf⟩
  cases b
  · obtain ⟨rfl, hb1⟩ := hf rfl
    have HB := Lib.hid hb1
    clear ht hf hb1 hlen HW
    go_wp2
    go_returns
    rw [show R = [] by rw [HR0.out]; simp]
    exact RowOut.none_ HB.out
  · obtain ⟨v, hs, rfl, hrow, hwin, hb1⟩ := ht rfl
    have hl60 := hlen rfl
    obtain ⟨a2, m, c, hh, hN⟩ := hwin n (Nat.le_refl _)
    obtain ⟨gw, cw, hv, hcw, hcm⟩ : ∃ gw cw, v = .slice (some ⟨gw, 0, none⟩) (n + 1) cw ∧ n + 1 ≤ cw ∧ cw ≤ 9223372036854775807 := by
      rcases hrow.2 with ⟨rfl, h0⟩ | ⟨g, c2, cur, rfl, -, -, h1, h2, -⟩
      · omega
      · exact ⟨g, c2, rfl, h1, by unfold maxLen at h2; omega⟩
    subst hv
    have hcell := hrow.cellAt n (by omega)
    rw [hh] at hcell
    have HB := Lib.hid hb1
    have hml : (Agg.winAt l n).length = m := hN.1
    have HC := Lib.hid (clone_any a2 m c (Agg.winAt l n) w1 hN (by omega))
    clear ht hf hb1 hlen HW hwin hh hN hrow
    have hnn : (n : Int) < (n : Int) + 1 := by omega
    have hn0 : (0 : Int) ≤ (n : Int) := by omega
    have hnn2 : n < n + 1 := by omega
    go_wp2_with fail
    refine HC.out.mono ?_
    rintro e w2 ⟨v2, m2, rfl, hown, hb2⟩
    have HO := Lib.hid hown
    have HB2 := Lib.hid (HB.out.trans (hb2.mono HB.out.size))
    have hs1 := HB.out.size
    have hs2 := hb2.size
    clear hown hb2
    go_wp2
    go_returns
    rw [show R = Agg.winAt l n by rw [HR0.out]; simp]
    exact ⟨v2, m2, rfl, OwnR.made (owns_lower HO.out hs1) HB2.out.size, HB2.out⟩
end Go.Proofs.YtolgclajlklmaaaGreat

namespace Go.Proofs.YtolgclajlklmaaaGreat
set_option linter.unusedSimpArgs false
set_option linter.unusedVariables false
open Go.RowKit
def Agg.qs (k : Int) (l : List (Bool × Int)) : List Int := (List.range l.length).map fun i => Agg.number k (Agg.winAt l (i + 1))
def Agg.qOk (k : Int) (l : List (Bool × Int)) : Bool := Agg.isKind k && Agg.opsOk l
def Agg.qOut (k : Int) (l : List (Bool × Int)) : List Int := if Agg.qOk k l then Agg.qs k l else []
theorem Agg.qs_len (k : Int) (l : List (Bool × Int)) : (Agg.qs k l).length = l.length := by simp [Agg.qs]
theorem Agg.qs_step (k : Int) (l : List (Bool × Int)) (j : Nat) (h : j < l.length) : (Agg.qs k l).take (j + 1) = (Agg.qs k l).take j ++ [Agg.number k (Agg.winAt l (j + 1))] := by
  rw [List.take_succ_eq_append_getElem (by rw [Agg.qs_len]; exact h)]
  simp [Agg.qs]
theorem Agg.qOut_len (k : Int) (l : List (Bool × Int)) : (Agg.qOut k l).length ≤ 200 := by
  unfold Agg.qOut
  split
  · rename_i h
    simp only [Agg.qOk, Bool.and_eq_true] at h
    rw [Agg.qs_len]
    exact (Agg.opsOk_parts h.2).1
  · simp
theorem Agg.win_ok {l : List (Bool × Int)} (h : Agg.opsOk l = true) (i : Nat) (hi : i ≤ l.length) : Agg.itemsOk (Agg.winAt l i) = true := by
  obtain ⟨-, h1, h2⟩ := Agg.opsOk_parts h
  exact Agg.items_of (Agg.win_len i (Agg.fitTo_down hi h2)) (Agg.win_items i (Agg.allOk_down hi h1))
set_option maxRecDepth 8000 in
set_option maxHeartbeats 4000000 in
theorem queriesOf_any (k : Int) (a : Option Addr) (n cap : Nat) (l : List (Bool × Int)) (w : World) (h : Ops w a n cap l) :
    Calls Tryz.prog 11 #[.int .i64 k, .slice a n cap] w (RowOut (Agg.qOut k l) (Agg.qOk k l) w) := by
  obtain ⟨i0, hi0, hz0, hz1, hz2⟩ := info_parts infoInt
  have hll : l.length = n := h.1
  have hcap := h.2.1
  have hcapm : cap ≤ 9223372036854775807 := by have := h.2.2.1; unfold maxLen at this; omega
  have HW := Lib.hid (windowsOf_any a n cap l w h)
  clear h
  cases hb : Agg.opsOk l
  · have e : Agg.qOk k l = false := by simp [Agg.qOk, hb]
    rw [Agg.qOut, e, if_neg (by simp)]
    have HW2 := Lib.hid (HW.out)
    rw [hb] at HW2
    clear HW e hb
    go_enter Tryz.func11, Tryz.ntmps11
    go_wp2_with fail
    refine HW2.out.mono ?_
    rintro e w1 ⟨-, hf⟩
    obtain ⟨rfl, hb1⟩ := hf rfl
    have HB := Lib.hid hb1
    clear hf hb1 HW2
    go_wp2
    go_returns
    exact RowOut.none_ HB.out
  · have HW2 := Lib.hid (HW.out)
    rw [hb] at HW2
    have HP := Lib.hid (Agg.opsOk_parts hb)
    have HOK := Lib.hid (fun i => Agg.win_ok hb i)
    cases hk : Agg.isKind k
    · have e : Agg.qOk k l = false := by simp [Agg.qOk, hk]
      rw [Agg.qOut, e, if_neg (by simp)]
      clear HW e hb
      go_enter Tryz.func11, Tryz.ntmps11
      go_wp2_with fail
      refine HW2.out.mono ?_
      rintro e w1 ⟨ht, -⟩
      obtain ⟨v, hs, rfl, hrow, hwin, hb1⟩ := ht rfl
      have HB := Lib.hid hb1
      clear ht hrow hwin hb1 HW2
      go_wp2_with fail
      refine (kindValid_any _ _).mono ?_
      rintro e wk ⟨rfl, rfl⟩
      rw [hk]
      go_wp2
      go_returns
      exact RowOut.none_ HB.out
    · have e : Agg.qOk k l = true := by simp [Agg.qOk, hk, hb]
      rw [Agg.qOut, e, if_pos rfl]
      have hn200 : n ≤ 200 := by have := HP.out.1; omega
      have HF := Lib.hid (fun a cap w h' => foldNumbers_any k hk a n cap (fun i => Agg.winAt l (i + 1)) (by omega) (fun i hi => HOK.out (i + 1) (by omega)) w h')
      rw [show Agg.nums k (fun i => Agg.winAt l (i + 1)) n = Agg.qs k l by rw [Agg.nums, Agg.qs, hll]] at HF
      obtain ⟨S, hS⟩ : ∃ S, S = Agg.qs k l := ⟨_, rfl⟩
      rw [← hS] at HF ⊢
      clear HW e hb hS HP
      go_enter Tryz.func11, Tryz.ntmps11
      go_wp2_with fail
      refine HW2.out.mono ?_
      rintro e w1 ⟨ht, -⟩
      obtain ⟨v, hs, rfl, hrow, hwin, hb1⟩ := ht rfl
      obtain ⟨gw, cw, hv, hcw, hcm⟩ : ∃ gw cw, v = .slice (some ⟨gw, 0, none⟩) (n + 1) cw ∧ n + 1 ≤ cw ∧ cw ≤ 9223372036854775807 := by
        rcases hrow.2 with ⟨rfl, h0⟩ | ⟨g, c2, cur, rfl, -, -, h1, h2, -⟩
        · omega
        · exact ⟨g, c2, rfl, h1, by unfold maxLen at h2; omega⟩
      subst hv
      have hgw : gw < w1.heap.size := (hrow.lt gw rfl).2
      have HR := Lib.hid (show Rows2 w1 (some ⟨gw, 1, none⟩) n (cw - 1) (fun i => Agg.winAt l (i + 1)) from ⟨by omega, by omega, .inr ⟨gw, 1, rfl, hgw, fun i hi => by
        obtain ⟨a', m, c, e1, e2⟩ := hwin (i + 1) (by omega)
        exact ⟨a', m, c, by rw [Nat.add_comm]; exact (hrow.cellAt (i + 1) (by omega)).trans e1, e2⟩⟩⟩)
      have HB := Lib.hid hb1
      have hs1 := hb1.size
      clear ht hrow hwin hb1 HW2
      go_wp2_with fail
      refine (kindValid_any _ _).mono ?_
      rintro e wk ⟨rfl, rfl⟩
      rw [hk]
      have hcw1 : (1 : Int) ≤ (n : Int) + 1 := by omega
      have hcw2 : (1 : Int) ≤ (cw : Int) := by omega
      by_cases hc1 : cw = 1
      · subst hc1
        obtain rfl : n = 0 := by omega
        go_wp2_with fail
        refine (HF.out _ _ _ (Rows2.zero _ _ _ _ (by omega))).mono ?_
        rintro e w2 ⟨v2, rfl, ho, hb2⟩
        have HB2 := Lib.hid (HB.out.trans (hb2.mono hs1))
        have HO2 := Lib.hid ho
        clear hb2 ho
        go_wp2_with fail
        go_returns
        exact ⟨_, _, rfl, ⟨owns_lower HO2.out.1 hs1, Nat.le_trans hs1 HO2.out.2.1, HO2.out.2.2.1, HO2.out.2.2.2⟩, HB2.out⟩
      · have hcw3 : (1 : Int) < (cw : Int) := by omega
        have hcw4 : ¬ (cw - 1 = 0) := by omega
        go_wp2_with fail
        refine (HF.out _ _ _ HR.out).mono ?_
        rintro e w2 ⟨v2, rfl, ho, hb2⟩
        have HB2 := Lib.hid (HB.out.trans (hb2.mono hs1))
        have HO2 := Lib.hid ho
        clear hb2 ho
        go_wp2_with fail
        go_returns
        exact ⟨_, _, rfl, ⟨owns_lower HO2.out.1 hs1, Nat.le_trans hs1 HO2.out.2.1, HO2.out.2.2.1, HO2.out.2.2.2⟩, HB2.out⟩
end Go.Proofs.YtolgclajlklmaaaGreat

namespace Go.Proofs.YtolgclajlklmaaaGreat
set_option linter.unusedSimpArgs false
set_option linter.unusedVariables false
open Go.RowKit
structure KindAt (k : Int) (T fu fl fc : Nat) : Prop where
  of : ∀ w, Calls Tryz.prog 74 #[.int .i64 k] w fun e w' => e = .returned (.tuple #[.iface T (.agg #[]), .bool true]) ∧ w = w'
  mu : ∀ w, Sem.run Tryz.prog (Go.method 302 T (.agg #[]) "loop.example/windowaggregates/impl.unit") w = .ok (fu, .agg #[]) w
  ml : ∀ w, Sem.run Tryz.prog (Go.method 302 T (.agg #[]) "loop.example/windowaggregates/impl.lift") w = .ok (fl, .agg #[]) w
  mc : ∀ w, Sem.run Tryz.prog (Go.method 302 T (.agg #[]) "loop.example/windowaggregates/impl.combine") w = .ok (fc, .agg #[]) w
  au : ∀ w, Sem.run Tryz.prog (Go.nilAhead 302 T (.agg #[]) "loop.example/windowaggregates/impl.unit") w = .ok (some false) w
  al : ∀ w, Sem.run Tryz.prog (Go.nilAhead 302 T (.agg #[]) "loop.example/windowaggregates/impl.lift") w = .ok (some false) w
  ac : ∀ w, Sem.run Tryz.prog (Go.nilAhead 302 T (.agg #[]) "loop.example/windowaggregates/impl.combine") w = .ok (some false) w
  cu : ∀ args w, Sem.run Tryz.prog (Go.callFunc fu args) w = .ok (.enter fu args) w
  cl : ∀ args w, Sem.run Tryz.prog (Go.callFunc fl args) w = .ok (.enter fl args) w
  cc : ∀ args w, Sem.run Tryz.prog (Go.callFunc fc args) w = .ok (.enter fc args) w
  unit : ∀ w, Calls Tryz.prog fu #[.agg #[]] w fun e w' => e = .returned (.agg #[.int .i64 (Agg.unit k).x, .int .i64 (Agg.unit k).y, .int .i64 (Agg.unit k).z]) ∧ Below w.heap.size w w'
  lift : ∀ n w, 0 ≤ n → n ≤ 96 → Calls Tryz.prog fl #[.agg #[], .int .i64 n] w fun e w' => e = .returned (.agg #[.int .i64 (Agg.lift k n).x, .int .i64 (Agg.lift k n).y, .int .i64 (Agg.lift k n).z]) ∧ Below w.heap.size w w'
  comb : ∀ (ax ay az bx by' bz : Int) w, Agg.ok k ⟨ax, ay, az⟩ = true → Agg.ok k ⟨bx, by', bz⟩ = true → Calls Tryz.prog fc #[.agg #[], .agg #[.int .i64 ax, .int .i64 ay, .int .i64 az], .agg #[.int .i64 bx, .int .i64 by', .int .i64 bz]] w fun e w' => e = .returned (.agg #[.int .i64 (Agg.comb k ⟨ax, ay, az⟩ ⟨bx, by', bz⟩).x, .int .i64 (Agg.comb k ⟨ax, ay, az⟩ ⟨bx, by', bz⟩).y, .int .i64 (Agg.comb k ⟨ax, ay, az⟩ ⟨bx, by', bz⟩).z]) ∧ Below w.heap.size w w'
theorem kindAt_1 : KindAt 1 150 129 127 125 :=
  ⟨kindOf_1, fun w => by kernel_rfl, fun w => by kernel_rfl, fun w => by kernel_rfl, fun w => by kernel_rfl, fun w => by kernel_rfl, fun w => by kernel_rfl, fun args w => by kernel_rfl, fun args w => by kernel_rfl, fun args w => by kernel_rfl, unit_1, fun n w h0 h1 => lift_1 n w h0 h1, fun ax ay az bx by' bz w h h' => combine_1 ax ay az bx by' bz w h h'⟩
theorem kindAt_2 : KindAt 2 151 135 133 131 :=
  ⟨kindOf_2, fun w => by kernel_rfl, fun w => by kernel_rfl, fun w => by kernel_rfl, fun w => by kernel_rfl, fun w => by kernel_rfl, fun w => by kernel_rfl, fun args w => by kernel_rfl, fun args w => by kernel_rfl, fun args w => by kernel_rfl, unit_2, fun n w h0 h1 => lift_2 n w h0 h1, fun ax ay az bx by' bz w h h' => combine_2 ax ay az bx by' bz w h h'⟩
theorem kindAt_3 : KindAt 3 153 141 139 137 :=
  ⟨kindOf_3, fun w => by kernel_rfl, fun w => by kernel_rfl, fun w => by kernel_rfl, fun w => by kernel_rfl, fun w => by kernel_rfl, fun w => by kernel_rfl, fun args w => by kernel_rfl, fun args w => by kernel_rfl, fun args w => by kernel_rfl, unit_3, fun n w h0 h1 => lift_3 n w h0 h1, fun ax ay az bx by' bz w h h' => combine_3 ax ay az bx by' bz w h h'⟩
theorem kindAt_4 : KindAt 4 155 147 145 143 :=
  ⟨kindOf_4, fun w => by kernel_rfl, fun w => by kernel_rfl, fun w => by kernel_rfl, fun w => by kernel_rfl, fun w => by kernel_rfl, fun w => by kernel_rfl, fun args w => by kernel_rfl, fun args w => by kernel_rfl, fun args w => by kernel_rfl, unit_4, fun n w h0 h1 => lift_4 n w h0 h1, fun ax ay az bx by' bz w h h' => combine_4 ax ay az bx by' bz w h h'⟩
theorem kindAt_5 : KindAt 5 158 155 153 151 :=
  ⟨kindOf_5, fun w => by kernel_rfl, fun w => by kernel_rfl, fun w => by kernel_rfl, fun w => by kernel_rfl, fun w => by kernel_rfl, fun w => by kernel_rfl, fun args w => by kernel_rfl, fun args w => by kernel_rfl, fun args w => by kernel_rfl, unit_5, fun n w h0 h1 => lift_5 n w h0 h1, fun ax ay az bx by' bz w h h' => combine_5 ax ay az bx by' bz w h h'⟩
theorem kindAt_6 : KindAt 6 161 163 161 159 :=
  ⟨kindOf_6, fun w => by kernel_rfl, fun w => by kernel_rfl, fun w => by kernel_rfl, fun w => by kernel_rfl, fun w => by kernel_rfl, fun w => by kernel_rfl, fun args w => by kernel_rfl, fun args w => by kernel_rfl, fun args w => by kernel_rfl, unit_6, fun n w h0 h1 => lift_6 n w h0 h1, fun ax ay az bx by' bz w h h' => combine_6 ax ay az bx by' bz w h h'⟩
theorem kindAt_7 : KindAt 7 162 169 167 165 :=
  ⟨kindOf_7, fun w => by kernel_rfl, fun w => by kernel_rfl, fun w => by kernel_rfl, fun w => by kernel_rfl, fun w => by kernel_rfl, fun w => by kernel_rfl, fun args w => by kernel_rfl, fun args w => by kernel_rfl, fun args w => by kernel_rfl, unit_7, fun n w h0 h1 => lift_7 n w h0 h1, fun ax ay az bx by' bz w h h' => combine_7 ax ay az bx by' bz w h h'⟩
theorem kindAt_8 : KindAt 8 163 175 173 171 :=
  ⟨kindOf_8, fun w => by kernel_rfl, fun w => by kernel_rfl, fun w => by kernel_rfl, fun w => by kernel_rfl, fun w => by kernel_rfl, fun w => by kernel_rfl, fun args w => by kernel_rfl, fun args w => by kernel_rfl, fun args w => by kernel_rfl, unit_8, fun n w h0 h1 => lift_8 n w h0 h1, fun ax ay az bx by' bz w h h' => combine_8 ax ay az bx by' bz w h h'⟩
theorem kindAt_9 : KindAt 9 164 181 179 177 :=
  ⟨kindOf_9, fun w => by kernel_rfl, fun w => by kernel_rfl, fun w => by kernel_rfl, fun w => by kernel_rfl, fun w => by kernel_rfl, fun w => by kernel_rfl, fun args w => by kernel_rfl, fun args w => by kernel_rfl, fun args w => by kernel_rfl, unit_9, fun n w h0 h1 => lift_9 n w h0 h1, fun ax ay az bx by' bz w h h' => combine_9 ax ay az bx by' bz w h h'⟩
theorem kindAt_10 : KindAt 10 165 187 185 183 :=
  ⟨kindOf_10, fun w => by kernel_rfl, fun w => by kernel_rfl, fun w => by kernel_rfl, fun w => by kernel_rfl, fun w => by kernel_rfl, fun w => by kernel_rfl, fun args w => by kernel_rfl, fun args w => by kernel_rfl, fun args w => by kernel_rfl, unit_10, fun n w h0 h1 => lift_10 n w h0 h1, fun ax ay az bx by' bz w h h' => combine_10 ax ay az bx by' bz w h h'⟩
theorem kind_at {k : Int} (hk : Agg.isKind k = true) : ∃ T fu fl fc, KindAt k T fu fl fc := by
  rcases Agg.kinds hk with rfl | rfl | rfl | rfl | rfl | rfl | rfl | rfl | rfl | rfl
  · exact ⟨_, _, _, _, kindAt_1⟩
  · exact ⟨_, _, _, _, kindAt_2⟩
  · exact ⟨_, _, _, _, kindAt_3⟩
  · exact ⟨_, _, _, _, kindAt_4⟩
  · exact ⟨_, _, _, _, kindAt_5⟩
  · exact ⟨_, _, _, _, kindAt_6⟩
  · exact ⟨_, _, _, _, kindAt_7⟩
  · exact ⟨_, _, _, _, kindAt_8⟩
  · exact ⟨_, _, _, _, kindAt_9⟩
  · exact ⟨_, _, _, _, kindAt_10⟩
end Go.Proofs.YtolgclajlklmaaaGreat

namespace Go.Proofs.YtolgclajlklmaaaGreat
theorem zq1 {α : Type _} (l : List α) (i : Nat) (a : α) : l.toArray.setIfInBounds i a = (l.set i a).toArray := List.setIfInBounds_toArray l i a
theorem zq2 {α : Type _} {x : α} {xs : List α} {a : α} : (x :: xs).set 0 a = a :: xs := rfl
theorem zq3 {α : Type _} {x : α} {xs : List α} {i : Nat} {a : α} : (x :: xs).set (i + 1) a = x :: xs.set i a := rfl
theorem zq4 {α : Type _} {xs : List α} {i : Nat} (h : i < xs.toArray.size) : xs.toArray[i] = xs[i] := rfl
theorem zq5 {α : Type _} (a : α) (bs : List α) (h : 0 < (a :: bs).length) : (a :: bs)[0] = a := rfl
theorem zq6 {α : Type _} (a : α) (bs : List α) (i : Nat) (h : i + 1 < (a :: bs).length) : (a :: bs)[i + 1] = bs[i]'(by simpa using h) := rfl
theorem zqt {P : Program} {md : Region.Mode} {ops : Array Oper} {Q : Exit → Act → World → Prop} {S : World → Prop} (i : Nat) (v : Value) {oi : Oper} {fuel : Nat} {listed : Array Bool} {a : Act} {w : World}
    (hy : ∀ w, S w → (execOp a.eval oi).run P w = .ok (.value v) w) (hS : S w)
    (h : wpAnyH P md ops Q S fuel (listed.setIfInBounds i true) (a.put oi.dst v) w)
    (hi : ops[i]? = some oi := by rfl) (hw : Region.wanted oi (yielded ops a.tmps) = true := by rfl)
    (hs : Region.noSelect ops = true := by kernel_rfl) (hf : Region.free md ops listed i = true := by kernel_rfl) (hr : (Region.ready md ops listed).contains i = true := by kernel_rfl)
    (hQ : ∀ c a w, Q (.panic c) (a.put oi.dst v) w → Q (.panic c) a w := by exact fun _ _ _ h => h) : wpAnyH P md ops Q S (fuel + 1) listed a w :=
  wpAnyH_take hi hs hf hr hQ (Or.inl ⟨hw, hy⟩) hS h
end Go.Proofs.YtolgclajlklmaaaGreat
