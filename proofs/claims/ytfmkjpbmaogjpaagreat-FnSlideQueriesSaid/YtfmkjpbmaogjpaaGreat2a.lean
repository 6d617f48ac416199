/-
  The model's windows: a change applied to a copy.
-/
import Derived.Test.YtfmkjpbmaogjpaaGreat2l
import Derived.Deep.RegionLaw
namespace Go.Proofs.YtfmkjpbmaogjpaaGreat
set_option linter.unusedSimpArgs false
set_option linter.unusedVariables false
open Go.RowKit
/-- append to a row of the call's own, as one step of a region that draws. -/
theorem step_append_own {P : Program} {ops : Array Oper} {o : Oper} {a : Act} {w : World} {K : Act → World → Prop} {Q : Exit → Act → World → Prop} {E : Prop}
    (hg : o.guard = none) (s x : Operand) (t : TypeId) (hop : o.op = Op.call { callee := Callee.builtin Builtin.append, args := #[s, x], argTypes := #[t, t] })
    (base : Nat) (e : TypeId) (i : TypeInfo) (z : Value) (size bytes : Nat) (h1 : P.underlying t = some (.slice e)) (h2 : P.info? e = some i) (h3 : i.zero = some z) (h4 : i.size = size) (h5 : i.bytes = bytes) (h6 : z.cells.size = size) (h7 : 0 < size)
    (v : Value) (n : Nat) (xs : List Value) (hs : a.eval s = v) (hown : w.ownsRow base e size v n xs)
    (ad : Addr) (m c : Nat) (news : List Value) (hx : a.eval x = .slice (some ad) m c) (hn : news.length = m * size) (hc : ∀ j u, news[j]? = some u → w.cell? (ad.add j) = some u) (h1c : ∀ u ∈ news, u.oneCell' = true)
    (b1 : n + m ≤ maxLen) (b2 : (n + m) * bytes ≤ 140737488355328) (hbase : base ≤ w.heap.size)
    (hK : ∀ v' w', w'.ownsRow base e size v' (n + m) (xs ++ news) → w.grownBy w' v.ownBlock → (v' = .slice none 0 0 ↔ v = .slice none 0 0 ∧ m = 0) → K (a.put o.dst v') w') :
    if Region.wanted o (yielded ops a.tmps) = true then Oper.wp P o a w K Q else E := by
  have hw : Region.wanted o (yielded ops a.tmps) = true := by simp [Region.wanted, hg]
  rw [if_pos hw]
  exact wp_append_own w s x t hop base e i z size bytes h1 h2 h3 h4 h5 h6 h7 v n xs hs hown ad m c news hx hn hc h1c b1 b2 hbase hK
theorem own_empty {w : World} {base e g : Nat} (hb : base ≤ g) (h : w.heap[g]? = some (.cells #[] e (0, 0))) : w.ownsRow base e 1 (.slice (some ⟨g, 0, none⟩) 0 0) 0 [] :=
  ⟨rfl, .inr ⟨g, 0, _, rfl, hb, h, Nat.le_refl _, by simp, rfl, rfl⟩⟩
theorem cell_old {Y : World} {a : Addr} {v : Value} {o : Obj} (hb : a.block < Y.heap.size) (h : Y.cell? a = some v) : (Y.alloc o).cell? a = some v := (World.cell?_of_block (heap_alloc_old Y o hb)).trans h
theorem cell_new' {Y : World} {v : Value} {T : TypeId} {g : Nat} (hg : g = Y.heap.size) : (Y.alloc (.cells #[v] T)).cell? ⟨g, 0, none⟩ = some v := by
  subst hg; simp
theorem cell_drew {Y : World} {a : Addr} {v : Value} (h : Y.cell? a = some v) : Y.drew.cell? a = some v := h
theorem own_drew {w : World} {base e size n : Nat} {v : Value} {xs : List Value} (h : w.ownsRow base e size v n xs) : w.drew.ownsRow base e size v n xs := h
theorem own_empty_new {Y : World} {base e g : Nat} (hb : base ≤ Y.heap.size) (hg : g = Y.heap.size) : (Y.alloc (.cells #[] e)).ownsRow base e 1 (.slice (some ⟨g, 0, none⟩) 0 0) 0 [] := by
  subst hg
  exact own_empty hb (heap_alloc_new Y _)
theorem nums_news {w : World} {b off n cap : Nat} {l : List Int} (h : Nums .i64 w (some ⟨b, off, none⟩) n cap l) : ∀ j u, (l.map (Value.int .i64))[j]? = some u → w.cell? ((⟨b, off, none⟩ : Addr).add j) = some u := by
  intro j u hj
  obtain ⟨h1, h2, h3, h4⟩ := h
  have hjl : j < l.length := by have := (List.getElem?_eq_some_iff.1 hj).1; simpa using this
  rcases h4 with h4 | ⟨b', off', ha, hb, hc⟩
  · omega
  · simp only [Option.some.injEq, Addr.mk.injEq, and_true] at ha
    obtain ⟨rfl, rfl⟩ := ha
    rw [Addr.add_lit, hc j (by omega), List.getElem?_eq_getElem hjl]
    simp [List.getElem?_map, List.getElem?_eq_getElem hjl] at hj ⊢
    exact hj
theorem Nums.drop1 {k : IntKind} {w : World} {b n cap : Nat} {l : List Int} (h : Nums k w (some ⟨b, 0, none⟩) n cap l) (hi : 1 ≤ n) : Nums k w (some ⟨b, 1, none⟩) (n - 1) (cap - 1) (l.drop 1) := by
  obtain ⟨h1, h2, h3, h4⟩ := h
  refine ⟨by simp; omega, by omega, by omega, ?_⟩
  rcases h4 with h4 | ⟨b', off', ha, hb, hc⟩
  · exact .inl (by omega)
  · simp only [Option.some.injEq, Addr.mk.injEq, and_true] at ha
    obtain ⟨rfl, rfl⟩ := ha
    refine .inr ⟨b, 1, rfl, hb, fun j hj => ?_⟩
    have := hc (1 + j) (by omega)
    rw [Nat.zero_add] at this
    rw [this, List.getElem?_drop]
theorem one_news {w : World} {g : Nat} {x : Int} (h : w.cell? ⟨g, 0, none⟩ = some (.int .i64 x)) : ∀ j u, [Value.int .i64 x][j]? = some u → w.cell? ((⟨g, 0, none⟩ : Addr).add j) = some u := by
  intro j u hj
  match j, hj with
  | 0, hj => simp at hj; subst hj; simpa [Addr.add] using h
  | j + 1, hj => simp at hj
/-- A row that is not nil. -/
def RowNew (l : List Int) (w : World) (e : Ending) (w' : World) : Prop :=
  ∃ g c, e = .returned (.slice (some ⟨g, 0, none⟩) l.length c) ∧ OwnR w' w.heap.size w'.heap.size (.slice (some ⟨g, 0, none⟩) l.length c) l.length l ∧ Below w.heap.size w w'
theorem RowNew.mk' {w w' : World} {v : Value} {n : Nat} {l : List Int} (h : w'.ownsRow w.heap.size 3 1 v n (l.map (Value.int .i64))) (hv : v ≠ .slice none 0 0) (hb : Below w.heap.size w w') : RowNew l w (.returned v) w' := by
  have hl : l.length = n := by have := h.1; simpa using this
  subst hl
  obtain ⟨b, cap, rfl, -⟩ : ∃ b cap, v = .slice (some ⟨b, 0, none⟩) l.length cap ∧ True := by
    rcases h.2 with ⟨rfl, _⟩ | ⟨g, cap, cur, rfl, -⟩
    · exact absurd rfl hv
    · exact ⟨g, cap, rfl, trivial⟩
  exact ⟨b, cap, rfl, OwnR.made h hb.size, hb⟩
set_option maxRecDepth 8000 in
set_option maxHeartbeats 2000000 in
theorem s_take_any (x : Int) (b n cap : Nat) (l : List Int) (w : World) (h : Nums .i64 w (some ⟨b, 0, none⟩) n cap l) (hn : 0 < n) (h60 : n ≤ 60) :
    Calls Tryz.prog 66 #[.slice (some ⟨b, 0, none⟩) n cap, .agg #[.bool false, .int .i64 x]] w (RowNew l.tail w) := by
  obtain ⟨i0, hi0, hz0, hz1, hz2⟩ := info_parts infoInt
  have hll : l.length = n := h.1
  have hnc := h.2.1
  have hcm : cap ≤ 9223372036854775807 := by have := h.2.2.1; unfold maxLen at this; omega
  have htl : l.drop 1 = l.tail := by simp
  have hlt : l.tail.length = n - 1 := by rw [List.length_tail]; omega
  have HN := Lib.hid h; clear h
  have h1 : (1 : Int) ≤ (n : Int) := by omega
  have h2 : (1 : Int) ≤ (cap : Int) := by omega
  have hown : ((w.alloc (.cells #[.bool false, .int .i64 x] 90)).alloc (.cells #[] 3)).ownsRow w.heap.size 3 1 (.slice (some ⟨w.heap.size + 1, 0, none⟩) 0 0) 0 [] := own_empty (by omega) (by have := heap_alloc_new (w.alloc (.cells #[.bool false, .int .i64 x] 90)) (.cells #[] 3); simpa using this)
  have hbel : Below w.heap.size w ((w.alloc (.cells #[.bool false, .int .i64 x] 90)).alloc (.cells #[] 3)) := ((Below.refl _ _).alloc (Nat.le_refl _) _).alloc (by simp) _
  have HO := Lib.hid hown
  have HB := Lib.hid hbel
  clear hown hbel
  have hfin : ∀ v' w', w'.ownsRow w.heap.size 3 1 v' (0 + (n - 1)) ([] ++ l.tail.map (Value.int .i64)) → ((w.alloc (.cells #[.bool false, .int .i64 x] 90)).alloc (.cells #[] 3)).grownBy w' (some (w.heap.size + 1)) → (v' = .slice none 0 0 ↔ (Value.slice (some ⟨w.heap.size + 1, 0, none⟩) 0 0) = .slice none 0 0 ∧ n - 1 = 0) → RowNew l.tail w (.returned v') w' := by
    intro v' w' h1 h2 h3
    exact RowNew.mk' (n := 0 + (n - 1)) h1 (fun e => by have := h3.1 e; simp at this) (HB.out.grown h2 (by simp; omega) (fun k hk => by have := Option.some.inj hk; omega))
  have HF := Lib.hid hfin
  clear hfin
  by_cases hc1 : cap = 1
  · subst hc1
    obtain rfl : n = 1 := by omega
    have hnil : l.tail = [] := List.eq_nil_of_length_eq_zero (by omega)
    go_enter Tryz.func66, Tryz.ntmps66
    go_wp2_with (at_builtin; refine wpList_append_own _ rfl (.tmp 14) (.tmp 16) 34 rfl w.heap.size 3 i0 (.int .i64 0) 1 8 Tryz.underlying34 hi0 hz0 hz1 hz2 rfl (by decide) _ _ _ rfl HO.out ⟨b, 0, none⟩ 0 0 [] rfl rfl (by intro j u hj; simp at hj) (by intro u hu; simp at hu) (by unfold maxLen; omega) (by omega) (by simp; omega) ?_; intro v' w' hown' hgrow' hnil')
    have HR := Lib.hid (HF.out v' w' (by rw [hnil]; simpa using hown') hgrow' hnil')
    rw [hnil] at HR
    clear hown' hgrow' hnil'
    go_wp2
    go_returns
    exact HR.out
  · have h3 : (1 : Int) < (cap : Int) := by omega
    have h4 : ¬ (cap - 1 = 0) := by omega
    have hD := Nums.drop1 (HN.out.below HB.out) (by omega)
    rw [htl] at hD
    have HD := Lib.hid hD
    clear hD
    go_enter Tryz.func66, Tryz.ntmps66
    go_wp2_with (at_builtin; refine wpList_append_own _ rfl (.tmp 14) (.tmp 16) 34 rfl w.heap.size 3 i0 (.int .i64 0) 1 8 Tryz.underlying34 hi0 hz0 hz1 hz2 rfl (by decide) _ _ _ rfl HO.out ⟨b, 1, none⟩ (n - 1) (cap - 1) (l.tail.map (Value.int .i64)) rfl (by simp; omega) (by have := nums_news HD.out; simpa using this) (ints_oneCell .i64 _) (by unfold maxLen; omega) (by omega) (by simp; omega) ?_; intro v' w' hown' hgrow' hnil')
    have HR := Lib.hid (HF.out v' w' hown' hgrow' hnil')
    clear hown' hgrow' hnil'
    go_wp2
    go_returns
    exact HR.out
set_option maxRecDepth 8000 in
set_option maxHeartbeats 2000000 in
theorem s_push_any (x : Int) (b n cap : Nat) (l : List Int) (w : World) (h : Nums .i64 w (some ⟨b, 0, none⟩) n cap l) (hbw : b < w.heap.size) (h60 : n ≤ 60) :
    Calls Tryz.prog 66 #[.slice (some ⟨b, 0, none⟩) n cap, .agg #[.bool true, .int .i64 x]] w (RowNew (l ++ [x]) w) := by
  obtain ⟨i0, hi0, hz0, hz1, hz2⟩ := info_parts infoInt
  have hll : l.length = n := h.1
  have hnc := h.2.1
  have hcm : cap ≤ 9223372036854775807 := by have := h.2.2.1; unfold maxLen at this; omega
  have HN := Lib.hid h; clear h
  go_enter Tryz.func66, Tryz.ntmps66
  go_wp2
  go_region_law (first
    | (refine step_append_own (by rfl) (.tmp 7) (.tmp 8) 34 (by rfl) w.heap.size 3 i0 (.int .i64 0) 1 8 Tryz.underlying34 hi0 hz0 hz1 hz2 rfl (by decide) (.slice (some ⟨w.heap.size + 1, 0, none⟩) 0 0) 0 [] (by rfl) (by first | exact (own_empty_new (by first | (simp; done) | (simp; omega)) (by simp)) | exact own_drew (own_empty_new (by first | (simp; done) | (simp; omega)) (by simp)) | exact (own_empty_new (by first | (simp; done) | (simp; omega)) (by simp)).alloc _ | exact own_drew ((own_empty_new (by first | (simp; done) | (simp; omega)) (by simp)).alloc _) | exact (own_drew (own_empty_new (by first | (simp; done) | (simp; omega)) (by simp))).alloc _ | exact own_drew ((own_drew (own_empty_new (by first | (simp; done) | (simp; omega)) (by simp))).alloc _)) ⟨b, 0, none⟩ n cap (l.map (Value.int .i64)) (by rfl) (by simp; omega) (nums_news (HN.out.below (by go_grown))) (ints_oneCell .i64 _) (by unfold maxLen; omega) (by omega) (by simp; omega) ?_; intro v1 w1 hown1 hgrow1 hnil1; have hs1 := hgrow1.size; (try simp at hs1); have hbx : w1.cell? ⟨w.heap.size, 1, none⟩ = some (.int .i64 x) := (World.cell?_of_block (a := ⟨w.heap.size, 1, none⟩) (hgrow1.block _ (by first | (simp; done) | (simp; omega)) (by simp [Value.ownBlock] <;> omega))).trans (by first | (simp; done) | exact cell_old (by simp <;> omega) (by simp; done) | exact cell_old (by simp <;> omega) (cell_old (by simp <;> omega) (by simp; done)) | exact cell_new' (by simp) | exact cell_old (by simp <;> omega) (cell_new' (by simp)) | exact cell_drew (cell_new' (by simp)) | exact cell_old (by simp <;> omega) (cell_drew (cell_new' (by simp))) | exact cell_drew (cell_old (by simp <;> omega) (cell_new' (by simp))) | exact cell_drew (cell_old (by simp <;> omega) (cell_drew (cell_new' (by simp))))); (try have hI1 : w1.cell? ⟨w.heap.size + 1 + 1, 0, none⟩ = some (.int .i64 x) := (World.cell?_of_block (a := ⟨w.heap.size + 1 + 1, 0, none⟩) (hgrow1.block _ (by first | (simp; done) | (simp; omega)) (by simp [Value.ownBlock] <;> omega))).trans (by first | (simp; done) | exact cell_old (by simp <;> omega) (by simp; done) | exact cell_old (by simp <;> omega) (cell_old (by simp <;> omega) (by simp; done)) | exact cell_new' (by simp) | exact cell_old (by simp <;> omega) (cell_new' (by simp)) | exact cell_drew (cell_new' (by simp)) | exact cell_old (by simp <;> omega) (cell_drew (cell_new' (by simp))) | exact cell_drew (cell_old (by simp <;> omega) (cell_new' (by simp))) | exact cell_drew (cell_old (by simp <;> omega) (cell_drew (cell_new' (by simp)))))); have HO1 := Lib.hid hown1; have HV1 := Lib.hid (show v1 ≠ .slice none 0 0 from fun e => by have := hnil1.1 e; simp at this); have HB1 := Lib.hid (show Below w.heap.size w w1 from Below.grown (by go_grown) hgrow1 (by first | (simp; done) | (simp; omega)) (fun k hk => by simp [Value.ownBlock] at hk; omega)); clear hown1 hgrow1 hnil1)
    | (refine step_append_own (by rfl) (.tmp 7) (.tmp 8) 34 (by rfl) w.heap.size 3 i0 (.int .i64 0) 1 8 Tryz.underlying34 hi0 hz0 hz1 hz2 rfl (by decide) (.slice (some ⟨w.heap.size + 1 + 1, 0, none⟩) 0 0) 0 [] (by rfl) (by first | exact (own_empty_new (by first | (simp; done) | (simp; omega)) (by simp)) | exact own_drew (own_empty_new (by first | (simp; done) | (simp; omega)) (by simp)) | exact (own_empty_new (by first | (simp; done) | (simp; omega)) (by simp)).alloc _ | exact own_drew ((own_empty_new (by first | (simp; done) | (simp; omega)) (by simp)).alloc _) | exact (own_drew (own_empty_new (by first | (simp; done) | (simp; omega)) (by simp))).alloc _ | exact own_drew ((own_drew (own_empty_new (by first | (simp; done) | (simp; omega)) (by simp))).alloc _)) ⟨b, 0, none⟩ n cap (l.map (Value.int .i64)) (by rfl) (by simp; omega) (nums_news (HN.out.below (by go_grown))) (ints_oneCell .i64 _) (by unfold maxLen; omega) (by omega) (by simp; omega) ?_; intro v1 w1 hown1 hgrow1 hnil1; have hs1 := hgrow1.size; (try simp at hs1); have hbx : w1.cell? ⟨w.heap.size, 1, none⟩ = some (.int .i64 x) := (World.cell?_of_block (a := ⟨w.heap.size, 1, none⟩) (hgrow1.block _ (by first | (simp; done) | (simp; omega)) (by simp [Value.ownBlock] <;> omega))).trans (by first | (simp; done) | exact cell_old (by simp <;> omega) (by simp; done) | exact cell_old (by simp <;> omega) (cell_old (by simp <;> omega) (by simp; done)) | exact cell_new' (by simp) | exact cell_old (by simp <;> omega) (cell_new' (by simp)) | exact cell_drew (cell_new' (by simp)) | exact cell_old (by simp <;> omega) (cell_drew (cell_new' (by simp))) | exact cell_drew (cell_old (by simp <;> omega) (cell_new' (by simp))) | exact cell_drew (cell_old (by simp <;> omega) (cell_drew (cell_new' (by simp))))); (try have hI1 : w1.cell? ⟨w.heap.size + 1, 0, none⟩ = some (.int .i64 x) := (World.cell?_of_block (a := ⟨w.heap.size + 1, 0, none⟩) (hgrow1.block _ (by first | (simp; done) | (simp; omega)) (by simp [Value.ownBlock] <;> omega))).trans (by first | (simp; done) | exact cell_old (by simp <;> omega) (by simp; done) | exact cell_old (by simp <;> omega) (cell_old (by simp <;> omega) (by simp; done)) | exact cell_new' (by simp) | exact cell_old (by simp <;> omega) (cell_new' (by simp)) | exact cell_drew (cell_new' (by simp)) | exact cell_old (by simp <;> omega) (cell_drew (cell_new' (by simp))) | exact cell_drew (cell_old (by simp <;> omega) (cell_new' (by simp))) | exact cell_drew (cell_old (by simp <;> omega) (cell_drew (cell_new' (by simp)))))); have HO1 := Lib.hid hown1; have HV1 := Lib.hid (show v1 ≠ .slice none 0 0 from fun e => by have := hnil1.1 e; simp at this); have HB1 := Lib.hid (show Below w.heap.size w w1 from Below.grown (by go_grown) hgrow1 (by first | (simp; done) | (simp; omega)) (fun k hk => by simp [Value.ownBlock] at hk; omega)); clear hown1 hgrow1 hnil1)
    | (refine step_append_own (by rfl) (.tmp 9) (.tmp 12) 34 (by rfl) w.heap.size 3 i0 (.int .i64 0) 1 8 Tryz.underlying34 hi0 hz0 hz1 hz2 rfl (by decide) v1 _ _ (by rfl) (by first | exact HO1.out | exact HO1.out.alloc _ | exact own_drew HO1.out | exact own_drew (HO1.out.alloc _) | exact (own_drew HO1.out).alloc _ | exact own_drew ((own_drew HO1.out).alloc _)) ⟨w.heap.size + 1, 0, none⟩ 1 1 [.int .i64 x] (by rfl) (by rfl) (one_news (by first | assumption | (simp; done) | (simp; assumption))) (fun u hu => by rw [List.mem_singleton.1 hu]; rfl) (by unfold maxLen; omega) (by omega) (by first | omega | (simp; omega)) ?_; intro v2 w2 hown2 hgrow2 hnil2; have HO2 := Lib.hid hown2; have HV2 := Lib.hid (show v2 ≠ .slice none 0 0 from fun e => HV1.out (hnil2.1 e).1); have HB2 := Lib.hid (show Below w.heap.size w w2 from Below.grown (by have := HB1.out; have := HB1.out.size; go_grown) hgrow2 (by first | exact HB1.out.size | (have := HB1.out.size; simp; omega)) (fun k hk => (HO1.out.lt k hk).1)); clear hown2 hgrow2 hnil2)
    | (refine step_append_own (by rfl) (.tmp 9) (.tmp 12) 34 (by rfl) w.heap.size 3 i0 (.int .i64 0) 1 8 Tryz.underlying34 hi0 hz0 hz1 hz2 rfl (by decide) v1 _ _ (by rfl) (by first | exact HO1.out | exact HO1.out.alloc _ | exact own_drew HO1.out | exact own_drew (HO1.out.alloc _) | exact (own_drew HO1.out).alloc _ | exact own_drew ((own_drew HO1.out).alloc _)) ⟨w.heap.size + 1 + 1, 0, none⟩ 1 1 [.int .i64 x] (by rfl) (by rfl) (one_news (by first | assumption | (simp; done) | (simp; assumption))) (fun u hu => by rw [List.mem_singleton.1 hu]; rfl) (by unfold maxLen; omega) (by omega) (by first | omega | (simp; omega)) ?_; intro v2 w2 hown2 hgrow2 hnil2; have HO2 := Lib.hid hown2; have HV2 := Lib.hid (show v2 ≠ .slice none 0 0 from fun e => HV1.out (hnil2.1 e).1); have HB2 := Lib.hid (show Below w.heap.size w w2 from Below.grown (by have := HB1.out; have := HB1.out.size; go_grown) hgrow2 (by first | exact HB1.out.size | (have := HB1.out.size; simp; omega)) (fun k hk => (HO1.out.lt k hk).1)); clear hown2 hgrow2 hnil2)
    | (refine step_append_own (by rfl) (.tmp 9) (.tmp 12) 34 (by rfl) w.heap.size 3 i0 (.int .i64 0) 1 8 Tryz.underlying34 hi0 hz0 hz1 hz2 rfl (by decide) v1 _ _ (by rfl) (by first | exact HO1.out | exact HO1.out.alloc _ | exact own_drew HO1.out | exact own_drew (HO1.out.alloc _) | exact (own_drew HO1.out).alloc _ | exact own_drew ((own_drew HO1.out).alloc _)) ⟨w1.heap.size, 0, none⟩ 1 1 [.int .i64 x] (by rfl) (by rfl) (one_news (by first | assumption | (simp; done) | (simp; assumption))) (fun u hu => by rw [List.mem_singleton.1 hu]; rfl) (by unfold maxLen; omega) (by omega) (by first | omega | (simp; omega)) ?_; intro v2 w2 hown2 hgrow2 hnil2; have HO2 := Lib.hid hown2; have HV2 := Lib.hid (show v2 ≠ .slice none 0 0 from fun e => HV1.out (hnil2.1 e).1); have HB2 := Lib.hid (show Below w.heap.size w w2 from Below.grown (by have := HB1.out; have := HB1.out.size; go_grown) hgrow2 (by first | exact HB1.out.size | (have := HB1.out.size; simp; omega)) (fun k hk => (HO1.out.lt k hk).1)); clear hown2 hgrow2 hnil2))
  all_goals
    go_wp2
    go_returns
    exact RowNew.mk' (v := v2) (n := n + 1) (by have := HO2.out; simpa using this) HV2.out HB2.out
end Go.Proofs.YtfmkjpbmaogjpaaGreat
