import Derived.Test.YtofpnmjadflebaaRw
import Derived.Test.YtofpnmjadflebaaMa
import Derived.OwnWalk
import Derived.Deep.AppendSrc
import Derived.Lib.AppendZeros
import Derived.Test.YtofpnmjadflebaaS0
/-
  Changes: copied, measured, told apart, collected.
-/
namespace Go.Proofs.Ytofpnmjadflebaa
end Go.Proofs.Ytofpnmjadflebaa

/-
  Windows in memory: a queue as a slice of numbers that may begin inside its block; what a push keeps of the windows before it.
-/
namespace Go.Proofs.Ytofpnmjadflebaa
set_option linter.unusedSimpArgs false
set_option linter.unusedVariables false
open Go.RowKit

/-- A block of numbers. -/
def IntBlock (w : World) (g : Nat) : Prop := ∃ cur, w.heap[g]? = some (.cells cur 3 (0, 0))
/-- The current window: nil, or a slice into a block of numbers. -/
def Qu (w : World) (base : Nat) (v : Value) (l : List Int) : Prop :=
  (v = .slice none 0 0 ∧ l = []) ∨
  ∃ g off cap cur, v = .slice (some ⟨g, off, none⟩) l.length cap ∧ base ≤ g ∧ w.heap[g]? = some (.cells cur 3 (0, 0)) ∧ l.length ≤ cap ∧ cap ≤ maxLen ∧ off + cap ≤ cur.size ∧
    ∀ i, i < l.length → w.cell? ⟨g, off + i, none⟩ = some (.int .i64 (l[i]?.getD 0))
/-- An earlier window, which the current one does not write. -/
def Old (w : World) (cur h : Value) (l : List Int) : Prop :=
  ∃ a n cap, h = .slice a n cap ∧ Nums .i64 w a n cap l ∧
    (n = 0 ∨ ∃ g off, a = some ⟨g, off, none⟩ ∧ IntBlock w g ∧ ∀ g2 off2 n2 cap2, cur = .slice (some ⟨g2, off2, none⟩) n2 cap2 → n2 < cap2 → g = g2 → off + n ≤ off2 + n2)

theorem IntBlock.kept {w w' : World} {g : Nat} {row : Option Nat} (h : IntBlock w g) (hg : w.grownBy w' row) (hr : row ≠ some g) : IntBlock w' g := by
  obtain ⟨cur, hc⟩ := h
  exact ⟨cur, (hg.block g (Array.getElem?_eq_some_iff.1 hc).1 (fun e => hr e.symm)).trans hc⟩
theorem IntBlock.lt {w : World} {g : Nat} (h : IntBlock w g) : g < w.heap.size := by
  obtain ⟨cur, hc⟩ := h
  exact (Array.getElem?_eq_some_iff.1 hc).1

theorem Qu.kept {w w' : World} {base : Nat} {v : Value} {l : List Int} {row : Option Nat} (h : Qu w base v l) (hg : w.grownBy w' row) (hr : ∀ g, row = some g → ¬ IntBlock w g) : Qu w' base v l := by
  rcases h with h | ⟨g, off, cap, cur, hv, hb, hh, h1, h2, h3, h4⟩
  · exact .inl h
  · have hne : row ≠ some g := fun e => hr g e ⟨cur, hh⟩
    have hlt := (Array.getElem?_eq_some_iff.1 hh).1
    have hblk := hg.block g hlt (fun e => hne e.symm)
    exact .inr ⟨g, off, cap, cur, hv, hb, hblk.trans hh, h1, h2, h3, fun i hi => (World.cell?_of_block (a := ⟨g, off + i, none⟩) hblk).trans (h4 i hi)⟩
theorem Old.kept {w w' : World} {cur h : Value} {l : List Int} {row : Option Nat} (ho : Old w cur h l) (hg : w.grownBy w' row) (hr : ∀ g, row = some g → ¬ IntBlock w g) : Old w' cur h l := by
  obtain ⟨a, n, cap, rfl, ⟨h1, h2, h3, h4⟩, h5⟩ := ho
  rcases h5 with h5 | ⟨g, off, rfl, hi, he⟩
  · exact ⟨a, n, cap, rfl, ⟨h1, h2, h3, .inl h5⟩, .inl h5⟩
  · have hne : row ≠ some g := fun e => hr g e hi
    have hblk := hg.block g hi.lt (fun e => hne e.symm)
    refine ⟨_, n, cap, rfl, ⟨h1, h2, h3, ?_⟩, .inr ⟨g, off, rfl, hi.kept hg hne, he⟩⟩
    rcases h4 with h4 | ⟨b, off', hb, hlt, hc⟩
    · exact .inl h4
    · simp only [Option.some.injEq, Addr.mk.injEq, and_true] at hb
      obtain ⟨rfl, rfl⟩ := hb
      exact .inr ⟨g, off, rfl, Nat.lt_of_lt_of_le hi.lt hg.size, fun i hi2 => (World.cell?_of_block (a := ⟨g, off + i, none⟩) hblk).trans (hc i hi2)⟩

theorem Qu.form {w : World} {base : Nat} {v : Value} {l : List Int} (h : Qu w base v l) : ∃ a cap, v = .slice a l.length cap ∧ l.length ≤ cap ∧ cap ≤ 9223372036854775807 := by
  rcases h with ⟨rfl, rfl⟩ | ⟨g, off, cap, cur, rfl, -, -, h1, h2, -⟩
  · exact ⟨none, 0, rfl, Nat.le_refl _, by omega⟩
  · unfold maxLen at h2; exact ⟨_, cap, rfl, h1, by omega⟩
/-- The current window is one of those that are kept. -/
theorem Qu.old {w : World} {base : Nat} {v : Value} {l : List Int} (h : Qu w base v l) : Old w v v l := by
  rcases h with ⟨rfl, rfl⟩ | ⟨g, off, cap, cur, rfl, hb, hh, h1, h2, h3, h4⟩
  · exact ⟨none, 0, 0, rfl, ⟨rfl, Nat.le_refl _, by simp [maxLen], .inl rfl⟩, .inl rfl⟩
  · refine ⟨_, _, cap, rfl, ⟨rfl, h1, h2, .inr ⟨g, off, rfl, (Array.getElem?_eq_some_iff.1 hh).1, h4⟩⟩, .inr ⟨g, off, rfl, ⟨cur, hh⟩, ?_⟩⟩
    intro g2 off2 n2 cap2 e _ _
    simp only [Value.slice.injEq, Option.some.injEq, Addr.mk.injEq, and_true] at e
    omega

/-- What a push does: one cell behind the window, or a new block. -/
def Pushed (w : World) (v : Value) (w' : World) (v' : Value) : Prop :=
  w'.os = w.os ∧ w'.tape = w.tape ∧ w'.output = w.output ∧ w.heap.size ≤ w'.heap.size ∧
  ((Below w.heap.size w w' ∧ ∃ H n c, v' = .slice (some ⟨H, 0, none⟩) n c ∧ w.heap.size ≤ H) ∨
   ∃ g off n cap, v = .slice (some ⟨g, off, none⟩) n cap ∧ v' = .slice (some ⟨g, off, none⟩) (n + 1) cap ∧ n < cap ∧ IntBlock w g ∧ IntBlock w' g ∧ (∀ k, k ≠ g → w'.heap[k]? = w.heap[k]?) ∧ (∀ o, o ≠ off + n → w'.cell? ⟨g, o, none⟩ = w.cell? ⟨g, o, none⟩))

theorem Old.push {w w' : World} {v v' h : Value} {l : List Int} (ho : Old w v h l) (hp : Pushed w v w' v') : Old w' v' h l := by
  obtain ⟨a, n, cap, rfl, ⟨h1, h2, h3, h4⟩, h5⟩ := ho
  obtain ⟨p1, p2, p3, p4, p5⟩ := hp
  rcases h5 with h5 | ⟨g, off, rfl, hi, he⟩
  · exact ⟨a, n, cap, rfl, ⟨h1, h2, h3, .inl h5⟩, .inl h5⟩
  · rcases p5 with ⟨hb, H, n2, c2, rfl, hH⟩ | ⟨g2, off2, n2, cap2, rfl, rfl, hlt, -, hi2, hk, ho2⟩
    · refine ⟨_, n, cap, rfl, Nums.below ⟨h1, h2, h3, h4⟩ hb, .inr ⟨g, off, rfl, hi.kept (row := none) (Below.grownNone hb none) (by simp), ?_⟩⟩
      intro g3 off3 n3 cap3 e _ e2
      simp only [Value.slice.injEq, Option.some.injEq, Addr.mk.injEq, and_true] at e
      have := hi.lt
      omega
    · by_cases hg : g = g2
      · subst hg
        have hend := he g off2 n2 cap2 rfl hlt rfl
        refine ⟨_, n, cap, rfl, ⟨h1, h2, h3, ?_⟩, .inr ⟨g, off, rfl, hi2, ?_⟩⟩
        · rcases h4 with h4 | ⟨b, off', hb, hlt2, hc⟩
          · exact .inl h4
          · simp only [Option.some.injEq, Addr.mk.injEq, and_true] at hb
            obtain ⟨rfl, rfl⟩ := hb
            exact .inr ⟨g, off, rfl, hi2.lt, fun i hi3 => (ho2 (off + i) (by omega)).trans (hc i hi3)⟩
        · intro g3 off3 n3 cap3 e _ e2
          simp only [Value.slice.injEq, Option.some.injEq, Addr.mk.injEq, and_true] at e
          omega
      · have hblk := hk g hg
        refine ⟨_, n, cap, rfl, ⟨h1, h2, h3, ?_⟩, .inr ⟨g, off, rfl, ?_, ?_⟩⟩
        · rcases h4 with h4 | ⟨b, off', hb, hlt2, hc⟩
          · exact .inl h4
          · simp only [Option.some.injEq, Addr.mk.injEq, and_true] at hb
            obtain ⟨rfl, rfl⟩ := hb
            exact .inr ⟨g, off, rfl, by omega, fun i hi3 => (World.cell?_of_block (a := ⟨g, off + i, none⟩) hblk).trans (hc i hi3)⟩
        · obtain ⟨cur, hc⟩ := hi
          exact ⟨cur, hblk.trans hc⟩
        · intro g3 off3 n3 cap3 e _ e2
          simp only [Value.slice.injEq, Option.some.injEq, Addr.mk.injEq, and_true] at e
          omega

theorem row_block {w : World} {base e size n g : Nat} {v : Value} {xs : List Value} (h : w.ownsRow base e size v n xs) (hg : v.ownBlock = some g) : ∃ cur, w.heap[g]? = some (.cells cur e (0, 0)) := by
  rcases h.2 with ⟨rfl, _⟩ | ⟨g', cap, cur, rfl, -, hh, -⟩
  · simp [Value.ownBlock] at hg
  · simp only [Value.ownBlock, Option.some.injEq] at hg
    subst hg
    exact ⟨cur, hh⟩
theorem not_int {w : World} {base e size n : Nat} {v : Value} {xs : List Value} (h : w.ownsRow base e size v n xs) (he : e ≠ 3) : ∀ g, v.ownBlock = some g → ¬ IntBlock w g := by
  intro g hg ⟨cur, hc⟩
  obtain ⟨cur', hc'⟩ := row_block h hg
  rw [hc] at hc'
  simp only [Option.some.injEq, Obj.cells.injEq] at hc'
  exact he hc'.2.1.symm
theorem rows_apart {w : World} {base e size n base' e' size' n' : Nat} {v v' : Value} {xs xs' : List Value} (h : w.ownsRow base e size v n xs) (h' : w.ownsRow base' e' size' v' n' xs') (he : e ≠ e') : v.ownBlock = none ∨ v.ownBlock ≠ v'.ownBlock := by
  cases hg : v.ownBlock with
  | none => exact .inl rfl
  | some g =>
    refine .inr (fun e2 => ?_)
    obtain ⟨cur, hc⟩ := row_block h hg
    obtain ⟨cur', hc'⟩ := row_block h' e2.symm
    rw [hc] at hc'
    simp only [Option.some.injEq, Obj.cells.injEq] at hc'
    exact he hc'.2.1
/-- A row of something else than numbers stays where a window is pushed. -/
theorem row_pushed {w wm w' : World} {base e size n : Nat} {v u u' : Value} {xs : List Value} (h : w.ownsRow base e size v n xs) (he : e ≠ 3) (hb : Below w.heap.size w wm) (hp : Pushed wm u w' u') : w'.ownsRow base e size v n xs := by
  have h1 := h.kept (Below.grownNone hb none) (by cases hv : v.ownBlock <;> simp)
  obtain ⟨p1, p2, p3, p4, p5⟩ := hp
  rcases p5 with ⟨hb2, -⟩ | ⟨g, off, k, cap, -, -, -, hi, -, hk, -⟩
  · exact h1.kept (Below.grownNone hb2 none) (by cases hv : v.ownBlock <;> simp)
  · refine h1.kept (row := some g) ⟨p1, p2, p3, p4, fun i _ hne => hk i (fun e => hne (by rw [e]))⟩ ?_
    cases hv : v.ownBlock with
    | none => exact .inl rfl
    | some g' =>
      refine .inr (fun e2 => ?_)
      rw [Option.some.inj e2] at hv
      exact not_int h1 he g hv hi

/-- A window without its first item. -/
theorem Old.take {w : World} {g off n cap : Nat} {v' h : Value} {l : List Int} (ho : Old w (.slice (some ⟨g, off, none⟩) n cap) h l) (hn : 0 < n) (hnc : n ≤ cap)
    (hv : v' = .slice (some ⟨g, off + 1, none⟩) (n - 1) (cap - 1) ∨ (cap = 1 ∧ ∃ o, v' = .slice (some ⟨g, o, none⟩) 0 0)) : Old w v' h l := by
  obtain ⟨a, n', cap', rfl, hN, h5⟩ := ho
  refine ⟨a, n', cap', rfl, hN, ?_⟩
  rcases h5 with h5 | ⟨g1, off1, ha, hi, he⟩
  · exact .inl h5
  · refine .inr ⟨g1, off1, ha, hi, ?_⟩
    intro g2 off2 n2 cap2 e hlt eg
    rcases hv with rfl | ⟨hc, o, rfl⟩
    · simp only [Value.slice.injEq, Option.some.injEq, Addr.mk.injEq, and_true] at e
      have := he g off n cap rfl (by omega) (by omega)
      omega
    · simp only [Value.slice.injEq, Option.some.injEq, Addr.mk.injEq, and_true] at e
      omega
theorem Qu.take {w : World} {base : Nat} {g off n cap : Nat} {v' : Value} {l : List Int} (h : Qu w base (.slice (some ⟨g, off, none⟩) n cap) l) (hn : 0 < n)
    (hv : v' = .slice (some ⟨g, off + 1, none⟩) (n - 1) (cap - 1) ∨ (cap = 1 ∧ ∃ o, o ≤ off + 1 ∧ v' = .slice (some ⟨g, o, none⟩) 0 0)) : Qu w base v' l.tail := by
  rcases h with ⟨h, -⟩ | ⟨g', off', cap', cur, hv2, hb, hh, h1, h2, h3, h4⟩
  · simp at h
  · simp only [Value.slice.injEq, Option.some.injEq, Addr.mk.injEq, and_true] at hv2
    obtain ⟨⟨rfl, rfl⟩, hnl, rfl⟩ := hv2
    right
    rcases hv with rfl | ⟨hc, o, ho, rfl⟩
    · refine ⟨g, off + 1, cap - 1, cur, by rw [List.length_tail, hnl], hb, hh, by rw [List.length_tail]; omega, by omega, by omega, fun i hi => ?_⟩
      rw [List.length_tail] at hi
      have := h4 (i + 1) (by omega)
      rw [show off + (i + 1) = off + 1 + i by omega] at this
      rw [this]
      simp
    · have hl : l.tail = [] := List.eq_nil_of_length_eq_zero (by rw [List.length_tail]; omega)
      refine ⟨g, o, 0, cur, by rw [hl]; rfl, hb, hh, by rw [hl]; simp, by simp, by omega, fun i hi => by rw [hl] at hi; simp at hi⟩

/-- A push for which there is no room: a new block. -/
theorem run_push_grow {P : Program} {w : World} (base : Nat) (so : Option Addr) (n cap : Nat) (l : List Int) (t ty : TypeId) (i0 : TypeInfo) (ht : P.underlying t = some (.slice 3)) (hi : P.info? 3 = some i0) (hz : i0.zero = some (.int .i64 0)) (hsize : i0.size = 1) (hbytes : i0.bytes = 8)
    (hln : l.length = n) (hold : (Builtin.firstCells i0.size n (.slice so n cap)).run P w.drew = .ok (l.map (Value.int .i64)).toArray w.drew) (x : Int) (y : Value) (hs : Src P i0.size t y 1 [.int .i64 x] w)
    (hg : cap < n + 1) (hl : n < 60) (hbase : base ≤ w.heap.size) :
    ∃ v' w', (Builtin.append_ #[t, t] ty #[.slice so n cap, y]).run P w = .ok v' w' ∧ Qu w' base v' (l ++ [x]) ∧ Pushed w (.slice so n cap) w' v' ∧ Below base w w' := by
  have hr := run_append_grow_src (P := P) w t t ty 3 i0 (.int .i64 0) ht hi hz so n cap (l.map (Value.int .i64)) hold y 1 [.int .i64 x] hs hg (by omega) (growslice_fits hg (by rw [hbytes]; omega))
  have hge := grownCap_ge w (n + 1) cap 3
  have hcm : grownCap w (n + 1) cap 3 ≤ maxLen := grownCap_le_maxLen w (n + 1) cap 3 (by unfold maxLen; omega)
  refine ⟨_, _, hr, .inr ⟨w.heap.size, 0, _, _, by rw [List.length_append, List.length_singleton, hln], hbase, heap_alloc_new w.drew _, by rw [List.length_append, List.length_singleton, hln]; exact hge, hcm, ?_, ?_⟩, ⟨rfl, rfl, rfl, by simp, .inl ⟨(Below.refl _ _).drew.alloc (Nat.le_refl _) _, _, _, _, rfl, Nat.le_refl _⟩⟩, (Below.refl _ _).drew.alloc hbase _⟩
  · rw [Array.size_append, size_zeroCells]
    simp [hln, Value.cells]
    omega
  · intro i hi2
    rw [List.length_append, List.length_singleton, hln] at hi2
    rw [Nat.zero_add]
    have hh : (w.drew.alloc (.cells (((l.map (Value.int .i64)) ++ [Value.int .i64 x]).toArray ++ Builtin.zeroCells (Value.int .i64 0).cells (grownCap w (n + 1) cap 3 - (n + 1))) 3)).heap[w.heap.size]? = some (.cells _ 3 (0, 0)) := heap_alloc_new w.drew _
    simp only [World.cell?, hh]
    have e : (((l.map (Value.int .i64)) ++ [Value.int .i64 x]).toArray ++ Builtin.zeroCells (Value.int .i64 0).cells (grownCap w (n + 1) cap 3 - (n + 1)))[i]? = some (.int .i64 ((l ++ [x])[i]?.getD 0)) := by
      rw [Array.getElem?_append_left (by simp; omega)]
      rw [List.getElem?_toArray, show (l.map (Value.int .i64)) ++ [Value.int .i64 x] = (l ++ [x]).map (Value.int .i64) by simp, List.getElem?_map, List.getElem?_eq_getElem (by simp; omega)]
      simp
    simpa using e

/-- A push. -/
theorem run_push {P : Program} {w : World} {base : Nat} {v : Value} {l : List Int} (h : Qu w base v l) (t ty : TypeId) (i0 : TypeInfo) (ht : P.underlying t = some (.slice 3)) (hi : P.info? 3 = some i0) (hz : i0.zero = some (.int .i64 0)) (hsize : i0.size = 1) (hbytes : i0.bytes = 8)
    (b : Nat) (x : Int) (c : Nat) (hx : w.cell? ⟨b, 0, none⟩ = some (.int .i64 x)) (hl : l.length < 60) (hbase : base ≤ w.heap.size) :
    ∃ v' w', (Builtin.append_ #[t, t] ty #[v, .slice (some ⟨b, 0, none⟩) 1 c]).run P w = .ok v' w' ∧ Qu w' base v' (l ++ [x]) ∧ Pushed w v w' v' ∧ Below base w w' := by
  have hs : Src P i0.size t (.slice (some ⟨b, 0, none⟩) 1 c) 1 [.int .i64 x] w := Src.ofSlice w ht _ _ _ _ (by rw [hsize]; rfl) (fun j u hj => by
    match j, hj with
    | 0, hj => simp at hj; subst hj; simpa [Addr.add] using hx
    | j + 1, hj => simp at hj) (fun u hu => by simp at hu; subst hu; rfl)
  rcases h with ⟨rfl, rfl⟩ | ⟨g, off, cap, cur, rfl, hb, hh, h1, h2, h3, h4⟩
  · exact run_push_grow base none 0 0 [] t ty i0 ht hi hz hsize hbytes rfl (by simpa using run_firstCells_none (P := P) w.drew i0.size 0 0 0) x _ hs (by omega) (by omega) hbase
  · by_cases hroom : l.length + 1 ≤ cap
    · have hgl := (Array.getElem?_eq_some_iff.1 hh).1
      have hin : off + l.length < cur.size := by omega
      have hcell : w.cell? ⟨g, off + l.length, none⟩ = some cur[off + l.length] := by simp [World.cell?, hh, hin]
      have hr := run_append_room_src (P := P) w t t ty 3 i0 ht hi g off l.length cap _ 1 [.int .i64 x] hs hroom
        (fun j hj => by
          have : j = 0 := by simpa using hj
          subst this
          rw [hsize, Nat.mul_one, Nat.add_zero, hcell]; rfl)
        (fun j hj => by simp [World.frozen?, hh])
      rw [hsize, Nat.mul_one] at hr
      have hset : (w.setCells g (off + l.length) [Value.int .i64 x]) = w.setCell ⟨g, off + l.length, none⟩ (.int .i64 x) := rfl
      rw [hset] at hr
      have hh' : (w.setCell ⟨g, off + l.length, none⟩ (.int .i64 x)).heap[g]? = some (.cells (cur.setIfInBounds (off + l.length) (.int .i64 x)) 3 (0, 0)) := heap_setCell_same w g _ cur _ _ hh
      have hoth : ∀ k, k ≠ g → (w.setCell ⟨g, off + l.length, none⟩ (.int .i64 x)).heap[k]? = w.heap[k]? := fun k hk => Below.heap_setCell _ _ _ _ (by simpa using hk)
      have hcells : ∀ o, o ≠ off + l.length → (w.setCell ⟨g, off + l.length, none⟩ (.int .i64 x)).cell? ⟨g, o, none⟩ = w.cell? ⟨g, o, none⟩ := by
        intro o ho
        simp [World.cell?, hh, hh', Array.getElem?_setIfInBounds, Ne.symm ho]
      have hnew : (w.setCell ⟨g, off + l.length, none⟩ (.int .i64 x)).cell? ⟨g, off + l.length, none⟩ = some (.int .i64 x) := by
        simp [World.cell?, hh', Array.getElem?_setIfInBounds, hin]
      refine ⟨_, _, hr, .inr ⟨g, off, cap, _, by rw [List.length_append, List.length_singleton], hb, hh', by rw [List.length_append, List.length_singleton]; exact hroom, h2, by simpa using h3, ?_⟩, ⟨rfl, rfl, rfl, by simp [World.setCell], .inr ⟨g, off, l.length, cap, rfl, rfl, by omega, ⟨_, hh⟩, ⟨_, hh'⟩, hoth, hcells⟩⟩, (Below.refl _ _).setCell hb _⟩
      intro i hi2
      rw [List.length_append, List.length_singleton] at hi2
      by_cases hil : i < l.length
      · rw [hcells _ (by omega), h4 i hil, List.getElem?_append_left hil]
      · obtain rfl : i = l.length := by omega
        rw [hnew]
        simp
    · refine run_push_grow base (some ⟨g, off, none⟩) l.length cap l t ty i0 ht hi hz hsize hbytes rfl ?_ x _ hs (by omega) hl hbase
      refine run_firstCells_some (P := P) w.drew i0.size l.length ⟨g, off, none⟩ _ _ (l.map (Value.int .i64)) (by simp [hsize]) ?_
      intro j u hj
      have hjl : j < l.length := by have := (List.getElem?_eq_some_iff.1 hj).1; simpa using this
      rw [Addr.add_lit]
      show w.cell? ⟨g, off + j, none⟩ = some u
      rw [h4 j hjl]
      simp [List.getElem?_map, List.getElem?_eq_getElem hjl] at hj ⊢
      exact hj
end Go.Proofs.Ytofpnmjadflebaa

/-
  Changes collected; a push and a take applied to a window.
-/
namespace Go.Proofs.Ytofpnmjadflebaa
set_option linter.unusedSimpArgs false
set_option linter.unusedVariables false
open Go.RowKit
theorem take_at (l : List (Bool × Int)) (j : Nat) (h : j < l.length) : l.take (j + 1) = l.take j ++ [Agg.opAt l j] := by
  rw [List.take_succ_eq_append_getElem h]; simp [Agg.opAt, h]
end Go.Proofs.Ytofpnmjadflebaa

/-
  All windows of changes.
-/
namespace Go.Proofs.Ytofpnmjadflebaa
set_option linter.unusedSimpArgs false
set_option linter.unusedVariables false
open Go.RowKit
theorem infoWin : (Try.prog.info? 35).map (fun i => (i.zero, i.size, i.bytes)) = some (some (.slice none 0 0), 1, 24) := by kernel_rfl
/-- All windows, from the empty one on, in a row of the call's own. -/
def WinOut (b : Bool) (l : List (Bool × Int)) (n : Nat) (w : World) (e : Ending) (w' : World) : Prop :=
  (b = true → ∃ v hs, e = .returned (.tuple #[v, .bool true]) ∧ w'.ownsRow w.heap.size 35 1 v (n + 1) hs ∧ (∀ i, i ≤ n → ∃ a m c, hs[i]? = some (.slice a m c) ∧ Nums .i64 w' a m c (Agg.winAt l i)) ∧ Below w.heap.size w w') ∧
  (b = false → e = .returned (.tuple #[.slice none 0 0, .bool false]) ∧ Below w.heap.size w w')
/-- The windows before the current one. -/
def Olds (w : World) (cur : Value) (hs : List Value) (l : List (Bool × Int)) (j : Nat) : Prop := hs.length = j + 1 ∧ ∀ i, i ≤ j → ∃ h, hs[i]? = some h ∧ Old w cur h (Agg.winAt l i)
theorem Olds.next {w : World} {cur h : Value} {hs : List Value} {l : List (Bool × Int)} {j : Nat} (ho : Olds w cur hs l j) (hh : Old w cur h (Agg.winAt l (j + 1))) : Olds w cur (hs ++ [h]) l (j + 1) := by
  refine ⟨by simp [ho.1], fun i hi => ?_⟩
  by_cases hij : i ≤ j
  · obtain ⟨h', e, ho'⟩ := ho.2 i hij
    exact ⟨h', by rw [List.getElem?_append_left (by rw [ho.1]; omega)]; exact e, ho'⟩
  · obtain rfl : i = j + 1 := by omega
    exact ⟨h, by rw [List.getElem?_append_right (by rw [ho.1]; omega), ho.1]; simp, hh⟩
theorem Olds.map {w w' : World} {cur cur' : Value} {hs : List Value} {l : List (Bool × Int)} {j : Nat} (ho : Olds w cur hs l j) (hf : ∀ h k, Old w cur h k → Old w' cur' h k) : Olds w' cur' hs l j :=
  ⟨ho.1, fun i hi => by obtain ⟨h, e, o⟩ := ho.2 i hi; exact ⟨h, e, hf h _ o⟩⟩
theorem Olds.start (w : World) (l : List (Bool × Int)) : Olds w (.slice none 0 0) [.slice none 0 0] l 0 := by
  refine ⟨rfl, fun i hi => ?_⟩
  obtain rfl : i = 0 := by omega
  exact ⟨.slice none 0 0, rfl, Qu.old (base := 0) (l := []) (.inl ⟨rfl, rfl⟩)⟩
theorem one_row (w : World) {base : Nat} (v : Value) (e : TypeId) (hb : base ≤ w.heap.size) (h1 : v = v) : (w.alloc (.cells #[v] e)).ownsRow base e 1 (.slice (some ⟨w.heap.size, 0, none⟩) 1 1) (0 + 1) [v] :=
  ⟨rfl, .inr ⟨w.heap.size, 1, _, rfl, hb, heap_alloc_new w _, Nat.le_refl _, by simp [maxLen], rfl, rfl⟩⟩
end Go.Proofs.Ytofpnmjadflebaa

/-
  OpsValid, in the program and in the model.
-/
namespace Go.Proofs.Ytofpnmjadflebaa
set_option linter.unusedSimpArgs false
set_option linter.unusedVariables false
open Go.RowKit
end Go.Proofs.Ytofpnmjadflebaa
