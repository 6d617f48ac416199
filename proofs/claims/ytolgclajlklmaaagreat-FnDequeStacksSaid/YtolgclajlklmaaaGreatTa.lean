import Derived.Test.YtolgclajlklmaaaGreatRw
import Derived.Test.YtolgclajlklmaaaGreatMa
import Derived.OwnWalk
import Derived.Deep.AppendSrc
import Derived.Lib.AppendZeros
import Derived.Test.YtolgclajlklmaaaGreatS0
/-
  Changes: copied, measured, told apart, collected.
-/
namespace Go.Proofs.YtolgclajlklmaaaGreat
set_option linter.unusedSimpArgs false
set_option linter.unusedVariables false
open Go.RowKit
def partlyO (l : List (Bool × Int)) (k : Nat) : List (Bool × Int) := l.take k ++ List.replicate (l.length - k) (false, 0)
theorem partlyO_all (l : List (Bool × Int)) : partlyO l l.length = l := by simp [partlyO]
theorem partlyO_set (l : List (Bool × Int)) (k : Nat) (h : k < l.length) : ((opRow (partlyO l k)).set (k * 2) (.bool (Agg.opAt l k).1)).set (k * 2 + 1) (.int .i64 (Agg.opAt l k).2) = opRow (partlyO l (k + 1)) := by
  obtain ⟨m, hm⟩ : ∃ m, l.length - k = m + 1 := ⟨l.length - k - 1, by omega⟩
  have e : l.take (k + 1) = l.take k ++ [Agg.opAt l k] := by
    rw [List.take_succ_eq_append_getElem h]; simp [Agg.opAt, h]
  have e2 : l.length - (k + 1) = m := by omega
  have hk : (opRow (l.take k)).length = k * 2 := by rw [opRow_length]; simp; omega
  unfold partlyO
  rw [hm, e, e2, List.append_assoc, opRow_append, opRow_append, List.replicate_succ]
  rw [List.set_append_right _ _ (by rw [hk]; omega), List.set_append_right _ _ (by rw [hk]; omega), hk, Nat.sub_self, show k * 2 + 1 - k * 2 = 1 by omega]
  simp [opRow, opCells]
theorem made_ops (n : Nat) : (madeCells #[Value.bool false, Value.int .i64 0] (n * 2)).toList = opRow (List.replicate n (false, 0)) := by
  apply List.ext_getElem
  · rw [opRow_length]; simp [madeCells]
  · intro i h1 h2
    have hi : i < n * 2 := by simpa [madeCells] using h1
    obtain ⟨q, hq⟩ : ∃ q, i = q * 2 ∨ i = q * 2 + 1 := ⟨i / 2, by omega⟩
    have hqn : q < n := by omega
    have := opRow_at (List.replicate n (false, 0)) q (by simpa using hqn)
    simp only [List.getElem?_replicate, hqn, if_true, Option.getD_some] at this
    rcases hq with rfl | rfl
    · rw [List.getElem?_eq_getElem h2] at this
      rw [Option.some.inj this.1]
      simp [madeCells, Nat.mul_mod_left]
    · rw [List.getElem?_eq_getElem h2] at this
      rw [Option.some.inj this.2]
      have e : (q * 2 + 1) % 2 = 1 := by omega
      simp [madeCells, e]
/-- A row of changes is made. -/
def MadeOps (l : List (Bool × Int)) (n : Nat) (w : World) (e : Ending) (w' : World) : Prop :=
  ∃ v, e = .returned v ∧ OwnO w' w.heap.size w'.heap.size v n l ∧ Below w.heap.size w w'
/-- A change as the program keeps it. -/
def chg (o : Bool × Int) : Value := if o.1 then .iface 178 (.agg #[.int .i64 o.2]) else .iface 179 (.agg #[])
theorem changeOf_any (p : Bool) (x : Int) (w : World) :
    Calls Tryz.prog 90 #[.agg #[.bool p, .int .i64 x]] w fun e w' => e = .returned (.tuple #[if Agg.opOk (p, x) then chg (p, x) else .nilIface, .bool (Agg.opOk (p, x))]) ∧ Below w.heap.size w w' := by
  cases p
  · by_cases hx : x = 0
    · subst hx
      have e : Agg.opOk (false, 0) = true := by simp [Agg.opOk]
      rw [e, if_pos rfl]
      go_enter Tryz.func90, Tryz.ntmps90
      go_wp2_with fail
      go_returns
      exact ⟨rfl, (by first | (go_grown; done) | (refine below_drewN ?_ _; go_grown; done) | (refine (below_drewN _ ?_); go_grown; done))⟩
    · have e : Agg.opOk (false, x) = false := by simp [Agg.opOk, hx]
      rw [e, if_neg (by simp)]
      clear e
      go_enter Tryz.func90, Tryz.ntmps90
      go_wp2_with fail
      go_returns
      exact ⟨rfl, (by first | (go_grown; done) | (refine below_drewN ?_ _; go_grown; done) | (refine (below_drewN _ ?_); go_grown; done))⟩
  · cases hx : Agg.isItem x
    · have e : Agg.opOk (true, x) = false := by simp [Agg.opOk, hx]
      rw [e, if_neg (by simp)]
      clear e
      go_enter Tryz.func90, Tryz.ntmps90
      go_wp2_with (go_at_call 77; refine (isItem_any _ _).mono ?_; rintro e wk ⟨rfl, rfl⟩)
      go_returns
      exact ⟨rfl, (by first | (go_grown; done) | (refine below_drewN ?_ _; go_grown; done) | (refine (below_drewN _ ?_); go_grown; done))⟩
    · have e : Agg.opOk (true, x) = true := by simp [Agg.opOk, hx]
      rw [e, if_pos rfl]
      clear e
      go_enter Tryz.func90, Tryz.ntmps90
      go_wp2_with (go_at_call 77; refine (isItem_any _ _).mono ?_; rintro e wk ⟨rfl, rfl⟩)
      go_returns
      exact ⟨rfl, (by first | (go_grown; done) | (refine below_drewN ?_ _; go_grown; done) | (refine (below_drewN _ ?_); go_grown; done))⟩
end Go.Proofs.YtolgclajlklmaaaGreat

/-
  Windows in memory: a queue as a slice of numbers that may begin inside its block; what a push keeps of the windows before it.
-/
namespace Go.Proofs.YtolgclajlklmaaaGreat
set_option linter.unusedSimpArgs false
set_option linter.unusedVariables false
open Go.RowKit

/-- A block of numbers. -/
def IntBlock (w : World) (g : Nat) : Prop := ∃ cur, w.heap[g]? = some (.cells cur 3 (0, 0))
/-- The current window: nil, or a slice into a block of numbers. -/
def Qu (w : World) (base : Nat) (v : Value) (l : List Int) : Prop :=
  (v = .slice none 0 0 ∧ l = []) ∨
  ∃ g off cap cur, v = .slice (some ⟨g, off, none⟩) l.length cap ∧ base ≤ g ∧ w.heap[g]? = some (.cells cur 3 (0, 0)) ∧ l.length ≤ cap ∧ cap ≤ maxLen ∧ off + cap ≤ cur.size ∧
    ∀ i, i < l.length → w.cell? ⟨g, off + i, none⟩ = some (.int .i64 (l[i]?.getD 0))
/-- An earlier window, which the current one does not write. -/
def Old (w : World) (cur h : Value) (l : List Int) : Prop :=
  ∃ a n cap, h = .slice a n cap ∧ Nums .i64 w a n cap l ∧
    (n = 0 ∨ ∃ g off, a = some ⟨g, off, none⟩ ∧ IntBlock w g ∧ ∀ g2 off2 n2 cap2, cur = .slice (some ⟨g2, off2, none⟩) n2 cap2 → n2 < cap2 → g = g2 → off + n ≤ off2 + n2)

theorem IntBlock.kept {w w' : World} {g : Nat} {row : Option Nat} (h : IntBlock w g) (hg : w.grownBy w' row) (hr : row ≠ some g) : IntBlock w' g := by
  obtain ⟨cur, hc⟩ := h
  exact ⟨cur, (hg.block g (Array.getElem?_eq_some_iff.1 hc).1 (fun e => hr e.symm)).trans hc⟩
theorem IntBlock.lt {w : World} {g : Nat} (h : IntBlock w g) : g < w.heap.size := by
  obtain ⟨cur, hc⟩ := h
  exact (Array.getElem?_eq_some_iff.1 hc).1

theorem Qu.kept {w w' : World} {base : Nat} {v : Value} {l : List Int} {row : Option Nat} (h : Qu w base v l) (hg : w.grownBy w' row) (hr : ∀ g, row = some g → ¬ IntBlock w g) : Qu w' base v l := by
  rcases h with h | ⟨g, off, cap, cur, hv, hb, hh, h1, h2, h3, h4⟩
  · exact .inl h
  · have hne : row ≠ some g := fun e => hr g e ⟨cur, hh⟩
    have hlt := (Array.getElem?_eq_some_iff.1 hh).1
    have hblk := hg.block g hlt (fun e => hne e.symm)
    exact .inr ⟨g, off, cap, cur, hv, hb, hblk.trans hh, h1, h2, h3, fun i hi => (World.cell?_of_block (a := ⟨g, off + i, none⟩) hblk).trans (h4 i hi)⟩
theorem Old.kept {w w' : World} {cur h : Value} {l : List Int} {row : Option Nat} (ho : Old w cur h l) (hg : w.grownBy w' row) (hr : ∀ g, row = some g → ¬ IntBlock w g) : Old w' cur h l := by
  obtain ⟨a, n, cap, rfl, ⟨h1, h2, h3, h4⟩, h5⟩ := ho
  rcases h5 with h5 | ⟨g, off, rfl, hi, he⟩
  · exact ⟨a, n, cap, rfl, ⟨h1, h2, h3, .inl h5⟩, .inl h5⟩
  · have hne : row ≠ some g := fun e => hr g e hi
    have hblk := hg.block g hi.lt (fun e => hne e.symm)
    refine ⟨_, n, cap, rfl, ⟨h1, h2, h3, ?_⟩, .inr ⟨g, off, rfl, hi.kept hg hne, he⟩⟩
    rcases h4 with h4 | ⟨b, off', hb, hlt, hc⟩
    · exact .inl h4
    · simp only [Option.some.injEq, Addr.mk.injEq, and_true] at hb
      obtain ⟨rfl, rfl⟩ := hb
      exact .inr ⟨g, off, rfl, Nat.lt_of_lt_of_le hi.lt hg.size, fun i hi2 => (World.cell?_of_block (a := ⟨g, off + i, none⟩) hblk).trans (hc i hi2)⟩

theorem Qu.form {w : World} {base : Nat} {v : Value} {l : List Int} (h : Qu w base v l) : ∃ a cap, v = .slice a l.length cap ∧ l.length ≤ cap ∧ cap ≤ 9223372036854775807 := by
  rcases h with ⟨rfl, rfl⟩ | ⟨g, off, cap, cur, rfl, -, -, h1, h2, -⟩
  · exact ⟨none, 0, rfl, Nat.le_refl _, by omega⟩
  · unfold maxLen at h2; exact ⟨_, cap, rfl, h1, by omega⟩
/-- The current window is one of those that are kept. -/
theorem Qu.old {w : World} {base : Nat} {v : Value} {l : List Int} (h : Qu w base v l) : Old w v v l := by
  rcases h with ⟨rfl, rfl⟩ | ⟨g, off, cap, cur, rfl, hb, hh, h1, h2, h3, h4⟩
  · exact ⟨none, 0, 0, rfl, ⟨rfl, Nat.le_refl _, by simp [maxLen], .inl rfl⟩, .inl rfl⟩
  · refine ⟨_, _, cap, rfl, ⟨rfl, h1, h2, .inr ⟨g, off, rfl, (Array.getElem?_eq_some_iff.1 hh).1, h4⟩⟩, .inr ⟨g, off, rfl, ⟨cur, hh⟩, ?_⟩⟩
    intro g2 off2 n2 cap2 e _ _
    simp only [Value.slice.injEq, Option.some.injEq, Addr.mk.injEq, and_true] at e
    omega

/-- What a push does: one cell behind the window, or a new block. -/
def Pushed (w : World) (v : Value) (w' : World) (v' : Value) : Prop :=
  w'.os = w.os ∧ w'.tape = w.tape ∧ w'.output = w.output ∧ w.heap.size ≤ w'.heap.size ∧
  ((Below w.heap.size w w' ∧ ∃ H n c, v' = .slice (some ⟨H, 0, none⟩) n c ∧ w.heap.size ≤ H) ∨
   ∃ g off n cap, v = .slice (some ⟨g, off, none⟩) n cap ∧ v' = .slice (some ⟨g, off, none⟩) (n + 1) cap ∧ n < cap ∧ IntBlock w g ∧ IntBlock w' g ∧ (∀ k, k ≠ g → w'.heap[k]? = w.heap[k]?) ∧ (∀ o, o ≠ off + n → w'.cell? ⟨g, o, none⟩ = w.cell? ⟨g, o, none⟩))

theorem Old.push {w w' : World} {v v' h : Value} {l : List Int} (ho : Old w v h l) (hp : Pushed w v w' v') : Old w' v' h l := by
  obtain ⟨a, n, cap, rfl, ⟨h1, h2, h3, h4⟩, h5⟩ := ho
  obtain ⟨p1, p2, p3, p4, p5⟩ := hp
  rcases h5 with h5 | ⟨g, off, rfl, hi, he⟩
  · exact ⟨a, n, cap, rfl, ⟨h1, h2, h3, .inl h5⟩, .inl h5⟩
  · rcases p5 with ⟨hb, H, n2, c2, rfl, hH⟩ | ⟨g2, off2, n2, cap2, rfl, rfl, hlt, -, hi2, hk, ho2⟩
    · refine ⟨_, n, cap, rfl, Nums.below ⟨h1, h2, h3, h4⟩ hb, .inr ⟨g, off, rfl, hi.kept (row := none) (Below.grownNone hb none) (by simp), ?_⟩⟩
      intro g3 off3 n3 cap3 e _ e2
      simp only [Value.slice.injEq, Option.some.injEq, Addr.mk.injEq, and_true] at e
      have := hi.lt
      omega
    · by_cases hg : g = g2
      · subst hg
        have hend := he g off2 n2 cap2 rfl hlt rfl
        refine ⟨_, n, cap, rfl, ⟨h1, h2, h3, ?_⟩, .inr ⟨g, off, rfl, hi2, ?_⟩⟩
        · rcases h4 with h4 | ⟨b, off', hb, hlt2, hc⟩
          · exact .inl h4
          · simp only [Option.some.injEq, Addr.mk.injEq, and_true] at hb
            obtain ⟨rfl, rfl⟩ := hb
            exact .inr ⟨g, off, rfl, hi2.lt, fun i hi3 => (ho2 (off + i) (by omega)).trans (hc i hi3)⟩
        · intro g3 off3 n3 cap3 e _ e2
          simp only [Value.slice.injEq, Option.some.injEq, Addr.mk.injEq, and_true] at e
          omega
      · have hblk := hk g hg
        refine ⟨_, n, cap, rfl, ⟨h1, h2, h3, ?_⟩, .inr ⟨g, off, rfl, ?_, ?_⟩⟩
        · rcases h4 with h4 | ⟨b, off', hb, hlt2, hc⟩
          · exact .inl h4
          · simp only [Option.some.injEq, Addr.mk.injEq, and_true] at hb
            obtain ⟨rfl, rfl⟩ := hb
            exact .inr ⟨g, off, rfl, by omega, fun i hi3 => (World.cell?_of_block (a := ⟨g, off + i, none⟩) hblk).trans (hc i hi3)⟩
        · obtain ⟨cur, hc⟩ := hi
          exact ⟨cur, hblk.trans hc⟩
        · intro g3 off3 n3 cap3 e _ e2
          simp only [Value.slice.injEq, Option.some.injEq, Addr.mk.injEq, and_true] at e
          omega

theorem row_block {w : World} {base e size n g : Nat} {v : Value} {xs : List Value} (h : w.ownsRow base e size v n xs) (hg : v.ownBlock = some g) : ∃ cur, w.heap[g]? = some (.cells cur e (0, 0)) := by
  rcases h.2 with ⟨rfl, _⟩ | ⟨g', cap, cur, rfl, -, hh, -⟩
  · simp [Value.ownBlock] at hg
  · simp only [Value.ownBlock, Option.some.injEq] at hg
    subst hg
    exact ⟨cur, hh⟩
theorem not_int {w : World} {base e size n : Nat} {v : Value} {xs : List Value} (h : w.ownsRow base e size v n xs) (he : e ≠ 3) : ∀ g, v.ownBlock = some g → ¬ IntBlock w g := by
  intro g hg ⟨cur, hc⟩
  obtain ⟨cur', hc'⟩ := row_block h hg
  rw [hc] at hc'
  simp only [Option.some.injEq, Obj.cells.injEq] at hc'
  exact he hc'.2.1.symm
theorem rows_apart {w : World} {base e size n base' e' size' n' : Nat} {v v' : Value} {xs xs' : List Value} (h : w.ownsRow base e size v n xs) (h' : w.ownsRow base' e' size' v' n' xs') (he : e ≠ e') : v.ownBlock = none ∨ v.ownBlock ≠ v'.ownBlock := by
  cases hg : v.ownBlock with
  | none => exact .inl rfl
  | some g =>
    refine .inr (fun e2 => ?_)
    obtain ⟨cur, hc⟩ := row_block h hg
    obtain ⟨cur', hc'⟩ := row_block h' e2.symm
    rw [hc] at hc'
    simp only [Option.some.injEq, Obj.cells.injEq] at hc'
    exact he hc'.2.1
/-- A row of something else than numbers stays where a window is pushed. -/
theorem row_pushed {w wm w' : World} {base e size n : Nat} {v u u' : Value} {xs : List Value} (h : w.ownsRow base e size v n xs) (he : e ≠ 3) (hb : Below w.heap.size w wm) (hp : Pushed wm u w' u') : w'.ownsRow base e size v n xs := by
  have h1 := h.kept (Below.grownNone hb none) (by cases hv : v.ownBlock <;> simp)
  obtain ⟨p1, p2, p3, p4, p5⟩ := hp
  rcases p5 with ⟨hb2, -⟩ | ⟨g, off, k, cap, -, -, -, hi, -, hk, -⟩
  · exact h1.kept (Below.grownNone hb2 none) (by cases hv : v.ownBlock <;> simp)
  · refine h1.kept (row := some g) ⟨p1, p2, p3, p4, fun i _ hne => hk i (fun e => hne (by rw [e]))⟩ ?_
    cases hv : v.ownBlock with
    | none => exact .inl rfl
    | some g' =>
      refine .inr (fun e2 => ?_)
      rw [Option.some.inj e2] at hv
      exact not_int h1 he g hv hi

/-- A window without its first item. -/
theorem Old.take {w : World} {g off n cap : Nat} {v' h : Value} {l : List Int} (ho : Old w (.slice (some ⟨g, off, none⟩) n cap) h l) (hn : 0 < n) (hnc : n ≤ cap)
    (hv : v' = .slice (some ⟨g, off + 1, none⟩) (n - 1) (cap - 1) ∨ (cap = 1 ∧ ∃ o, v' = .slice (some ⟨g, o, none⟩) 0 0)) : Old w v' h l := by
  obtain ⟨a, n', cap', rfl, hN, h5⟩ := ho
  refine ⟨a, n', cap', rfl, hN, ?_⟩
  rcases h5 with h5 | ⟨g1, off1, ha, hi, he⟩
  · exact .inl h5
  · refine .inr ⟨g1, off1, ha, hi, ?_⟩
    intro g2 off2 n2 cap2 e hlt eg
    rcases hv with rfl | ⟨hc, o, rfl⟩
    · simp only [Value.slice.injEq, Option.some.injEq, Addr.mk.injEq, and_true] at e
      have := he g off n cap rfl (by omega) (by omega)
      omega
    · simp only [Value.slice.injEq, Option.some.injEq, Addr.mk.injEq, and_true] at e
      omega
theorem Qu.take {w : World} {base : Nat} {g off n cap : Nat} {v' : Value} {l : List Int} (h : Qu w base (.slice (some ⟨g, off, none⟩) n cap) l) (hn : 0 < n)
    (hv : v' = .slice (some ⟨g, off + 1, none⟩) (n - 1) (cap - 1) ∨ (cap = 1 ∧ ∃ o, o ≤ off + 1 ∧ v' = .slice (some ⟨g, o, none⟩) 0 0)) : Qu w base v' l.tail := by
  rcases h with ⟨h, -⟩ | ⟨g', off', cap', cur, hv2, hb, hh, h1, h2, h3, h4⟩
  · simp at h
  · simp only [Value.slice.injEq, Option.some.injEq, Addr.mk.injEq, and_true] at hv2
    obtain ⟨⟨rfl, rfl⟩, hnl, rfl⟩ := hv2
    right
    rcases hv with rfl | ⟨hc, o, ho, rfl⟩
    · refine ⟨g, off + 1, cap - 1, cur, by rw [List.length_tail, hnl], hb, hh, by rw [List.length_tail]; omega, by omega, by omega, fun i hi => ?_⟩
      rw [List.length_tail] at hi
      have := h4 (i + 1) (by omega)
      rw [show off + (i + 1) = off + 1 + i by omega] at this
      rw [this]
      simp
    · have hl : l.tail = [] := List.eq_nil_of_length_eq_zero (by rw [List.length_tail]; omega)
      refine ⟨g, o, 0, cur, by rw [hl]; rfl, hb, hh, by rw [hl]; simp, by simp, by omega, fun i hi => by rw [hl] at hi; simp at hi⟩

/-- A push for which there is no room: a new block. -/
theorem run_push_grow {P : Program} {w : World} (base : Nat) (so : Option Addr) (n cap : Nat) (l : List Int) (t ty : TypeId) (i0 : TypeInfo) (ht : P.underlying t = some (.slice 3)) (hi : P.info? 3 = some i0) (hz : i0.zero = some (.int .i64 0)) (hsize : i0.size = 1) (hbytes : i0.bytes = 8)
    (hln : l.length = n) (hold : (Builtin.firstCells i0.size n (.slice so n cap)).run P w.drew = .ok (l.map (Value.int .i64)).toArray w.drew) (x : Int) (y : Value) (hs : Src P i0.size t y 1 [.int .i64 x] w)
    (hg : cap < n + 1) (hl : n < 60) (hbase : base ≤ w.heap.size) :
    ∃ v' w', (Builtin.append_ #[t, t] ty #[.slice so n cap, y]).run P w = .ok v' w' ∧ Qu w' base v' (l ++ [x]) ∧ Pushed w (.slice so n cap) w' v' ∧ Below base w w' := by
  have hr := run_append_grow_src (P := P) w t t ty 3 i0 (.int .i64 0) ht hi hz so n cap (l.map (Value.int .i64)) hold y 1 [.int .i64 x] hs hg (by omega) (growslice_fits hg (by rw [hbytes]; omega))
  have hge := grownCap_ge w (n + 1) cap 3
  have hcm : grownCap w (n + 1) cap 3 ≤ maxLen := grownCap_le_maxLen w (n + 1) cap 3 (by unfold maxLen; omega)
  refine ⟨_, _, hr, .inr ⟨w.heap.size, 0, _, _, by rw [List.length_append, List.length_singleton, hln], hbase, heap_alloc_new w.drew _, by rw [List.length_append, List.length_singleton, hln]; exact hge, hcm, ?_, ?_⟩, ⟨rfl, rfl, rfl, by simp, .inl ⟨(Below.refl _ _).drew.alloc (Nat.le_refl _) _, _, _, _, rfl, Nat.le_refl _⟩⟩, (Below.refl _ _).drew.alloc hbase _⟩
  · rw [Array.size_append, size_zeroCells]
    simp [hln, Value.cells]
    omega
  · intro i hi2
    rw [List.length_append, List.length_singleton, hln] at hi2
    rw [Nat.zero_add]
    have hh : (w.drew.alloc (.cells (((l.map (Value.int .i64)) ++ [Value.int .i64 x]).toArray ++ Builtin.zeroCells (Value.int .i64 0).cells (grownCap w (n + 1) cap 3 - (n + 1))) 3)).heap[w.heap.size]? = some (.cells _ 3 (0, 0)) := heap_alloc_new w.drew _
    simp only [World.cell?, hh]
    have e : (((l.map (Value.int .i64)) ++ [Value.int .i64 x]).toArray ++ Builtin.zeroCells (Value.int .i64 0).cells (grownCap w (n + 1) cap 3 - (n + 1)))[i]? = some (.int .i64 ((l ++ [x])[i]?.getD 0)) := by
      rw [Array.getElem?_append_left (by simp; omega)]
      rw [List.getElem?_toArray, show (l.map (Value.int .i64)) ++ [Value.int .i64 x] = (l ++ [x]).map (Value.int .i64) by simp, List.getElem?_map, List.getElem?_eq_getElem (by simp; omega)]
      simp
    simpa using e

/-- A push. -/
theorem run_push {P : Program} {w : World} {base : Nat} {v : Value} {l : List Int} (h : Qu w base v l) (t ty : TypeId) (i0 : TypeInfo) (ht : P.underlying t = some (.slice 3)) (hi : P.info? 3 = some i0) (hz : i0.zero = some (.int .i64 0)) (hsize : i0.size = 1) (hbytes : i0.bytes = 8)
    (b : Nat) (x : Int) (c : Nat) (hx : w.cell? ⟨b, 0, none⟩ = some (.int .i64 x)) (hl : l.length < 60) (hbase : base ≤ w.heap.size) :
    ∃ v' w', (Builtin.append_ #[t, t] ty #[v, .slice (some ⟨b, 0, none⟩) 1 c]).run P w = .ok v' w' ∧ Qu w' base v' (l ++ [x]) ∧ Pushed w v w' v' ∧ Below base w w' := by
  have hs : Src P i0.size t (.slice (some ⟨b, 0, none⟩) 1 c) 1 [.int .i64 x] w := Src.ofSlice w ht _ _ _ _ (by rw [hsize]; rfl) (fun j u hj => by
    match j, hj with
    | 0, hj => simp at hj; subst hj; simpa [Addr.add] using hx
    | j + 1, hj => simp at hj) (fun u hu => by simp at hu; subst hu; rfl)
  rcases h with ⟨rfl, rfl⟩ | ⟨g, off, cap, cur, rfl, hb, hh, h1, h2, h3, h4⟩
  · exact run_push_grow base none 0 0 [] t ty i0 ht hi hz hsize hbytes rfl (by simpa using run_firstCells_none (P := P) w.drew i0.size 0 0 0) x _ hs (by omega) (by omega) hbase
  · by_cases hroom : l.length + 1 ≤ cap
    · have hgl := (Array.getElem?_eq_some_iff.1 hh).1
      have hin : off + l.length < cur.size := by omega
      have hcell : w.cell? ⟨g, off + l.length, none⟩ = some cur[off + l.length] := by simp [World.cell?, hh, hin]
      have hr := run_append_room_src (P := P) w t t ty 3 i0 ht hi g off l.length cap _ 1 [.int .i64 x] hs hroom
        (fun j hj => by
          have : j = 0 := by simpa using hj
          subst this
          rw [hsize, Nat.mul_one, Nat.add_zero, hcell]; rfl)
        (fun j hj => by simp [World.frozen?, hh])
      rw [hsize, Nat.mul_one] at hr
      have hset : (w.setCells g (off + l.length) [Value.int .i64 x]) = w.setCell ⟨g, off + l.length, none⟩ (.int .i64 x) := rfl
      rw [hset] at hr
      have hh' : (w.setCell ⟨g, off + l.length, none⟩ (.int .i64 x)).heap[g]? = some (.cells (cur.setIfInBounds (off + l.length) (.int .i64 x)) 3 (0, 0)) := heap_setCell_same w g _ cur _ _ hh
      have hoth : ∀ k, k ≠ g → (w.setCell ⟨g, off + l.length, none⟩ (.int .i64 x)).heap[k]? = w.heap[k]? := fun k hk => Below.heap_setCell _ _ _ _ (by simpa using hk)
      have hcells : ∀ o, o ≠ off + l.length → (w.setCell ⟨g, off + l.length, none⟩ (.int .i64 x)).cell? ⟨g, o, none⟩ = w.cell? ⟨g, o, none⟩ := by
        intro o ho
        simp [World.cell?, hh, hh', Array.getElem?_setIfInBounds, Ne.symm ho]
      have hnew : (w.setCell ⟨g, off + l.length, none⟩ (.int .i64 x)).cell? ⟨g, off + l.length, none⟩ = some (.int .i64 x) := by
        simp [World.cell?, hh', Array.getElem?_setIfInBounds, hin]
      refine ⟨_, _, hr, .inr ⟨g, off, cap, _, by rw [List.length_append, List.length_singleton], hb, hh', by rw [List.length_append, List.length_singleton]; exact hroom, h2, by simpa using h3, ?_⟩, ⟨rfl, rfl, rfl, by simp [World.setCell], .inr ⟨g, off, l.length, cap, rfl, rfl, by omega, ⟨_, hh⟩, ⟨_, hh'⟩, hoth, hcells⟩⟩, (Below.refl _ _).setCell hb _⟩
      intro i hi2
      rw [List.length_append, List.length_singleton] at hi2
      by_cases hil : i < l.length
      · rw [hcells _ (by omega), h4 i hil, List.getElem?_append_left hil]
      · obtain rfl : i = l.length := by omega
        rw [hnew]
        simp
    · refine run_push_grow base (some ⟨g, off, none⟩) l.length cap l t ty i0 ht hi hz hsize hbytes rfl ?_ x _ hs (by omega) hl hbase
      refine run_firstCells_some (P := P) w.drew i0.size l.length ⟨g, off, none⟩ _ _ (l.map (Value.int .i64)) (by simp [hsize]) ?_
      intro j u hj
      have hjl : j < l.length := by have := (List.getElem?_eq_some_iff.1 hj).1; simpa using this
      rw [Addr.add_lit]
      show w.cell? ⟨g, off + j, none⟩ = some u
      rw [h4 j hjl]
      simp [List.getElem?_map, List.getElem?_eq_getElem hjl] at hj ⊢
      exact hj
end Go.Proofs.YtolgclajlklmaaaGreat

/-
  Changes collected; a push and a take applied to a window.
-/
namespace Go.Proofs.YtolgclajlklmaaaGreat
set_option linter.unusedSimpArgs false
set_option linter.unusedVariables false
open Go.RowKit
theorem infoChg : (Tryz.prog.info? 119).map (fun i => (i.zero, i.size, i.bytes)) = some (some .nilIface, 1, 16) := by kernel_rfl
theorem chg_oneCell (o : Bool × Int) : ∀ u ∈ [chg o], u.oneCell' = true := by
  intro u hu
  obtain rfl := List.mem_singleton.1 hu
  unfold chg
  split <;> rfl
theorem take_at (l : List (Bool × Int)) (j : Nat) (h : j < l.length) : l.take (j + 1) = l.take j ++ [Agg.opAt l j] := by
  rw [List.take_succ_eq_append_getElem h]; simp [Agg.opAt, h]
/-- Changes are collected, if each of them is one. -/
def ChgOut (b : Bool) (l : List (Bool × Int)) (n : Nat) (w : World) (e : Ending) (w' : World) : Prop :=
  (b = true → ∃ v, e = .returned (.tuple #[v, .bool true]) ∧ w'.ownsRow w.heap.size 119 1 v n (l.map chg) ∧ Below w.heap.size w w') ∧
  (b = false → e = .returned (.tuple #[.slice none 0 0, .bool false]) ∧ Below w.heap.size w w')
set_option maxRecDepth 8000 in
set_option maxHeartbeats 2000000 in
theorem changesOf_any (a : Option Addr) (n cap : Nat) (l : List (Bool × Int)) (w : World) (h : Ops w a n cap l) :
    Calls Tryz.prog 73 #[.slice a n cap] w (ChgOut (decide (n ≤ 200) && Agg.allOk l n) l n w) := by
  obtain ⟨i0, hi, hz0, hz1, hz2⟩ := info_parts infoChg
  obtain ⟨hl, hcap, hm, h4⟩ := h
  unfold maxLen at hm
  have HL := Lib.hid hl; clear hl
  have H4 := Lib.hid h4; clear h4
  obtain ⟨bb, hbb⟩ : ∃ bb, bb = (decide (n ≤ 200) && Agg.allOk l n) := ⟨_, rfl⟩
  rw [← hbb]
  have HBB := Lib.hid hbb
  clear hbb
  by_cases hn : n ≤ 200
  · go_enter Tryz.func73, Tryz.ntmps73
    go_wp2_with (at_make; refine wpList_make_own _ rfl _ _ 115 rfl w.heap.size 119 i0 .nilIface 1 Tryz.underlying115 hi hz0 hz1 .i64 .i64 _ n rfl rfl rfl ?b1 ?b2 ?b3 ?_)
    case b1 => rw [hz2]; omega
    case b2 => unfold maxLen; omega
    case b3 => exact Nat.le_refl _
    intro w1 hown hgrow
    have HO := Lib.hid (show w1.ownsRow w.heap.size 119 1 (.slice (some ⟨w.heap.size, 0, none⟩) 0 n) 0 ((l.take 0).map chg) from hown)
    have HB := Lib.hid ((Below.refl w.heap.size w).grown hgrow (Nat.le_refl _) (fun k hk => by simp at hk))
    clear hown hgrow
    go_wp2
    go_loopw [4, 17] (fun ov i wr => ∃ j : Nat, j ≤ n ∧ i = .int .i64 j ∧ Agg.allOk l j = true ∧ Hid (wr.ownsRow w.heap.size 119 1 ov j ((l.take j).map chg)) ∧ Hid (Below w.heap.size w wr)) (fun _ i _ => n - (intOf i).toNat)
    case atStart => exact ⟨0, Nat.zero_le _, rfl, rfl, HO, HB⟩
    case round =>
      obtain ⟨j, hj, rfl, hok, ho, hw⟩ := hrel
      clear HO HB
      have hwr := hw.out.size
      by_cases hlt : j < n
      · rcases H4.out with h4 | ⟨b, off, rfl, hb, hcs⟩
        · omega
        · have hck := (hw.out.cell (p := ⟨b, off + j * 2, none⟩) hb).trans (hcs j hlt).1
          have hcl := (hw.out.cell (p := ⟨b, off + j * 2 + 1, none⟩) hb).trans (hcs j hlt).2
          clear hcs
          have hst := take_at l j (by have := HL.out; omega)
          have hall : Agg.allOk l (j + 1) = (Agg.allOk l j && Agg.opOk (Agg.opAt l j)) := rfl
          simp only [Agg.opAt] at hst hall
          obtain ⟨⟨p, x⟩, hx⟩ : ∃ x, x = l[j]?.getD (false, 0) := ⟨_, rfl⟩
          rw [← hx] at hck hcl hst hall
          have HST := Lib.hid hst
          clear hst hx
          have hbw : b < wr.heap.size := Nat.lt_of_lt_of_le hb hwr
          have hk0 : (0 : Int) ≤ (j : Int) := Int.natCast_nonneg _
          have hkn : (j : Int) < (n : Int) := by omega
          have hC := fun w => changeOf_any p x w
          cases hop : Agg.opOk (p, x)
          · rw [hop] at hC
            simp only [Bool.false_eq_true, if_false] at hC
            have HC := Lib.hid hC
            have hno : Agg.allOk l n = false := by
              cases h2 : Agg.allOk l n
              · rfl
              · have := Agg.allOk_down (i := j + 1) (by omega) h2; rw [hall, hop] at this; simp at this
            clear hC hall
            go_wp2_with fail
            refine (HC.out _).mono ?_
            rintro e w2 ⟨rfl, hb2⟩
            have HW2 := Lib.hid ((hw.out.alloc hwr _).trans (hb2.mono (by simp; omega)))
            clear hb2
            go_wp2_with fail
            go_returns
            exact ⟨fun h => by rw [HBB.out, hno] at h; simp at h, fun _ => ⟨rfl, HW2.out⟩⟩
          · rw [hop, if_pos rfl] at hC
            obtain ⟨T, V, hcv⟩ : ∃ T V, chg (p, x) = .iface T (.agg V) := by cases p <;> exact ⟨_, _, rfl⟩
            rw [hcv] at hC
            have HCV := Lib.hid hcv
            have HC := Lib.hid hC
            clear hcv
            rw [hok, hop] at hall
            have HALL := Lib.hid hall
            clear hC hall
            have hlt' : ∀ g, u4.ownBlock = some g → w.heap.size ≤ g := fun g hg => (ho.out.lt g hg).1
            go_wp2_with fail
            refine (HC.out _).mono ?_
            rintro e w2 ⟨rfl, hb2⟩
            have HW2 := Lib.hid ((hw.out.alloc hwr _).trans (hb2.mono (by simp; omega)))
            have HO2 := Lib.hid ((ho.out.alloc _).kept (Below.grownNone hb2 none) (by cases hv : u4.ownBlock <;> simp))
            have hs2 := HW2.out.size
            clear hb2
            go_wp2_with (at_builtin; refine wpList_append_own _ rfl (.tmp 28) (.tmp 30) 115 rfl w.heap.size 119 i0 .nilIface 1 16 Tryz.underlying115 hi hz0 hz1 hz2 rfl (by decide) _ _ _ rfl (HO2.out.alloc _) ⟨w2.heap.size, 0, none⟩ 1 1 [.iface T (.agg V)] rfl rfl (cell_one_new _ _ _) (fun u hu => by rw [List.mem_singleton.1 hu]; rfl) (by unfold maxLen; omega) (by omega) (by simp; omega) ?_; intro v3 w3 hown3 hgrow3 hnil3; have HO3 := Lib.hid hown3; have HW3 := Lib.hid ((HW2.out.alloc HW2.out.size _).grown hgrow3 (by have := HW2.out.size; simp; omega) hlt'); clear hown3 hgrow3 hnil3)
            go_roundw
            case rel =>
              refine ⟨j + 1, by omega, by go_num, HALL.out, Lib.hid ?_, HW3⟩
              rw [HST.out, List.map_append, List.map_singleton, HCV.out]
              exact HO3.out
            case measure => simp [intOf]; omega
      · obtain rfl : j = n := by omega
        have hall : l.take j = l := List.take_of_length_le (by have := HL.out; omega)
        have ho2 := ho.out
        rw [hall] at ho2
        have HO2 := Lib.hid ho2
        clear ho2 hall
        go_wp2
        go_returns
        exact ⟨fun _ => ⟨_, rfl, HO2.out, hw.out⟩, fun h => by rw [HBB.out, hok] at h; simp [hn] at h⟩
  · go_enter Tryz.func73, Tryz.ntmps73
    go_wp2
    go_returns
    exact ⟨fun h => by rw [HBB.out] at h; simp [hn] at h, fun _ => ⟨rfl, Below.refl _ _⟩⟩
theorem push_fits (x n : Int) (w : World) :
    Calls Tryz.prog 190 #[.agg #[.int .i64 x], .int .i64 n] w fun e w' => e = .returned (.bool (decide (n < 60))) ∧ Below w.heap.size w w' := by
  go_enter Tryz.func190, Tryz.ntmps190
  go_wp2
  all_goals (go_returns; exact ⟨ret_bool (by simp <;> omega), (by first | (go_grown; done) | (refine below_drewN ?_ _; go_grown; done) | (refine (below_drewN _ ?_); go_grown; done))⟩)
theorem take_fits (n : Int) (w : World) :
    Calls Tryz.prog 193 #[.agg #[], .int .i64 n] w fun e w' => e = .returned (.bool (decide (0 < n))) ∧ Below w.heap.size w w' := by
  go_enter Tryz.func193, Tryz.ntmps193
  go_wp2
  all_goals (go_returns; exact ⟨ret_bool (by simp <;> omega), (by first | (go_grown; done) | (refine below_drewN ?_ _; go_grown; done) | (refine (below_drewN _ ?_); go_grown; done))⟩)
set_option maxRecDepth 8000 in
theorem push_apply (base : Nat) (x : Int) (v : Value) (l : List Int) (w : World) (h : Qu w base v l) (hbase : base ≤ w.heap.size) (hl : l.length < 60) :
    Calls Tryz.prog 189 #[.agg #[.int .i64 x], v] w fun e w' => ∃ v', e = .returned v' ∧ Qu w' base v' (l ++ [x]) ∧ (∃ wm, Below w.heap.size w wm ∧ Pushed wm v w' v') ∧ Below base w w' := by
  obtain ⟨i0, hi, hz0, hz1, hz2⟩ := info_parts infoInt
  obtain ⟨a, cap, hv, hlc, hc63⟩ := h.form
  have hbel : Below w.heap.size w ((w.alloc (.cells #[.int .i64 x] 178)).alloc (.cells #[.int .i64 x] 3)) := ((Below.refl _ _).alloc (Nat.le_refl _) _).alloc (by simp) _
  have hq : Qu ((w.alloc (.cells #[.int .i64 x] 178)).alloc (.cells #[.int .i64 x] 3)) base v l := h.kept (Below.grownNone hbel none) (fun g e => by cases e)
  obtain ⟨v', w', hrun, hq', hp, hb'⟩ := run_push (P := Tryz.prog) hq 26 26 i0 Tryz.underlying26 hi hz0 hz1 hz2 (w.heap.size + 1) x 1 (by simp) hl (by simp; omega)
  have HP := Lib.hid (show ∃ wm, Below w.heap.size w wm ∧ Pushed wm v w' v' from ⟨_, hbel, hp⟩)
  have HB := Lib.hid ((hbel.mono hbase).trans hb')
  have HQ := Lib.hid hq'
  subst hv
  have HR := Lib.hid hrun
  clear hrun hp hb' hq' hq hbel h
  go_enter Tryz.func189, Tryz.ntmps189
  go_wp2_with (at_builtin; refine Lib.wpList_append_run _ rfl _ _ _ _ rfl _ _ rfl rfl _ _ HR.out ?_)
  go_returns
  exact ⟨v', rfl, HQ.out, HP.out, HB.out⟩
theorem take_apply (w : World) (g off n cap : Nat) (hn : 0 < n) (hnc : n ≤ cap) (hc : cap ≤ 9223372036854775807) :
    Calls Tryz.prog 192 #[.agg #[], .slice (some ⟨g, off, none⟩) n cap] w fun e w' => ∃ v', e = .returned v' ∧ (v' = .slice (some ⟨g, off + 1, none⟩) (n - 1) (cap - 1) ∨ (cap = 1 ∧ ∃ o, o ≤ off + 1 ∧ v' = .slice (some ⟨g, o, none⟩) 0 0)) ∧ Below w.heap.size w w' := by
  have h0 : ¬ ((n : Int) = 0) := by omega
  have h1 : (1 : Int) ≤ (n : Int) := by omega
  have h2 : (1 : Int) ≤ (cap : Int) := by omega
  by_cases hc1 : cap = 1
  · subst hc1
    obtain rfl : n = 1 := by omega
    go_enter Tryz.func192, Tryz.ntmps192
    go_wp2
    go_returns
    exact ⟨_, rfl, .inr ⟨by first | trivial | rfl, _, by omega, rfl⟩, (by first | (go_grown; done) | (refine below_drewN ?_ _; go_grown; done) | (refine (below_drewN _ ?_); go_grown; done))⟩
  · have h3 : (1 : Int) < (cap : Int) := by omega
    have h4 : ¬ (cap - 1 = 0) := by omega
    go_enter Tryz.func192, Tryz.ntmps192
    go_wp2
    go_returns
    exact ⟨_, rfl, .inl rfl, (by first | (go_grown; done) | (refine below_drewN ?_ _; go_grown; done) | (refine (below_drewN _ ?_); go_grown; done))⟩
set_option maxRecDepth 8000 in
theorem canChange_any (p : Bool) (x n : Int) (w : World) :
    Calls Tryz.prog 68 #[.agg #[.bool p, .int .i64 x], .int .i64 n] w fun e w' => e = .returned (.bool (Agg.can (p, x) n)) ∧ Below w.heap.size w w' := by
  have hC := fun w => changeOf_any p x w
  obtain ⟨b, hb⟩ : ∃ b, b = Agg.can (p, x) n := ⟨_, rfl⟩
  rw [← hb]
  cases hop : Agg.opOk (p, x)
  · rw [hop] at hC
    simp only [Bool.false_eq_true, if_false] at hC
    have hbf : b = false := by rw [hb, Agg.can, hop]; rfl
    subst hbf
    have HC := Lib.hid hC
    clear hC hb hop
    go_enter Tryz.func68, Tryz.ntmps68
    go_wp2_with fail
    refine (HC.out _).mono ?_
    rintro e w1 ⟨rfl, hb1⟩
    have HW1 := Lib.hid (((Below.refl w.heap.size w).alloc (Nat.le_refl _) _).trans (hb1.mono (by simp)))
    clear hb1
    go_wp2_with fail
    go_returns
    exact ⟨rfl, HW1.out⟩
  · rw [hop, if_pos rfl] at hC
    cases p
    · have hbf : b = decide (0 < n) := by rw [hb, Agg.can, hop]; rfl
      subst hbf
      simp only [chg, Bool.false_eq_true, if_false] at hC
      have HC := Lib.hid hC
      clear hC hb hop
      go_enter Tryz.func68, Tryz.ntmps68
      go_wp2_with fail
      refine (HC.out _).mono ?_
      rintro e w1 ⟨rfl, hb1⟩
      have HW1 := Lib.hid (((Below.refl w.heap.size w).alloc (Nat.le_refl _) _).trans (hb1.mono (by simp)))
      clear hb1
      go_wp2_with fail
      refine (take_fits _ _).mono ?_
      rintro e w2 ⟨rfl, hb2⟩
      have HW2 := Lib.hid (HW1.out.trans (hb2.mono (by first | exact HW1.out.size | (have := HW1.out.size; simp; omega))))
      clear hb2
      go_wp2_with fail
      go_returns
      exact ⟨rfl, HW2.out⟩
    · have hbf : b = decide (n < 60) := by rw [hb, Agg.can, hop]; rfl
      subst hbf
      simp only [chg, if_true] at hC
      have HC := Lib.hid hC
      clear hC hb hop
      go_enter Tryz.func68, Tryz.ntmps68
      go_wp2_with fail
      refine (HC.out _).mono ?_
      rintro e w1 ⟨rfl, hb1⟩
      have HW1 := Lib.hid (((Below.refl w.heap.size w).alloc (Nat.le_refl _) _).trans (hb1.mono (by simp)))
      clear hb1
      go_wp2_with fail
      refine (push_fits _ _ _).mono ?_
      rintro e w2 ⟨rfl, hb2⟩
      have HW2 := Lib.hid (HW1.out.trans (hb2.mono (by first | exact HW1.out.size | (have := HW1.out.size; simp; omega))))
      clear hb2
      go_wp2_with fail
      go_returns
      exact ⟨rfl, HW2.out⟩
end Go.Proofs.YtolgclajlklmaaaGreat

/-
  All windows of changes.
-/
namespace Go.Proofs.YtolgclajlklmaaaGreat
set_option linter.unusedSimpArgs false
set_option linter.unusedVariables false
open Go.RowKit
theorem infoWin : (Tryz.prog.info? 26).map (fun i => (i.zero, i.size, i.bytes)) = some (some (.slice none 0 0), 1, 24) := by kernel_rfl
/-- All windows, from the empty one on, in a row of the call's own. -/
def WinOut (b : Bool) (l : List (Bool × Int)) (n : Nat) (w : World) (e : Ending) (w' : World) : Prop :=
  (b = true → ∃ v hs, e = .returned (.tuple #[v, .bool true]) ∧ w'.ownsRow w.heap.size 26 1 v (n + 1) hs ∧ (∀ i, i ≤ n → ∃ a m c, hs[i]? = some (.slice a m c) ∧ Nums .i64 w' a m c (Agg.winAt l i)) ∧ Below w.heap.size w w') ∧
  (b = false → e = .returned (.tuple #[.slice none 0 0, .bool false]) ∧ Below w.heap.size w w')
/-- The windows before the current one. -/
def Olds (w : World) (cur : Value) (hs : List Value) (l : List (Bool × Int)) (j : Nat) : Prop := hs.length = j + 1 ∧ ∀ i, i ≤ j → ∃ h, hs[i]? = some h ∧ Old w cur h (Agg.winAt l i)
theorem Olds.next {w : World} {cur h : Value} {hs : List Value} {l : List (Bool × Int)} {j : Nat} (ho : Olds w cur hs l j) (hh : Old w cur h (Agg.winAt l (j + 1))) : Olds w cur (hs ++ [h]) l (j + 1) := by
  refine ⟨by simp [ho.1], fun i hi => ?_⟩
  by_cases hij : i ≤ j
  · obtain ⟨h', e, ho'⟩ := ho.2 i hij
    exact ⟨h', by rw [List.getElem?_append_left (by rw [ho.1]; omega)]; exact e, ho'⟩
  · obtain rfl : i = j + 1 := by omega
    exact ⟨h, by rw [List.getElem?_append_right (by rw [ho.1]; omega), ho.1]; simp, hh⟩
theorem Olds.map {w w' : World} {cur cur' : Value} {hs : List Value} {l : List (Bool × Int)} {j : Nat} (ho : Olds w cur hs l j) (hf : ∀ h k, Old w cur h k → Old w' cur' h k) : Olds w' cur' hs l j :=
  ⟨ho.1, fun i hi => by obtain ⟨h, e, o⟩ := ho.2 i hi; exact ⟨h, e, hf h _ o⟩⟩
theorem Olds.start (w : World) (l : List (Bool × Int)) : Olds w (.slice none 0 0) [.slice none 0 0] l 0 := by
  refine ⟨rfl, fun i hi => ?_⟩
  obtain rfl : i = 0 := by omega
  exact ⟨.slice none 0 0, rfl, Qu.old (base := 0) (l := []) (.inl ⟨rfl, rfl⟩)⟩
theorem one_row (w : World) {base : Nat} (v : Value) (e : TypeId) (hb : base ≤ w.heap.size) (h1 : v = v) : (w.alloc (.cells #[v] e)).ownsRow base e 1 (.slice (some ⟨w.heap.size, 0, none⟩) 1 1) (0 + 1) [v] :=
  ⟨rfl, .inr ⟨w.heap.size, 1, _, rfl, hb, heap_alloc_new w _, Nat.le_refl _, by simp [maxLen], rfl, rfl⟩⟩
set_option maxRecDepth 8000 in
set_option maxHeartbeats 4000000 in
theorem windowsOf_any (a : Option Addr) (n cap : Nat) (l : List (Bool × Int)) (w : World) (h : Ops w a n cap l) :
    Calls Tryz.prog 42 #[.slice a n cap] w (WinOut (Agg.opsOk l) l n w) := by
  obtain ⟨i0, hi0, hz0, hz1, hz2⟩ := info_parts infoWin
  have hll : l.length = n := h.1
  have HN := Lib.hid h; clear h
  obtain ⟨bb, hbb⟩ : ∃ bb, bb = Agg.opsOk l := ⟨_, rfl⟩
  rw [← hbb]
  have HBB := Lib.hid hbb; clear hbb
  obtain ⟨cb, hcb⟩ : ∃ cb, cb = (decide (n ≤ 200) && Agg.allOk l n) := ⟨_, rfl⟩
  have hC := changesOf_any a n cap l w HN.out
  rw [← hcb] at hC
  have HC := Lib.hid hC
  clear hC
  go_enter Tryz.func42, Tryz.ntmps42
  go_wp2_with fail
  refine HC.out.mono ?_
  rintro e w1 ⟨ht, hf⟩
  cases cb
  · obtain ⟨rfl, hb1⟩ := hf rfl
    have hno : Agg.opsOk l = false := by
      rw [Agg.opsOk, hll, ← hcb]; rfl
    clear ht hf HC
    have HB1 := Lib.hid hb1
    clear hb1 hcb
    go_wp2
    go_returns
    exact ⟨fun h => by rw [HBB.out, hno] at h; simp at h, fun _ => ⟨rfl, HB1.out⟩⟩
  · obtain ⟨cv, rfl, hch, hb1⟩ := ht rfl
    obtain ⟨ca, cc, hcv, hcn, hccm⟩ : ∃ ca cc, cv = .slice ca n cc ∧ n ≤ cc ∧ cc ≤ 9223372036854775807 := by
      rcases hch.2 with ⟨rfl, rfl⟩ | ⟨g, c2, cur, rfl, -, -, h1, h2, -⟩
      · exact ⟨none, 0, rfl, by omega, by omega⟩
      · exact ⟨_, c2, rfl, h1, by unfold maxLen at h2; omega⟩
    subst hcv
    have hb200 : n ≤ 200 := by have := hcb.symm; simp only [Bool.and_eq_true, decide_eq_true_eq] at this; exact this.1
    have hall : Agg.allOk l n = true := by have := hcb.symm; simp only [Bool.and_eq_true] at this; exact this.2
    clear ht hf HC hcb
    have hs1 := hb1.size
    have HCH := Lib.hid (hch.alloc (.cells #[.slice none 0 0] 26))
    have HW := Lib.hid (hb1.alloc hs1 (.cells #[.slice none 0 0] 26))
    have HR := Lib.hid (one_row w1 (base := w.heap.size) (.slice none 0 0) 26 hs1 rfl)
    have HOL := Lib.hid (Olds.start (w1.alloc (.cells #[.slice none 0 0] 26)) l)
    clear hch hb1
    go_wp2
    go_loopw [6, 7, 21] (fun wv ov i wr => ∃ (j : Nat) (hs : List Value), j ≤ n ∧ i = .int .i64 j ∧ Agg.fitTo l j = true ∧ Hid (Qu wr w.heap.size wv (Agg.winAt l j)) ∧ Hid (wr.ownsRow w.heap.size 26 1 ov (j + 1) hs) ∧ Hid (Olds wr wv hs l j) ∧ Hid (wr.ownsRow w.heap.size 119 1 (.slice ca n cc) n (l.map chg)) ∧ Hid (Below w.heap.size w wr)) (fun _ _ i _ => n - (intOf i).toNat)
    case atStart => exact ⟨0, _, Nat.zero_le _, rfl, rfl, Lib.hid (.inl ⟨rfl, rfl⟩), HR, HOL, HCH, HW⟩
    case round =>
      obtain ⟨j, hs, hj, rfl, hfit, hq, ho, hol, hch, hw⟩ := hrel
      clear HW HR HOL HCH
      have hwr := hw.out.size
      by_cases hlt : j < n
      · obtain ⟨gc, rfl⟩ : ∃ gc, ca = some ⟨gc, 0, none⟩ := by
          rcases hch.out.2 with ⟨_, h0⟩ | ⟨g, c2, cur, hv, -⟩
          · omega
          · simp only [Value.slice.injEq] at hv
            exact ⟨g, hv.1⟩
        have hcell := hch.out.cellAt j (by omega)
        rw [List.getElem?_map, List.getElem?_eq_getElem (show j < l.length by omega)] at hcell
        have hopj : Agg.opAt l j = l[j]'(by omega) := by simp [Agg.opAt, show j < l.length by omega]
        rw [← hopj] at hcell
        simp only [Option.map_some] at hcell
        have hfj : Agg.fitTo l (j + 1) = (Agg.fitTo l j && Agg.fits (Agg.winAt l j) (Agg.opAt l j)) := rfl
        have hwj : Agg.winAt l (j + 1) = Agg.stepW (Agg.winAt l j) (Agg.opAt l j) := rfl
        obtain ⟨L, hL⟩ : ∃ L, L = Agg.winAt l j := ⟨_, rfl⟩
        rw [hfit] at hfj
        rw [← hL] at hfj hwj hq
        have HLL := Lib.hid hL
        obtain ⟨⟨p, x⟩, hpx⟩ : ∃ o, o = Agg.opAt l j := ⟨_, rfl⟩
        rw [← hpx] at hcell hfj hwj
        clear hopj hL hpx
        have hk0 : (0 : Int) ≤ (j : Int) := Int.natCast_nonneg _
        have hkn : (j : Int) < (n : Int) := by omega
        obtain ⟨qa, qc, hqv, hqn, hqm⟩ := hq.out.form
        subst hqv
        have hnofit : Agg.fitTo l (j + 1) = false → Agg.opsOk l = false := fun h => Agg.opsOk_false_fit (i := j + 1) (by omega) h
        cases p
        · simp only [chg, Bool.false_eq_true, if_false] at hcell
          simp only [Agg.fits, Agg.stepW, Bool.false_eq_true, if_false, Bool.true_and] at hfj hwj
          by_cases hemp : L.length = 0
          · have hno := hnofit (by rw [hfj]; simp [hemp])
            have HNO := Lib.hid hno
            clear hfj hwj hnofit hno
            have HTF := Lib.hid (show ∀ w, Calls Tryz.prog 193 #[.agg #[], .int .i64 0] w fun e w' => e = .returned (.bool false) ∧ Below w.heap.size w w' from fun w => take_fits 0 w)
            go_wp2_with fail
            refine (HTF.out _).mono ?_
            rintro e w2 ⟨rfl, hb2⟩
            have HW2 := Lib.hid (hw.out.trans (hb2.mono hwr))
            clear hb2
            go_wp2_with fail
            go_returns
            exact ⟨fun h => by rw [HBB.out, HNO.out] at h; simp at h, fun _ => ⟨rfl, HW2.out⟩⟩
          · obtain ⟨g, off, rfl⟩ : ∃ g off, qa = some ⟨g, off, none⟩ := by
              rcases hq.out with ⟨_, h0⟩ | ⟨g, off, c2, cur, hv, -⟩
              · rw [h0] at hemp; simp at hemp
              · simp only [Value.slice.injEq] at hv
                exact ⟨g, off, hv.1⟩
            have HFJ := Lib.hid (show Agg.fitTo l (j + 1) = true by rw [hfj]; simp; omega)
            have HWJ := Lib.hid hwj
            clear hfj hwj hnofit
            obtain ⟨fb, hfb⟩ : ∃ fb : Bool, fb = decide ((0 : Int) < (L.length : Int)) := ⟨_, rfl⟩
            have hFB : fb = true := by rw [hfb]; exact decide_eq_true (by omega)
            have hTF := fun w => take_fits (L.length : Int) w
            rw [← hfb, hFB] at hTF
            have HTF := Lib.hid hTF
            clear hfb hFB hTF
            go_wp2_with fail
            refine (HTF.out _).mono ?_
            rintro e wf ⟨rfl, hbf⟩
            have hq1 := Lib.hid (hq.out.kept (Below.grownNone hbf none) (fun g e => by cases e))
            have ho1 := Lib.hid (ho.out.kept (Below.grownNone hbf none) (by cases hv : u7.ownBlock <;> simp))
            have hch1 := Lib.hid (hch.out.kept (Below.grownNone hbf none) (.inr (by simp [Value.ownBlock])))
            have hol1 := Lib.hid (hol.out.map (fun h k o => o.kept (Below.grownNone hbf none) (fun g e => by cases e)))
            have hw1 := Lib.hid (hw.out.trans (hbf.mono hwr))
            have hcell1 := (hbf.cell (World.block_lt_of_cell? _ _ hcell)).trans hcell
            clear hq ho hch hol hw hbf hcell
            clear hwr
            have hwr := hw1.out.size
            obtain ⟨wr, hwrw⟩ : ∃ wr, wr = wf := ⟨_, rfl⟩
            subst hwrw
            have hq := hq1
            have ho := ho1
            have hch := hch1
            have hol := hol1
            have hw := hw1
            have hcell := hcell1
            clear hq1 ho1 hch1 hol1 hw1 hcell1
            have HT := Lib.hid (take_apply wr g off L.length qc (by omega) hqn hqm)
            go_wp2_with fail
            refine HT.out.mono ?_
            rintro e w2 ⟨v2, rfl, hv2, hb2⟩
            have HB2 := Lib.hid hb2
            have HQ2 := Lib.hid (Qu.take (hq.out.kept (Below.grownNone hb2 none) (fun g e => by cases e)) (by omega) hv2)
            have HOL2 := Lib.hid (hol.out.map (fun h k o => (o.kept (Below.grownNone hb2 none) (fun g e => by cases e)).take (by omega) hqn (hv2.imp id (fun ⟨a, o, _, b⟩ => ⟨a, o, b⟩))))
            have HO2 := Lib.hid (ho.out.kept (Below.grownNone hb2 none) (by cases hv : u7.ownBlock <;> simp))
            have HC2 := Lib.hid (hch.out.kept (Below.grownNone hb2 none) (.inr (by simp [Value.ownBlock])))
            have HW2 := Lib.hid (hw.out.trans (hb2.mono hwr))
            clear hb2 HT hv2
            have hwsz := HW2.out.size
            have hlt' : ∀ g, u7.ownBlock = some g → w.heap.size ≤ g := fun g hg => (ho.out.lt g hg).1
            have hnoint : ∀ g, u7.ownBlock = some g → ¬ IntBlock (w2.alloc (.cells #[v2] 26)) g := not_int (HO2.out.alloc _) (by decide)
            have hap := rows_apart (HC2.out.alloc (.cells #[v2] 26)) (HO2.out.alloc (.cells #[v2] 26)) (by decide)
            have HNI := Lib.hid hnoint
            have HAP := Lib.hid hap
            clear hnoint hap
            obtain ⟨a2, m2, c2, rfl⟩ : ∃ a2 m2 c2, v2 = .slice a2 m2 c2 := by obtain ⟨a2, c2, h, -, -⟩ := HQ2.out.form; exact ⟨a2, _, c2, h⟩
            obtain ⟨L2, hL2⟩ : ∃ L2, L2 = Agg.winAt l (j + 1) := ⟨_, rfl⟩
            go_wp2_with (at_builtin; refine wpList_append_own _ rfl (.tmp 33) (.tmp 35) 79 rfl w.heap.size 26 i0 (.slice none 0 0) 1 24 Tryz.underlying79 hi0 hz0 hz1 hz2 rfl (by decide) _ _ _ rfl (HO2.out.alloc _) ⟨w2.heap.size, 0, none⟩ 1 1 [.slice a2 m2 c2] rfl rfl (cell_one_new _ _ _) (fun u hu => by rw [List.mem_singleton.1 hu]; rfl) (by unfold maxLen; omega) (by omega) (by simp; omega) ?_; intro v3 w3 hown3 hgrow3 hnil3; have HO3 := Lib.hid hown3; have HG3 := Lib.hid hgrow3; have HW3 := Lib.hid ((HW2.out.alloc HW2.out.size _).grown hgrow3 (by have := HW2.out.size; simp; omega) hlt'); clear hown3 hgrow3 hnil3)
            go_roundw
            case rel =>
              have hb1 : Below w2.heap.size w2 (w2.alloc (.cells #[.slice a2 m2 c2] 26)) := (Below.refl _ _).alloc (Nat.le_refl _) _
              have hq3 := (HQ2.out.kept (Below.grownNone hb1 none) (fun g e => by cases e)).kept HG3.out HNI.out
              have hol3 := HOL2.out.map (fun h k o => (o.kept (Below.grownNone hb1 none) (fun g e => by cases e)).kept HG3.out HNI.out)
              refine ⟨j + 1, _, by omega, by go_num, HFJ.out, Lib.hid ?_, HO3, Lib.hid (hol3.next ?_), Lib.hid ((HC2.out.alloc _).kept HG3.out HAP.out), HW3⟩
              · rw [HWJ.out]; exact hq3
              · rw [HWJ.out]; exact hq3.old
            case measure => simp [intOf]; omega
        · simp only [chg, if_true] at hcell
          simp only [Agg.fits, Agg.stepW, if_true, Bool.true_and] at hfj hwj
          by_cases hful : L.length < 60
          · have HFJ := Lib.hid (show Agg.fitTo l (j + 1) = true by rw [hfj]; simp [hful])
            have HWJ := Lib.hid hwj
            clear hfj hwj hnofit
            obtain ⟨fb, hfb⟩ : ∃ fb : Bool, fb = decide ((L.length : Int) < 60) := ⟨_, rfl⟩
            have hFB : fb = true := by rw [hfb]; exact decide_eq_true (by omega)
            have hPF := fun w => push_fits x (L.length : Int) w
            rw [← hfb, hFB] at hPF
            have HPF := Lib.hid hPF
            clear hfb hFB hPF
            go_wp2_with fail
            refine (HPF.out _).mono ?_
            rintro e wf ⟨rfl, hbf⟩
            have hq1 := Lib.hid (hq.out.kept (Below.grownNone hbf none) (fun g e => by cases e))
            have ho1 := Lib.hid (ho.out.kept (Below.grownNone hbf none) (by cases hv : u7.ownBlock <;> simp))
            have hch1 := Lib.hid (hch.out.kept (Below.grownNone hbf none) (.inr (by simp [Value.ownBlock])))
            have hol1 := Lib.hid (hol.out.map (fun h k o => o.kept (Below.grownNone hbf none) (fun g e => by cases e)))
            have hw1 := Lib.hid (hw.out.trans (hbf.mono hwr))
            have hcell1 := (hbf.cell (World.block_lt_of_cell? _ _ hcell)).trans hcell
            clear hq ho hch hol hw hbf hcell
            clear hwr
            have hwr := hw1.out.size
            obtain ⟨wr, hwrw⟩ : ∃ wr, wr = wf := ⟨_, rfl⟩
            subst hwrw
            have hq := hq1
            have ho := ho1
            have hch := hch1
            have hol := hol1
            have hw := hw1
            have hcell := hcell1
            clear hq1 ho1 hch1 hol1 hw1 hcell1
            have HP := Lib.hid (push_apply w.heap.size x _ L wr hq.out hwr hful)
            go_wp2_with fail
            refine HP.out.mono ?_
            rintro e w2 ⟨v2, rfl, hq2, ⟨wm, hwm, hpu⟩, hb2⟩
            have HQ2 := Lib.hid hq2
            have HOL2 := Lib.hid (hol.out.map (fun h k o => (o.kept (Below.grownNone hwm none) (fun g e => by cases e)).push hpu))
            have HO2 := Lib.hid (row_pushed ho.out (by decide) hwm hpu)
            have HC2 := Lib.hid (row_pushed hch.out (by decide) hwm hpu)
            have HW2 := Lib.hid (hw.out.trans hb2)
            clear hb2 HP hq2 hwm hpu
            have hwsz := HW2.out.size
            have hlt' : ∀ g, u7.ownBlock = some g → w.heap.size ≤ g := fun g hg => (ho.out.lt g hg).1
            have hnoint : ∀ g, u7.ownBlock = some g → ¬ IntBlock (w2.alloc (.cells #[v2] 26)) g := not_int (HO2.out.alloc _) (by decide)
            have hap := rows_apart (HC2.out.alloc (.cells #[v2] 26)) (HO2.out.alloc (.cells #[v2] 26)) (by decide)
            have HNI := Lib.hid hnoint
            have HAP := Lib.hid hap
            clear hnoint hap
            obtain ⟨a2, m2, c2, rfl⟩ : ∃ a2 m2 c2, v2 = .slice a2 m2 c2 := by obtain ⟨a2, c2, h, -, -⟩ := HQ2.out.form; exact ⟨a2, _, c2, h⟩
            obtain ⟨L2, hL2⟩ : ∃ L2, L2 = Agg.winAt l (j + 1) := ⟨_, rfl⟩
            go_wp2_with (at_builtin; refine wpList_append_own _ rfl (.tmp 33) (.tmp 35) 79 rfl w.heap.size 26 i0 (.slice none 0 0) 1 24 Tryz.underlying79 hi0 hz0 hz1 hz2 rfl (by decide) _ _ _ rfl (HO2.out.alloc _) ⟨w2.heap.size, 0, none⟩ 1 1 [.slice a2 m2 c2] rfl rfl (cell_one_new _ _ _) (fun u hu => by rw [List.mem_singleton.1 hu]; rfl) (by unfold maxLen; omega) (by omega) (by simp; omega) ?_; intro v3 w3 hown3 hgrow3 hnil3; have HO3 := Lib.hid hown3; have HG3 := Lib.hid hgrow3; have HW3 := Lib.hid ((HW2.out.alloc HW2.out.size _).grown hgrow3 (by have := HW2.out.size; simp; omega) hlt'); clear hown3 hgrow3 hnil3)
            go_roundw
            case rel =>
              have hb1 : Below w2.heap.size w2 (w2.alloc (.cells #[.slice a2 m2 c2] 26)) := (Below.refl _ _).alloc (Nat.le_refl _) _
              have hq3 := (HQ2.out.kept (Below.grownNone hb1 none) (fun g e => by cases e)).kept HG3.out HNI.out
              have hol3 := HOL2.out.map (fun h k o => (o.kept (Below.grownNone hb1 none) (fun g e => by cases e)).kept HG3.out HNI.out)
              refine ⟨j + 1, _, by omega, by go_num, HFJ.out, Lib.hid ?_, HO3, Lib.hid (hol3.next ?_), Lib.hid ((HC2.out.alloc _).kept HG3.out HAP.out), HW3⟩
              · rw [HWJ.out]; exact hq3
              · rw [HWJ.out]; exact hq3.old
            case measure => simp [intOf]; omega
          · have hno := hnofit (by rw [hfj]; simp; omega)
            have HNO := Lib.hid hno
            obtain ⟨fb, hfb⟩ : ∃ fb : Bool, fb = decide ((L.length : Int) < 60) := ⟨_, rfl⟩
            have hFB : fb = false := by rw [hfb]; exact decide_eq_false (by omega)
            have hPF := fun w => push_fits x (L.length : Int) w
            rw [← hfb, hFB] at hPF
            have HPF := Lib.hid hPF
            clear hfb hFB hPF hfj hwj hnofit hno
            go_wp2_with fail
            refine (HPF.out _).mono ?_
            rintro e w2 ⟨rfl, hb2⟩
            have HW2 := Lib.hid (hw.out.trans (hb2.mono hwr))
            clear hb2
            go_wp2_with fail
            go_returns
            exact ⟨fun h => by rw [HBB.out, HNO.out] at h; simp at h, fun _ => ⟨rfl, HW2.out⟩⟩
      · obtain rfl : j = n := by omega
        have hyes : Agg.opsOk l = true := by rw [Agg.opsOk, hll, hall, hfit]; simp [hb200]
        have HY := Lib.hid hyes
        clear hyes
        go_wp2
        go_returns
        refine ⟨fun _ => ⟨_, hs, rfl, ho.out, fun i hi => ?_, hw.out⟩, fun h => by rw [HBB.out, HY.out] at h; simp at h⟩
        obtain ⟨h, e, a', n', c', rfl, hN, -⟩ := hol.out.2 i hi
        exact ⟨a', n', c', e, hN⟩
end Go.Proofs.YtolgclajlklmaaaGreat

/-
  OpsValid, in the program and in the model.
-/
namespace Go.Proofs.YtolgclajlklmaaaGreat
set_option linter.unusedSimpArgs false
set_option linter.unusedVariables false
open Go.RowKit
theorem opsValid_any (a : Option Addr) (n cap : Nat) (l : List (Bool × Int)) (w : World) (h : Ops w a n cap l) :
    Calls Tryz.prog 67 #[.slice a n cap] w fun e w' => e = .returned (.bool (Agg.opsOk l)) ∧ Below w.heap.size w w' := by
  have hW := windowsOf_any a n cap l w h
  obtain ⟨b, hb⟩ : ∃ b, b = Agg.opsOk l := ⟨_, rfl⟩
  rw [← hb] at hW ⊢
  have HW := Lib.hid hW
  clear hW hb h
  go_enter Tryz.func67, Tryz.ntmps67
  go_wp2_with fail
  refine HW.out.mono ?_
  rintro e w1 ⟨ht, hf⟩
  cases b
  · obtain ⟨rfl, hb1⟩ := hf rfl
    have HB := Lib.hid hb1
    clear ht hf hb1
    go_wp2
    go_returns
    exact ⟨rfl, HB.out⟩
  · obtain ⟨v, hs, rfl, -, -, hb1⟩ := ht rfl
    have HB := Lib.hid hb1
    clear ht hf hb1
    go_wp2
    go_returns
    exact ⟨rfl, HB.out⟩
set_option maxRecDepth 8000 in
set_option maxHeartbeats 2000000 in
theorem s_l2Ops_any (a : Option Addr) (n cap : Nat) (l : List (Bool × Int)) (w : World) (h : Ops w a n cap l) :
    Calls Tryz.prog 38 #[.slice a n cap] w fun e w' => e = .returned (.bool (Agg.opsOk l)) ∧ Below w.heap.size w w' := by
  have hll : l.length = n := h.1
  have hnc := h.2.1
  have hcm : cap ≤ 9223372036854775807 := by have := h.2.2.1; unfold maxLen at this; omega
  have H4 := Lib.hid h.2.2.2
  clear h
  obtain ⟨b, hb⟩ : ∃ b, b = Agg.opsOk l := ⟨_, rfl⟩
  rw [← hb]
  have HBB := Lib.hid hb
  clear hb
  go_enter Tryz.func38, Tryz.ntmps38
  go_wp2
  go_loopw [3, 4] (fun nv i wr => ∃ j : Nat, j ≤ n ∧ j ≤ 200 ∧ i = .int .i64 j ∧ nv = .int .i64 ((Agg.winAt l j).length : Int) ∧ Agg.allOk l j = true ∧ Agg.fitTo l j = true ∧ Hid (Below w.heap.size w wr)) (fun _ i _ => n - (intOf i).toNat)
  case atStart => exact ⟨0, Nat.zero_le _, by omega, rfl, by simp [Agg.winAt], rfl, rfl, Below.refl _ _⟩
  case round =>
    obtain ⟨j, hj, hj2, rfl, rfl, hok, hfit, hw⟩ := hrel
    have hwl := Agg.win_len j hfit
    by_cases hlt : j < n ∧ j < 200
    · obtain ⟨hlt, hlt2⟩ := hlt
      rcases H4.out with h4 | ⟨bk, off, rfl, hbk, hcs⟩
      · omega
      · have hck := (hw.out.cell (p := ⟨bk, off + j * 2, none⟩) hbk).trans (hcs j hlt).1
        have hcl := (hw.out.cell (p := ⟨bk, off + j * 2 + 1, none⟩) hbk).trans (hcs j hlt).2
        clear hcs
        have hfj : Agg.fitTo l (j + 1) = (Agg.fitTo l j && Agg.fits (Agg.winAt l j) (Agg.opAt l j)) := rfl
        have haj : Agg.allOk l (j + 1) = (Agg.allOk l j && Agg.opOk (Agg.opAt l j)) := rfl
        have hwj : Agg.winAt l (j + 1) = Agg.stepW (Agg.winAt l j) (Agg.opAt l j) := rfl
        have hno1 : Agg.fitTo l (j + 1) = false → Agg.opsOk l = false := fun h => Agg.opsOk_false_fit (i := j + 1) (by omega) h
        have hno2 : Agg.allOk l (j + 1) = false → Agg.opsOk l = false := fun h => Agg.opsOk_false_all (i := j + 1) (by omega) h
        simp only [Agg.opAt] at hfj haj hwj
        obtain ⟨⟨p, x⟩, hx⟩ : ∃ x, x = l[j]?.getD (false, 0) := ⟨_, rfl⟩
        rw [← hx] at hck hcl hfj haj hwj
        rw [hfit] at hfj
        rw [hok] at haj
        obtain ⟨L, hL⟩ : ∃ L, L = Agg.winAt l j := ⟨_, rfl⟩
        rw [← hL] at hfj hwj hwl ⊢
        clear hx hL
        have hk0 : (0 : Int) ≤ (j : Int) := Int.natCast_nonneg _
        have hkn : (j : Int) < (n : Int) := by omega
        have hk2 : (j : Int) < 200 := by omega
        have hd2 : decide ((j : Int) < 200) = true := decide_eq_true hk2
        cases p
        · simp only [Agg.fits, Agg.stepW, Agg.opOk, Bool.false_eq_true, if_false, Bool.true_and] at hfj haj hwj
          by_cases hL0 : L.length = 0
          · have hno := hno1 (by rw [hfj]; simp [hL0])
            have HNO := Lib.hid hno
            have hneg : ((L.length : Int) - 1 < 0) := by omega
            clear hno1 hno2 hfj haj hwj hno
            go_wp2
            all_goals
              go_returns
              exact ⟨ret_bool (by rw [HBB.out, HNO.out]), hw.out⟩
          · have hneg : ¬ ((L.length : Int) - 1 < 0) := by omega
            by_cases hx0 : x = 0
            · have HF := Lib.hid (show Agg.fitTo l (j + 1) = true by rw [hfj]; simp; omega)
              have HA := Lib.hid (show Agg.allOk l (j + 1) = true by rw [haj]; simp [hx0])
              have HWJ := Lib.hid (show ((Agg.winAt l (j + 1)).length : Int) = (L.length : Int) - 1 by rw [hwj]; simp; omega)
              clear hno1 hno2 hfj haj hwj
              go_wp2
              go_roundw
              case rel => exact ⟨j + 1, by omega, by omega, by go_num, by rw [HWJ.out], HA.out, HF.out, hw.out⟩
              case measure => simp [intOf]; omega
            · have hno := hno2 (by rw [haj]; simp [hx0])
              have HNO := Lib.hid hno
              clear hno1 hno2 hfj haj hwj hno
              go_wp2
              all_goals
                go_returns
                exact ⟨ret_bool (by rw [HBB.out, HNO.out]), hw.out⟩
        · simp only [Agg.fits, Agg.stepW, Agg.opOk, if_true, Bool.true_and] at hfj haj hwj
          cases hit : Agg.isItem x
          · have hno := hno2 (by rw [haj, hit])
            have HNO := Lib.hid hno
            clear hno1 hno2 hfj haj hwj hno
            go_wp2_with (go_at_call 71; refine (s_in_item _ _).mono ?_; rintro e wk ⟨rfl, rfl⟩)
            all_goals
              go_returns
              exact ⟨ret_bool (by rw [HBB.out, HNO.out]), hw.out⟩
          · by_cases hL60 : L.length < 60
            · have hle : ¬ (60 < (L.length : Int) + 1) := by omega
              have HF := Lib.hid (show Agg.fitTo l (j + 1) = true by rw [hfj]; simp [hL60])
              have HA := Lib.hid (show Agg.allOk l (j + 1) = true by rw [haj, hit])
              have HWJ := Lib.hid (show ((Agg.winAt l (j + 1)).length : Int) = (L.length : Int) + 1 by rw [hwj]; simp)
              clear hno1 hno2 hfj haj hwj
              go_wp2_with (go_at_call 71; refine (s_in_item _ _).mono ?_; rintro e wk ⟨rfl, rfl⟩)
              go_roundw
              case rel => exact ⟨j + 1, by omega, by omega, by go_num, by rw [HWJ.out], HA.out, HF.out, hw.out⟩
              case measure => simp [intOf]; omega
            · have hle : 60 < (L.length : Int) + 1 := by omega
              have hno := hno1 (by rw [hfj]; simp; omega)
              have HNO := Lib.hid hno
              clear hno1 hno2 hfj haj hwj hno
              go_wp2_with (go_at_call 71; refine (s_in_item _ _).mono ?_; rintro e wk ⟨rfl, rfl⟩)
              all_goals
                go_returns
                exact ⟨ret_bool (by rw [HBB.out, HNO.out]), hw.out⟩
    · by_cases hjn : j < n
      · have hj200 : ¬ ((j : Int) < 200) := by omega
        have hjn' : (j : Int) < (n : Int) := by omega
        have hbig : ¬ ((n : Int) ≤ 200) := by omega
        have HNO := Lib.hid (show Agg.opsOk l = false by simp [Agg.opsOk]; intro h; omega)
        go_wp2
        go_returns
        exact ⟨ret_bool (by rw [HBB.out, HNO.out]), hw.out⟩
      · obtain rfl : j = n := by omega
        have hle : ((j : Int) ≤ 200) := by omega
        have HY := Lib.hid (show Agg.opsOk l = true by rw [Agg.opsOk, hll, hok, hfit]; simp [hj2])
        clear hlt
        go_wp2
        go_returns
        exact ⟨ret_bool (by rw [HBB.out, HY.out]), hw.out⟩
end Go.Proofs.YtolgclajlklmaaaGreat
