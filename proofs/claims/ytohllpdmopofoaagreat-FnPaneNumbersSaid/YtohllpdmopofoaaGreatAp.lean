/-
  append to a row of one's own: where the row lies afterwards; a variable of seven cells.
-/
import Derived.Test.YtohllpdmopofoaaGreatRow
import Derived.Deep.AppendSrc
import Derived.Lib.AppendZeros
import Derived.OwnWalk
namespace Go.Proofs.YtohllpdmopofoaaGreat
set_option linter.unusedSimpArgs false
set_option linter.unusedVariables false
open Go.RowKit

theorem append_where {P : Program} (w : World) (base : Nat) (t ty e : TypeId) (i : TypeInfo) (z : Value) (size bytes : Nat) (ht : P.underlying t = some (.slice e)) (hi : P.info? e = some i) (hz : i.zero = some z)
    (hsize : i.size = size) (hby : i.bytes = bytes) (hzs : z.cells.size = size) (hsz : 0 < size)
    (v : Value) (n : Nat) (xs : List Value) (hown : w.ownsRow base e size v n xs)
    (a : Addr) (m c : Nat) (news : List Value) (hl : news.length = m * size) (hnews : ∀ j u, news[j]? = some u → w.cell? (a.add j) = some u) (h1 : ∀ u ∈ news, u.oneCell' = true)
    (h63 : n + m ≤ maxLen) (hbytes : (n + m) * bytes ≤ 140737488355328) (hbase : base ≤ w.heap.size) :
    ∃ v' w', (Builtin.append_ #[t, t] ty #[v, .slice (some a) m c]).run P w = .ok v' w' ∧ w'.ownsRow base e size v' (n + m) (xs ++ news) ∧ w.grownBy w' v.ownBlock ∧ (v'.ownBlock = v.ownBlock ∨ ∃ g, v'.ownBlock = some g ∧ w.heap.size ≤ g) := by
  obtain ⟨v', w', hrun, hown', hgrow, hnil⟩ := run_append_own w base t ty e i z size bytes ht hi hz hsize hby hzs hsz v n xs hown a m c news hl hnews h1 h63 hbytes hbase
  refine ⟨v', w', hrun, hown', hgrow, ?_⟩
  have hm63 : n + m ≤ 9223372036854775807 := by unfold maxLen at h63; omega
  have hs : Src P i.size t (.slice (some a) m c) m news w := Src.ofSlice w ht a m c news (by rw [hsize]; exact hl) hnews h1
  rcases hown.2 with ⟨rfl, rfl⟩ | ⟨g, cap, cur, rfl, hb, hh, k1, k2, k3, k4⟩
  · by_cases hm : m = 0
    · rw [hnil.2 ⟨rfl, hm⟩]
      exact .inl rfl
    · have hr := run_append_grow_src (P := P) w t t ty e i z ht hi hz none 0 0 [] (by simpa using run_firstCells_none (P := P) w.drew i.size 0 0 0) (.slice (some a) m c) m news hs (by omega) (by omega) (growslice_fits (by omega) (by rw [hby]; exact hbytes))
      rw [hrun] at hr
      simp only [Result.ok.injEq] at hr
      rw [hr.1]
      exact .inr ⟨_, rfl, Nat.le_refl _⟩
  · by_cases hroom : n + m ≤ cap
    · have hr := run_append_room_src (P := P) w t t ty e i ht hi g 0 n cap (.slice (some a) m c) m news hs hroom
        (fun j hj => by
          have hlt : 0 + n * i.size + j < cur.size := by
            rw [k3, hsize]
            rw [hl] at hj
            have := Nat.mul_le_mul_right size hroom
            rw [Nat.add_mul] at this
            omega
          simp [World.cell?, hh]
          rw [hsize] at hlt ⊢
          omega)
        (fun j hj => by simp [World.frozen?, hh])
      rw [hrun] at hr
      simp only [Result.ok.injEq] at hr
      rw [hr.1]
      exact .inl rfl
    · have hxs : xs.length = n * size := hown.1
      have hr := run_append_grow_src (P := P) w t t ty e i z ht hi hz (some ⟨g, 0, none⟩) n cap xs
        (run_firstCells_some (P := P) w.drew i.size n ⟨g, 0, none⟩ n cap xs (by rw [hsize]; exact hxs) (fun j u hj => by
          have hjn : j < n * size := by rw [← hxs]; exact (List.getElem?_eq_some_iff.1 hj).1
          rw [Addr.add_lit, Nat.zero_add]
          show w.cell? ⟨g, j, none⟩ = some u
          have hcur : cur[j]? = some u := by
            rw [← hj, ← k4, List.getElem?_take, if_pos hjn, Array.getElem?_toList]
          simp [World.cell?, hh, hcur]))
        (.slice (some a) m c) m news hs (by omega) (by omega) (growslice_fits (by omega) (by rw [hby]; exact hbytes))
      rw [hrun] at hr
      simp only [Result.ok.injEq] at hr
      rw [hr.1]
      exact .inr ⟨_, rfl, Nat.le_refl _⟩

theorem wpList_append_where {P : Program} {w : World} {ops : Array Oper} {rest : List Oper} {o : Oper} {a : Act} {Q : Exit → Act → World → Prop} (hgd : o.guard = none) (s x : Operand) (t : TypeId)
    (ho : o.op = .call { callee := .builtin .append, args := #[s, x], argTypes := #[t, t] })
    (base : Nat) (e : TypeId) (i : TypeInfo) (z : Value) (size bytes : Nat) (ht : P.underlying t = some (.slice e)) (hi : P.info? e = some i) (hz : i.zero = some z)
    (hsize : i.size = size) (hby : i.bytes = bytes) (hzs : z.cells.size = size) (hsz : 0 < size)
    (v : Value) (n : Nat) (xs : List Value) (hs : a.eval s = v) (hown : w.ownsRow base e size v n xs)
    (ad : Addr) (m c : Nat) (news : List Value) (hx : a.eval x = .slice (some ad) m c) (hl : news.length = m * size) (hnews : ∀ j u, news[j]? = some u → w.cell? (ad.add j) = some u) (h1 : ∀ u ∈ news, u.oneCell' = true)
    (h63 : n + m ≤ maxLen) (hbytes : (n + m) * bytes ≤ 140737488355328) (hbase : base ≤ w.heap.size)
    (h : ∀ v' w', w'.ownsRow base e size v' (n + m) (xs ++ news) → w.grownBy w' v.ownBlock → (v'.ownBlock = v.ownBlock ∨ ∃ g, v'.ownBlock = some g ∧ w.heap.size ≤ g) → wpList P ops Q rest (a.put o.dst v') w') : wpList P ops Q (o :: rest) a w := by
  obtain ⟨v', w', hrun, h2, h3, h4⟩ := append_where w base t o.type e i z size bytes ht hi hz hsize hby hzs hsz v n xs hown ad m c news hl hnews h1 h63 hbytes hbase
  exact Lib.wpList_append_run w hgd s x t t ho v _ hs hx v' w' hrun (h v' w' h2 h3 h4)

/-- A variable of seven cells: its block. -/
def Box7 (w : World) (c : Nat) (T : TypeId) (v0 v1 v2 v3 v4 v5 v6 : Value) : Prop := w.heap[c]? = some (.cells #[v0, v1, v2, v3, v4, v5, v6] T (0, 0))
section
variable {w w' : World} {c d : Nat} {T : TypeId} {v0 v1 v2 v3 v4 v5 v6 : Value}
theorem Box7.new (w : World) (T : TypeId) (v0 v1 v2 v3 v4 v5 v6 : Value) : Box7 (w.alloc (.cells #[v0, v1, v2, v3, v4, v5, v6] T)) w.heap.size T v0 v1 v2 v3 v4 v5 v6 := heap_alloc_new w _
theorem Box7.lt (h : Box7 w c T v0 v1 v2 v3 v4 v5 v6) : c < w.heap.size := (Array.getElem?_eq_some_iff.1 h).1
theorem Box7.below {B : Nat} (h : Box7 w c T v0 v1 v2 v3 v4 v5 v6) (hb : Below B w w') (hc : c < B) : Box7 w' c T v0 v1 v2 v3 v4 v5 v6 := (hb.block c hc).trans h
theorem Box7.call (h : Box7 w c T v0 v1 v2 v3 v4 v5 v6) (hb : Below w.heap.size w w') : Box7 w' c T v0 v1 v2 v3 v4 v5 v6 := h.below hb h.lt
theorem Box7.callD (h : Box7 w c T v0 v1 v2 v3 v4 v5 v6) (hb : Below w.drew.heap.size w.drew w') : Box7 w' c T v0 v1 v2 v3 v4 v5 v6 := Box7.call (w := w.drew) h hb
theorem Box7.alloc (h : Box7 w c T v0 v1 v2 v3 v4 v5 v6) (o : Obj) : Box7 (w.alloc o) c T v0 v1 v2 v3 v4 v5 v6 := h.call ((Below.refl _ _).alloc (Nat.le_refl _) _)
theorem Box7.grown {row : Option Nat} (h : Box7 w c T v0 v1 v2 v3 v4 v5 v6) (hg : w.grownBy w' row) (hr : row ≠ some c) : Box7 w' c T v0 v1 v2 v3 v4 v5 v6 := (hg.block c h.lt (fun e => hr e.symm)).trans h
theorem Box7.cells (h : Box7 w c T v0 v1 v2 v3 v4 v5 v6) :
    w.cell? ⟨c, 0, none⟩ = some v0 ∧ w.cell? ⟨c, 1, none⟩ = some v1 ∧ w.cell? ⟨c, 2, none⟩ = some v2 ∧ w.cell? ⟨c, 3, none⟩ = some v3 ∧ w.cell? ⟨c, 4, none⟩ = some v4 ∧ w.cell? ⟨c, 5, none⟩ = some v5 ∧ w.cell? ⟨c, 6, none⟩ = some v6 := by
  unfold Box7 at h
  refine ⟨?_, ?_, ?_, ?_, ?_, ?_, ?_⟩ <;> simp [World.cell?, h]
theorem Box7.free (h : Box7 w c T v0 v1 v2 v3 v4 v5 v6) (o : Nat) : w.frozen? ⟨c, o, none⟩ = false := by
  unfold Box7 at h
  simp [World.frozen?, h]
theorem Box7.set0 (h : Box7 w c T v0 v1 v2 v3 v4 v5 v6) (u : Value) : Box7 (w.setCell ⟨c, 0, none⟩ u) c T u v1 v2 v3 v4 v5 v6 := by unfold Box7 at *; simp [World.setCell, Array.getElem?_modify, h]
theorem Box7.set1 (h : Box7 w c T v0 v1 v2 v3 v4 v5 v6) (u : Value) : Box7 (w.setCell ⟨c, 1, none⟩ u) c T v0 u v2 v3 v4 v5 v6 := by unfold Box7 at *; simp [World.setCell, Array.getElem?_modify, h]
theorem Box7.set2 (h : Box7 w c T v0 v1 v2 v3 v4 v5 v6) (u : Value) : Box7 (w.setCell ⟨c, 2, none⟩ u) c T v0 v1 u v3 v4 v5 v6 := by unfold Box7 at *; simp [World.setCell, Array.getElem?_modify, h]
theorem Box7.set3 (h : Box7 w c T v0 v1 v2 v3 v4 v5 v6) (u : Value) : Box7 (w.setCell ⟨c, 3, none⟩ u) c T v0 v1 v2 u v4 v5 v6 := by unfold Box7 at *; simp [World.setCell, Array.getElem?_modify, h]
theorem Box7.set4 (h : Box7 w c T v0 v1 v2 v3 v4 v5 v6) (u : Value) : Box7 (w.setCell ⟨c, 4, none⟩ u) c T v0 v1 v2 v3 u v5 v6 := by unfold Box7 at *; simp [World.setCell, Array.getElem?_modify, h]
theorem Box7.set5 (h : Box7 w c T v0 v1 v2 v3 v4 v5 v6) (u : Value) : Box7 (w.setCell ⟨c, 5, none⟩ u) c T v0 v1 v2 v3 v4 u v6 := by unfold Box7 at *; simp [World.setCell, Array.getElem?_modify, h]
theorem Box7.set6 (h : Box7 w c T v0 v1 v2 v3 v4 v5 v6) (u : Value) : Box7 (w.setCell ⟨c, 6, none⟩ u) c T v0 v1 v2 v3 v4 v5 u := by unfold Box7 at *; simp [World.setCell, Array.getElem?_modify, h]
theorem Box7.other (h : Box7 w c T v0 v1 v2 v3 v4 v5 v6) (hd : c ≠ d) (o : Nat) (u : Value) : Box7 (w.setCell ⟨d, o, none⟩ u) c T v0 v1 v2 v3 v4 v5 v6 := by
  unfold Box7 at *
  rw [Below.heap_setCell _ _ _ _ (by simpa using hd)]
  exact h
end
theorem Box.call {w w' : World} {c : Nat} {T : TypeId} {x y z : Int} (h : Box w c T x y z) (hb : Below w.heap.size w w') : Box w' c T x y z := h.below hb h.lt
theorem Box.callD {w w' : World} {c : Nat} {T : TypeId} {x y z : Int} (h : Box w c T x y z) (hb : Below w.drew.heap.size w.drew w') : Box w' c T x y z := Box.call (w := w.drew) h hb
theorem Box.alloc {w : World} {c : Nat} {T : TypeId} {x y z : Int} (h : Box w c T x y z) (o : Obj) : Box (w.alloc o) c T x y z := h.call ((Below.refl _ _).alloc (Nat.le_refl _) _)
theorem Box.grew {w w' : World} {c : Nat} {T : TypeId} {x y z : Int} {row : Option Nat} (h : Box w c T x y z) (hg : w.grownBy w' row) (hr : row ≠ some c) : Box w' c T x y z := (hg.block c h.lt (fun e => hr e.symm)).trans h
end Go.Proofs.YtohllpdmopofoaaGreat
