/-
  The model's windows: a change applied to a copy.
-/
import Derived.Test.YtikdjdoggjhmaaaGreat2l
import Derived.Deep.RegionLaw
namespace Go.Proofs.YtikdjdoggjhmaaaGreat
set_option linter.unusedSimpArgs false
set_option linter.unusedVariables false
open Go.RowKit
/-- append to a row of the call's own, as one step of a region that draws. -/
theorem step_append_own {P : Program} {ops : Array Oper} {o : Oper} {a : Act} {w : World} {K : Act → World → Prop} {Q : Exit → Act → World → Prop} {E : Prop}
    (hg : o.guard = none) (s x : Operand) (t : TypeId) (hop : o.op = Op.call { callee := Callee.builtin Builtin.append, args := #[s, x], argTypes := #[t, t] })
    (base : Nat) (e : TypeId) (i : TypeInfo) (z : Value) (size bytes : Nat) (h1 : P.underlying t = some (.slice e)) (h2 : P.info? e = some i) (h3 : i.zero = some z) (h4 : i.size = size) (h5 : i.bytes = bytes) (h6 : z.cells.size = size) (h7 : 0 < size)
    (v : Value) (n : Nat) (xs : List Value) (hs : a.eval s = v) (hown : w.ownsRow base e size v n xs)
    (ad : Addr) (m c : Nat) (news : List Value) (hx : a.eval x = .slice (some ad) m c) (hn : news.length = m * size) (hc : ∀ j u, news[j]? = some u → w.cell? (ad.add j) = some u) (h1c : ∀ u ∈ news, u.oneCell' = true)
    (b1 : n + m ≤ maxLen) (b2 : (n + m) * bytes ≤ 140737488355328) (hbase : base ≤ w.heap.size)
    (hK : ∀ v' w', w'.ownsRow base e size v' (n + m) (xs ++ news) → w.grownBy w' v.ownBlock → (v' = .slice none 0 0 ↔ v = .slice none 0 0 ∧ m = 0) → K (a.put o.dst v') w') :
    if Region.wanted o (yielded ops a.tmps) = true then Oper.wp P o a w K Q else E := by
  have hw : Region.wanted o (yielded ops a.tmps) = true := by simp [Region.wanted, hg]
  rw [if_pos hw]
  exact wp_append_own w s x t hop base e i z size bytes h1 h2 h3 h4 h5 h6 h7 v n xs hs hown ad m c news hx hn hc h1c b1 b2 hbase hK
theorem own_empty {w : World} {base e g : Nat} (hb : base ≤ g) (h : w.heap[g]? = some (.cells #[] e (0, 0))) : w.ownsRow base e 1 (.slice (some ⟨g, 0, none⟩) 0 0) 0 [] :=
  ⟨rfl, .inr ⟨g, 0, _, rfl, hb, h, Nat.le_refl _, by simp, rfl, rfl⟩⟩
theorem cell_old {Y : World} {a : Addr} {v : Value} {o : Obj} (hb : a.block < Y.heap.size) (h : Y.cell? a = some v) : (Y.alloc o).cell? a = some v := (World.cell?_of_block (heap_alloc_old Y o hb)).trans h
theorem cell_new' {Y : World} {v : Value} {T : TypeId} {g : Nat} (hg : g = Y.heap.size) : (Y.alloc (.cells #[v] T)).cell? ⟨g, 0, none⟩ = some v := by
  subst hg; simp
theorem cell_drew {Y : World} {a : Addr} {v : Value} (h : Y.cell? a = some v) : Y.drew.cell? a = some v := h
theorem own_drew {w : World} {base e size n : Nat} {v : Value} {xs : List Value} (h : w.ownsRow base e size v n xs) : w.drew.ownsRow base e size v n xs := h
theorem own_empty_new {Y : World} {base e g : Nat} (hb : base ≤ Y.heap.size) (hg : g = Y.heap.size) : (Y.alloc (.cells #[] e)).ownsRow base e 1 (.slice (some ⟨g, 0, none⟩) 0 0) 0 [] := by
  subst hg
  exact own_empty hb (heap_alloc_new Y _)
theorem nums_news {w : World} {b off n cap : Nat} {l : List Int} (h : Nums .i64 w (some ⟨b, off, none⟩) n cap l) : ∀ j u, (l.map (Value.int .i64))[j]? = some u → w.cell? ((⟨b, off, none⟩ : Addr).add j) = some u := by
  intro j u hj
  obtain ⟨h1, h2, h3, h4⟩ := h
  have hjl : j < l.length := by have := (List.getElem?_eq_some_iff.1 hj).1; simpa using this
  rcases h4 with h4 | ⟨b', off', ha, hb, hc⟩
  · omega
  · simp only [Option.some.injEq, Addr.mk.injEq, and_true] at ha
    obtain ⟨rfl, rfl⟩ := ha
    rw [Addr.add_lit, hc j (by omega), List.getElem?_eq_getElem hjl]
    simp [List.getElem?_map, List.getElem?_eq_getElem hjl] at hj ⊢
    exact hj
theorem Nums.drop1 {k : IntKind} {w : World} {b n cap : Nat} {l : List Int} (h : Nums k w (some ⟨b, 0, none⟩) n cap l) (hi : 1 ≤ n) : Nums k w (some ⟨b, 1, none⟩) (n - 1) (cap - 1) (l.drop 1) := by
  obtain ⟨h1, h2, h3, h4⟩ := h
  refine ⟨by simp; omega, by omega, by omega, ?_⟩
  rcases h4 with h4 | ⟨b', off', ha, hb, hc⟩
  · exact .inl (by omega)
  · simp only [Option.some.injEq, Addr.mk.injEq, and_true] at ha
    obtain ⟨rfl, rfl⟩ := ha
    refine .inr ⟨b, 1, rfl, hb, fun j hj => ?_⟩
    have := hc (1 + j) (by omega)
    rw [Nat.zero_add] at this
    rw [this, List.getElem?_drop]
theorem one_news {w : World} {g : Nat} {x : Int} (h : w.cell? ⟨g, 0, none⟩ = some (.int .i64 x)) : ∀ j u, [Value.int .i64 x][j]? = some u → w.cell? ((⟨g, 0, none⟩ : Addr).add j) = some u := by
  intro j u hj
  match j, hj with
  | 0, hj => simp at hj; subst hj; simpa [Addr.add] using h
  | j + 1, hj => simp at hj
/-- A row that is not nil. -/
def RowNew (l : List Int) (w : World) (e : Ending) (w' : World) : Prop :=
  ∃ g c, e = .returned (.slice (some ⟨g, 0, none⟩) l.length c) ∧ OwnR w' w.heap.size w'.heap.size (.slice (some ⟨g, 0, none⟩) l.length c) l.length l ∧ Below w.heap.size w w'
theorem RowNew.mk' {w w' : World} {v : Value} {n : Nat} {l : List Int} (h : w'.ownsRow w.heap.size 3 1 v n (l.map (Value.int .i64))) (hv : v ≠ .slice none 0 0) (hb : Below w.heap.size w w') : RowNew l w (.returned v) w' := by
  have hl : l.length = n := by have := h.1; simpa using this
  subst hl
  obtain ⟨b, cap, rfl, -⟩ : ∃ b cap, v = .slice (some ⟨b, 0, none⟩) l.length cap ∧ True := by
    rcases h.2 with ⟨rfl, _⟩ | ⟨g, cap, cur, rfl, -⟩
    · exact absurd rfl hv
    · exact ⟨g, cap, rfl, trivial⟩
  exact ⟨b, cap, rfl, OwnR.made h hb.size, hb⟩
end Go.Proofs.YtikdjdoggjhmaaaGreat
