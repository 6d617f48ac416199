/-
  Variables just made; stacks whose rows are the call's own; a row copied behind an empty one.
-/
import Derived.Test.YtccimldchfekeaaAp
import Derived.Test.YtccimldchfekeaaVr
import Derived.Test.Ytccimldchfekeaa3m
namespace Go.Proofs.Ytccimldchfekeaa
set_option linter.unusedSimpArgs false
set_option linter.unusedVariables false
open Go.RowKit
theorem Box.new1 {Y : World} {g : Nat} (T : TypeId) (x y z : Int) (hg : g = Y.heap.size) : Box (Y.alloc (.cells #[.int .i64 x, .int .i64 y, .int .i64 z] T)) g T x y z := by
  subst hg; exact Box.new Y T x y z
theorem Box7.new1 {Y : World} {g : Nat} (T : TypeId) (v0 v1 v2 v3 v4 v5 v6 : Value) (hg : g = Y.heap.size) : Box7 (Y.alloc (.cells #[v0, v1, v2, v3, v4, v5, v6] T)) g T v0 v1 v2 v3 v4 v5 v6 := by
  subst hg; exact Box7.new Y T v0 v1 v2 v3 v4 v5 v6
/-- What a slice that is read holds, as the source of an append. -/
def SrcOk (w : World) (ax : Option Addr) (m size : Nat) (news : List Value) : Prop :=
  (ax = none → m = 0 ∧ news = []) ∧ (∀ ad, ax = some ad → ∀ j u, news[j]? = some u → w.cell? (ad.add j) = some u) ∧ news.length = m * size ∧ ∀ u ∈ news, u.oneCell' = true
theorem Nums.src {w : World} {a : Option Addr} {n cap : Nat} {l : List Int} (h : Nums .i64 w a n cap l) : SrcOk w a n 1 (l.map (Value.int .i64)) := by
  refine ⟨?_, ?_, by simp [h.1], fun u hu => by obtain ⟨x, -, rfl⟩ := List.mem_map.1 hu; rfl⟩
  · intro ha
    subst ha
    rcases h.2.2.2 with h0 | ⟨b, off, ha, -⟩
    · have : l = [] := List.eq_nil_of_length_eq_zero (by rw [h.1]; exact h0)
      subst this
      exact ⟨h0, rfl⟩
    · cases ha
  · intro ad ha j u hj
    subst ha
    have hl := h.1
    rcases h.2.2.2 with h0 | ⟨b, off, ha, hb, hc⟩
    · have : l = [] := List.eq_nil_of_length_eq_zero (by rw [h.1]; exact h0)
      subst this
      simp at hj
    · obtain rfl := Option.some.inj ha
      have hjl : j < l.length := by have := (List.getElem?_eq_some_iff.1 hj).1; simpa using this
      rw [Addr.add_lit, hc j (by omega), List.getElem?_eq_getElem hjl]
      simp [List.getElem?_map, List.getElem?_eq_getElem hjl] at hj ⊢
      exact hj
/-- append of a slice to an empty row that was just made. -/
theorem wpList_append_copy {P : Program} {w : World} {ops : Array Oper} {rest : List Oper} {o : Oper} {a : Act} {Q : Exit → Act → World → Prop} (hgd : o.guard = none) (s x : Operand) (t : TypeId)
    (ho : o.op = .call { callee := .builtin .append, args := #[s, x], argTypes := #[t, t] })
    (e : TypeId) (i : TypeInfo) (z : Value) (size bytes : Nat) (ht : P.underlying t = some (.slice e)) (hi : P.info? e = some i) (hz : i.zero = some z)
    (hsize : i.size = size) (hby : i.bytes = bytes) (hzs : z.cells.size = size) (hsz : 0 < size)
    (g : Nat) (hs : a.eval s = .slice (some ⟨g, 0, none⟩) 0 0) (hg : w.heap[g]? = some (.cells #[] e (0, 0)))
    (ax : Option Addr) (m c : Nat) (news : List Value) (hx : a.eval x = .slice ax m c) (hsrc : SrcOk w ax m size news)
    (h63 : m ≤ maxLen) (hbytes : m * bytes ≤ 140737488355328)
    (h : ∀ v' w', w'.ownsRow g e size v' m news → w.grownBy w' (some g) → wpList P ops Q rest (a.put o.dst v') w') : wpList P ops Q (o :: rest) a w := by
  have hgl : g < w.heap.size := (Array.getElem?_eq_some_iff.1 hg).1
  have hown : w.ownsRow g e size (.slice (some ⟨g, 0, none⟩) 0 0) 0 [] := ⟨by simp, .inr ⟨g, 0, _, rfl, Nat.le_refl _, hg, Nat.le_refl _, by simp, by simp, by simp⟩⟩
  obtain ⟨s1, s2, s3, s4⟩ := hsrc
  cases ax with
  | none =>
    obtain ⟨rfl, rfl⟩ := s1 rfl
    have hs0 : Src P i.size t (.slice none 0 c) 0 [] w := Src.ofNil w ht c
    have hr := run_append_room_src (P := P) w t t o.type e i ht hi g 0 0 0 (.slice none 0 c) 0 [] hs0 (by omega) (fun j hj => by simp at hj) (fun j hj => by simp at hj)
    refine Lib.wpList_append_run w hgd s x t t ho _ _ hs hx _ _ hr (h _ _ ?_ ?_)
    · exact ⟨by simp, .inr ⟨g, 0, _, rfl, Nat.le_refl _, hg, Nat.le_refl _, by simp, by simp, by simp⟩⟩
    · exact ⟨rfl, rfl, rfl, Nat.le_refl _, fun _ _ _ => rfl⟩
  | some ad =>
    obtain ⟨v', w', hrun, h2, h3, -⟩ := append_where w g t o.type e i z size bytes ht hi hz hsize hby hzs hsz _ 0 [] hown ad m c news s3 (s2 ad rfl) s4 (by omega) (by simpa using hbytes) (Nat.le_of_lt hgl)
    exact Lib.wpList_append_run w hgd s x t t ho _ _ hs hx v' w' hrun (h v' w' (by simpa using h2) h3)
end Go.Proofs.Ytccimldchfekeaa
