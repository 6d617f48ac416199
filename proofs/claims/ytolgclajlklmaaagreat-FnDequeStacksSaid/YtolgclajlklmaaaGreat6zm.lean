import Derived.Test.YtolgclajlklmaaaGreatMa
import Derived.Test.YtolgclajlklmaaaGreatTb
namespace Go.Proofs.YtolgclajlklmaaaGreat.Agg
set_option linter.unusedSimpArgs false
set_option linter.unusedVariables false
def dqNum (d : Dq) : Int := if d.items.length = 0 then -1 else d.items[0]?.getD 0
def dqRunOk (k : Int) (l : List (Bool × Int)) : Bool := isOrd k && opsOk l
def dqRunS (k : Int) (l : List (Bool × Int)) : Dq := if dqRunOk k l then dqAt k l l.length else zeroDq
def dqNs (k : Int) (l : List (Bool × Int)) : List Int := (List.range l.length).map fun i => dqNum (dqAt k l (i + 1))
def dqRunN (k : Int) (l : List (Bool × Int)) : List Int := if dqRunOk k l then dqNs k l else []
theorem dqNs_len (k : Int) (l : List (Bool × Int)) : (dqNs k l).length = l.length := by simp [dqNs]
theorem dqNs_step (k : Int) (l : List (Bool × Int)) (j : Nat) (h : j < l.length) : (dqNs k l).take (j + 1) = (dqNs k l).take j ++ [dqNum (dqAt k l (j + 1))] := by
  rw [List.take_add_one]
  congr 1
  simp [dqNs, h]
theorem isOrd_kind {k : Int} (h : isOrd k = true) : k = 3 ∨ k = 4 := by simpa [isOrd] using h
theorem dq_run {k : Int} {l : List (Bool × Int)} (hk : isOrd k = true) (h : opsOk l = true) {j : Nat} (hj : j < l.length) : dqCan k (dqAt k l j) (opAt l j) = true ∧ dqOk k (dqAt k l (j + 1)) = true ∧ dqOk k (dqAt k l j) = true := by
  simp only [opsOk, Bool.and_eq_true, decide_eq_true_eq] at h
  exact dq_step hk h.1.1 h.1.2 h.2 hj
theorem dq_run_at {k : Int} {l : List (Bool × Int)} (hk : isOrd k = true) (h : opsOk l = true) (j : Nat) (hj : j ≤ l.length) : dqOk k (dqAt k l j) = true ∧ DStands k (winAt l j) (dqAt k l j) := by
  simp only [opsOk, Bool.and_eq_true, decide_eq_true_eq] at h
  have h1 := dstands_at (k := k) j (fitTo_down hj h.2)
  have b1 := dqAt_next k l j
  exact ⟨h1.valid hk (items_at (allOk_down hj h.1.2) (fitTo_down hj h.2)) (by omega), h1⟩
theorem dq_run_len {k : Int} {l : List (Bool × Int)} (hk : isOrd k = true) (h : opsOk l = true) (j : Nat) (hj : j ≤ l.length) : (dqAt k l j).items.length ≤ 60 ∧ (dqAt k l j).places.length = (dqAt k l j).items.length := by
  obtain ⟨-, hi, hp, -⟩ := dqOk_parts (dq_run_at hk h j hj).1
  exact ⟨items_len hi, hp⟩
theorem dqAt_succ (k : Int) (l : List (Bool × Int)) (hk : isOrd k = true) (h : opsOk l = true) {j : Nat} (hj : j < l.length) : aDq k (dqAt k l j) (opAt l j) = dqAt k l (j + 1) := by
  simp [aDq, (dq_run hk h hj).1, dqAt]
theorem fold_best {k : Int} (hk : isOrd k = true) : ∀ (n : Nat) (w : List Int), w.length = n → 0 < n → ∃ m, fold k w = ⟨m, 1, 0⟩ ∧ m ∈ w ∧ ∀ y ∈ w, before k m y = false
  | 0, w, _, h => by omega
  | n + 1, w, hw, _ => by
    have hne : w ≠ [] := by intro e; simp [e] at hw
    obtain ⟨u, x, rfl⟩ : ∃ u x, w = u ++ [x] := ⟨w.dropLast, w.getLast hne, (List.dropLast_concat_getLast hne).symm⟩
    have hl : lift k x = ⟨x, 1, 0⟩ := by rcases isOrd_kind hk with rfl | rfl <;> simp [lift]
    have hx : before k x x = false := by simp [before]
    rw [fold_snoc, hl]
    by_cases hu : u.length = 0
    · obtain rfl := List.length_eq_zero_iff.1 hu
      refine ⟨x, ?_, by simp, fun y hy => ?_⟩
      · rw [fold_nil]
        rcases isOrd_kind hk with rfl | rfl <;> simp [comb, unit]
      · simp only [List.nil_append, List.mem_singleton] at hy
        subst hy
        exact hx
    · obtain ⟨m, e, hm, hb⟩ := fold_best hk n u (by simp at hw; omega) (by simp at hw; omega)
      rw [e]
      rcases isOrd_kind hk with rfl | rfl
      · by_cases hlt : x < m
        · refine ⟨x, by simp [comb, hlt], by simp, fun y hy => ?_⟩
          simp only [List.mem_append, List.mem_singleton] at hy
          rcases hy with hy | rfl
          · have := hb y hy
            simp [before] at this ⊢
            omega
          · exact hx
        · refine ⟨m, by simp [comb, hlt], by simp [hm], fun y hy => ?_⟩
          simp only [List.mem_append, List.mem_singleton] at hy
          rcases hy with hy | rfl
          · exact hb y hy
          · simp [before]
            omega
      · by_cases hlt : m < x
        · refine ⟨x, by simp [comb, hlt], by simp, fun y hy => ?_⟩
          simp only [List.mem_append, List.mem_singleton] at hy
          rcases hy with hy | rfl
          · have := hb y hy
            simp [before] at this ⊢
            omega
          · exact hx
        · refine ⟨m, by simp [comb, hlt], by simp [hm], fun y hy => ?_⟩
          simp only [List.mem_append, List.mem_singleton] at hy
          rcases hy with hy | rfl
          · exact hb y hy
          · simp [before]
            omega
theorem before_both {k : Int} (hk : isOrd k = true) {a b : Int} (h1 : before k a b = false) (h2 : before k b a = false) : a = b := by
  rcases isOrd_kind hk with rfl | rfl <;> simp [before] at h1 h2 <;> omega
theorem DStands.number {k : Int} {w : List Int} {d : Dq} (h : DStands k w d) (hk : isOrd k = true) (hi : itemsOk w = true) : dqNum d = number k w := by
  by_cases hw : w.length = 0
  · obtain rfl := List.length_eq_zero_iff.1 hw
    have hd : d.items.length = 0 := by have := h.val.few; have := h.size; simp at this; omega
    rcases isOrd_kind hk with rfl | rfl <;> simp [dqNum, hd, Agg.number, fold_nil, unit, num, low, aLow, Agg.valid, isKind, ok]
  · have hw' : 0 < w.length := by omega
    obtain ⟨m, e, hm, hb⟩ := fold_best hk w.length w rfl hw'
    have hm2 := h.mem hw'
    have h0 := h.val.some (by have := h.size; omega)
    have h1 : before k (d.items[0]?.getD 0) m = false := by
      obtain ⟨p, hp, rfl⟩ := List.getElem_of_mem hm
      have := h.best hp
      rwa [List.getElem?_eq_getElem hp] at this
    have h2 := hb _ hm2
    have heq := before_both hk h1 h2
    have hne : ¬ d.items.length = 0 := by omega
    have hit := items_mem hi _ hm2
    simp only [isItem, Bool.and_eq_true, decide_eq_true_eq] at hit
    rw [Agg.number, e, ← heq]
    rcases isOrd_kind hk with rfl | rfl <;> simp [dqNum, hne, num, low, aLow, Agg.valid, isKind, ok, hit]
end Go.Proofs.YtolgclajlklmaaaGreat.Agg
