/-
  The law FnSharedPanes, walked.
-/
import Derived.Test.Ytofpnmjadflebaa9w
namespace Go.Proofs.Ytofpnmjadflebaa
set_option linter.unusedSimpArgs false
set_option linter.unusedVariables false
open Go.RowKit
namespace Agg
def gOf (q : Int × Int) : Nat := Nat.gcd (qS q) (qH q)
theorem cut_mult {n : Nat} {q : Int × Int} {p : Nat} (h : cutSet n [q] p = true) : gOf q ∣ p := by
  simp only [cutSet, List.any_cons, List.any_nil, Bool.or_false, hits, List.any_eq_true, List.mem_range, Bool.or_eq_true, beq_iff_eq] at h
  obtain ⟨a, -, h⟩ := h
  have d1 : gOf q ∣ a * qH q := Nat.dvd_trans (Nat.gcd_dvd_right _ _) (Nat.dvd_mul_left _ _)
  rcases h with h | h
  · rw [← h]; exact d1
  · rw [← h]; exact Nat.dvd_add d1 (Nat.gcd_dvd_left _ _)
theorem cuts_pane {n : Nat} {q : Int × Int} {x : Nat} (hx : gOf q ∣ x) : ∀ d, 1 ≤ d → d ≤ gOf q → (cutsTo n [q] (x + d)).length ≤ (cutsTo n [q] x).length + 1
  | 0, h, _ => by omega
  | d + 1, _, h => by
    rw [show x + (d + 1) = (x + d) + 1 by omega, cutsTo_succ]
    by_cases hd : d = 0
    · subst hd
      split
      · simp
      · simp
    · have ih := cuts_pane (n := n) hx d (by omega) (by omega)
      have hno : cutSet n [q] (x + d) = false := by
        cases e : cutSet n [q] (x + d)
        · rfl
        · have h1 := cut_mult e
          have h2 : gOf q ∣ d := (Nat.dvd_add_right hx).1 h1
          have := Nat.le_of_dvd (by omega) h2
          omega
      rw [hno]
      simpa using ih
theorem cuts_panes {n : Nat} {q : Int × Int} (hg : 1 ≤ gOf q) {x : Nat} (hx : gOf q ∣ x) : ∀ k, (cutsTo n [q] (x + k * gOf q)).length ≤ (cutsTo n [q] x).length + k
  | 0 => by simp
  | k + 1 => by
    have ih := cuts_panes (n := n) hg hx k
    have h1 := cuts_pane (n := n) (x := x + k * gOf q) (Nat.dvd_add hx (Nat.dvd_mul_left _ _)) (gOf q) hg (Nat.le_refl _)
    rw [Nat.add_mul, Nat.one_mul, ← Nat.add_assoc]
    omega
theorem slice_panes {n : Nat} {q : Int × Int} (h : qryOk q = true) : ∀ i : Nat, sliceSum n [q] q i ≤ (i : Int) * ((qS q / gOf q : Nat) : Int)
  | 0 => by simp [sliceSum]
  | i + 1 => by
    have ih := slice_panes (n := n) h i
    obtain ⟨-, -, h1, h2, h3, h4⟩ := q_cast h
    have hg : 1 ≤ gOf q := Nat.gcd_pos_of_pos_left _ h1
    have hd : qS q / gOf q * gOf q = qS q := Nat.div_mul_cancel (Nat.gcd_dvd_left _ _)
    have hx : gOf q ∣ i * qH q := Nat.dvd_trans (Nat.gcd_dvd_right _ _) (Nat.dvd_mul_left _ _)
    have hk := cuts_panes (n := n) hg hx (qS q / gOf q)
    rw [hd] at hk
    simp only [sliceSum, cutIx]
    have e : (((i + 1 : Nat) : Int)) * ((qS q / gOf q : Nat) : Int) = (i : Int) * ((qS q / gOf q : Nat) : Int) + ((qS q / gOf q : Nat) : Int) := by rw [Int.natCast_add, Int.add_mul]; simp
    rw [e]
    omega
theorem span_panes {n : Nat} {q : Int × Int} (hg : 1 ≤ gOf q) : cutsSpan (cutsN n [q]) ≤ ((n / gOf q * gOf q : Nat) : Int) := by
  unfold cutsSpan
  split
  · omega
  · rename_i h0
    have e1 : (cutsN n [q])[(cutsN n [q]).length - 1]? = some (cutsN n [q])[(cutsN n [q]).length - 1] := List.getElem?_eq_getElem (by omega)
    have e2 : (cutsN n [q])[0]? = some (cutsN n [q])[0] := List.getElem?_eq_getElem (by omega)
    rw [e1, e2]
    have h1 := List.getElem_mem (l := cutsN n [q]) (show (cutsN n [q]).length - 1 < (cutsN n [q]).length by omega)
    have h2 := cutsN_mem (List.getElem_mem (l := cutsN n [q]) (show 0 < (cutsN n [q]).length by omega))
    generalize (cutsN n [q])[(cutsN n [q]).length - 1] = z at h1
    simp only [cutsN, List.mem_map] at h1
    obtain ⟨y, hy, rfl⟩ := h1
    obtain ⟨hy1, hy2⟩ := cutsTo_mem.1 hy
    obtain ⟨k, rfl⟩ := cut_mult hy2
    have hk : k ≤ n / gOf q := (Nat.le_div_iff_mul_le hg).2 (by rw [Nat.mul_comm]; omega)
    have hm : gOf q * k ≤ n / gOf q * gOf q := by rw [Nat.mul_comm]; exact Nat.mul_le_mul_right _ hk
    simp only [Option.getD_some, Int.ofNat_eq_natCast]
    omega
theorem panes_le {n : Nat} {q : Int × Int} (h : qryOk q = true) (hn : n ≤ 60) :
    (sharedA n [q]).1 = (costs n q.1 q.2).1 ∧ (sharedA n [q]).2 ≤ (costs n q.1 q.2).2 ∧ cutsOk n [q] = true := by
  obtain ⟨c1, c2, h1, h2, h3, h4⟩ := q_cast h
  obtain ⟨w1, w2⟩ := wins_cast h hn
  have hg : 1 ≤ gOf q := Nat.gcd_pos_of_pos_left _ h1
  have hok : cutsOk n [q] = true := by
    have : qrysOk [q] = true := by simp [qrysOk, qrysTo, qryAt, h]
    simp only [cutsOk, this, Bool.true_and, decide_eq_true_eq]
    omega
  have hho : hopOk n q.1 q.2 = true := by
    simp only [hopOk, Bool.and_eq_true, decide_eq_true_eq]
    exact ⟨by omega, h⟩
  have hgd : gcdOk q.1 q.2 = true := by simp [gcdOk]; omega
  have hga : gcdA q.1 q.2 = (gOf q : Nat) := by
    have := gcdA_of (x := qS q) (y := qH q) (by rw [c1, c2]; exact hgd)
    rw [c1, c2] at this
    exact this
  have hs : sharedA n [q] = (aloneTo n [q] 1 0, cutsSpan (cutsN n [q]) + sharedTo n [q] 1 0) := by
    rw [sharedA, hok]; simp
  have hq0 : qryAt [q] 0 = q := rfl
  have ha : aloneTo n [q] 1 0 = (winsN n q : Int) * q.1 := by
    rw [aloneTo_next, aloneTo_add, hq0]; simp [aloneTo]
  have hsh : sharedTo n [q] 1 0 = sliceSum n [q] q (winsN n q) := by
    rw [sharedTo_next, sharedTo_add, hq0]; simp [sharedTo, sliceSum]
  have hc : costs n q.1 q.2 = (hopN n q.1 q.2 * q.1, n / gcdA q.1 q.2 * gcdA q.1 q.2 + hopN n q.1 q.2 * (q.1 / gcdA q.1 q.2)) := by
    rw [costs, hho]; rfl
  refine ⟨by rw [hs, hc, ha, w1], ?_, hok⟩
  rw [hs, hc, hsh, hga, ← w1]
  have p1 := span_panes (n := n) hg
  have p2 := slice_panes (n := n) h (winsN n q)
  have e1 : ((n / gOf q * gOf q : Nat) : Int) = (n : Int) / (gOf q : Int) * (gOf q : Int) := by rw [Int.natCast_mul, Int.natCast_ediv]
  have e2 : ((qS q / gOf q : Nat) : Int) = q.1 / (gOf q : Int) := by rw [Int.natCast_ediv, c1]
  rw [e1] at p1
  rw [e2] at p2
  show cutsSpan (cutsN n [q]) + sliceSum n [q] q (winsN n q) ≤ _
  exact Int.add_le_add p1 p2
end Agg
set_option maxRecDepth 8000 in
set_option maxHeartbeats 2000000 in
theorem law_FnSharedPanes (a : Option Addr) (n cap : Nat) (zs : List Int) (w : World) (hrow : IsRow .u8 w a n cap zs) :
    Calls Try.prog 8 #[.slice a n cap] w fun e w' => e = .returned (.bool true) ∧ Below w.heap.size w w' := by
  have HB := Lib.hid (Bytes.of_row hrow)
  have hm : cap ≤ 9223372036854775807 := HB.out.2.1
  have hnc : n ≤ cap := HB.out.1
  clear hrow
  by_cases hn : n ≤ 1048576
  · go_enter Try.func8, Try.ntmps8
    go_wp2_with fail
    refine (drawSharedCosts_any _ _ _ _ _ HB.out).mono ?_
    rintro e w1 ⟨v, m, L, M, rfl, ho, hm9, hb1⟩
    obtain ⟨la, lc, rfl, hq⟩ := ho.ops
    have hll : L.length = m := hq.1
    have hqn : m ≤ lc := hq.2.1
    have hqm : lc ≤ 9223372036854775807 := by have := hq.2.2.1; unfold maxLen at this; omega
    have HQ := Lib.hid hq
    have HOW := Lib.hid ho.1
    have HW1 := Lib.hid hb1
    obtain ⟨b, hb⟩ : ∃ b, b = Agg.cutsOk M L := ⟨_, rfl⟩
    obtain ⟨A, hA⟩ : ∃ A, A = (Agg.sharedA M L).1 := ⟨_, rfl⟩
    obtain ⟨C, hC⟩ : ∃ C, C = (Agg.sharedA M L).2 := ⟨_, rfl⟩
    have H1 := Lib.hid (fun X (hX : Below w1.heap.size w1 X) => sharedCosts_any la m lc L M X (HQ.out.below hX))
    have H2 := Lib.hid (fun X (hX : Below w1.heap.size w1 X) => s_sharedCosts_any la m lc L M X (HQ.out.below hX))
    rw [← hb, ← hA, ← hC] at H1 H2
    have HBB := Lib.hid hb
    have HLL := Lib.hid hll
    clear hb hq ho hb1 hA hC hll
    go_wp2_with fail
    refine (H1.out _ (Below.refl _ _)).mono ?_
    rintro e w2 ⟨rfl, hb2⟩
    have HT2 := Lib.hid hb2
    clear hb2
    go_wp2_with fail
    refine (H2.out _ HT2.out).mono ?_
    rintro e w3 ⟨rfl, hb3⟩
    have HT3 := Lib.hid (HT2.out.trans (hb3.mono HT2.out.size))
    have HW4 := Lib.hid (HW1.out.trans (HT3.out.mono HW1.out.size))
    clear hb3 HT2 H1 H2
    cases b
    · go_wp2_with fail
      go_returns
      exact ⟨rfl, HW4.out⟩
    · by_cases hm0 : m = 0
      · subst hm0
        go_wp2_with fail
        go_returns
        exact ⟨rfl, HW4.out⟩
      · have hok := HBB.out.symm
        simp only [Agg.cutsOk, Bool.and_eq_true, decide_eq_true_eq] at hok
        obtain ⟨hql, hM0, hM1⟩ := hok
        obtain ⟨N, rfl⟩ := Int.eq_ofNat_of_zero_le hM0
        have hN : N ≤ 60 := by omega
        have hqo := Agg.qrysOk_at hql (show 0 < L.length by have := HLL.out; omega)
        have htk : L.take 1 = [qryAt L 0] := by
          have hl : 0 < L.length := by have := HLL.out; omega
          rw [List.take_succ_eq_append_getElem hl]; simp [qryAt, hl]
        obtain ⟨pa, pb, pc⟩ := Agg.panes_le (n := N) hqo hN
        obtain ⟨g, rfl, -, -⟩ := qrow_addr HOW.out hm0
        rcases id HQ.out.2.2.2 with h4 | ⟨bk, off, hbe, hbl, hcs⟩
        · omega
        injection hbe with hbe
        injection hbe with hb1 hb2 hb3
        subst hb1 hb2
        have hcs0 := hcs 0 (by omega)
        simp only [Nat.zero_mul, Nat.zero_add] at hcs0
        rw [show L[0]?.getD (0, 0) = qryAt L 0 from rfl] at hcs0
        have HS1 := Lib.hid (fun X (hX : Below w1.heap.size w1 X) => sharedCosts_any (some ⟨g, 0, none⟩) 1 lc (L.take 1) N X ((HQ.out.take (by omega)).below hX))
        rw [htk, pc] at HS1
        obtain ⟨⟨x, y⟩, hxy⟩ : ∃ q, q = qryAt L 0 := ⟨_, rfl⟩
        rw [← hxy] at hcs0 HS1 pa pb hqo
        have hho : Agg.hopOk N x y = true := by
          simp only [Agg.hopOk, Bool.and_eq_true, decide_eq_true_eq]
          exact ⟨by omega, hqo⟩
        have HPC := Lib.hid (fun X => paneCosts_any N x y X)
        rw [hho] at HPC
        obtain ⟨P1, hP1⟩ : ∃ P, P = (Agg.costs N x y).1 := ⟨_, rfl⟩
        obtain ⟨P2, hP2⟩ : ∃ P, P = (Agg.costs N x y).2 := ⟨_, rfl⟩
        obtain ⟨D1, hD1⟩ : ∃ P, P = (Agg.sharedA N [(x, y)]).1 := ⟨_, rfl⟩
        obtain ⟨D2, hD2⟩ : ∃ P, P = (Agg.sharedA N [(x, y)]).2 := ⟨_, rfl⟩
        simp only at pa pb
        rw [← hD1, ← hP1] at pa
        rw [← hD2, ← hP2] at pb
        rw [← hP1, ← hP2] at HPC
        rw [← hD1, ← hD2] at HS1
        subst pa
        have HCS := Lib.hid (fun X (hX : Below w1.heap.size w1 X) => And.intro ((hX.cell (p := ⟨g, 0, none⟩) hbl).trans hcs0.1) ((hX.cell (p := ⟨g, 1, none⟩) hbl).trans hcs0.2))
        have hmp : (0 : Int) < (m : Int) := by omega
        have hlc1 : (1 : Int) ≤ (lc : Int) := by omega
        have hmn : 0 < m := by omega
        have hlcn : 1 ≤ lc := by omega
        have HZ := HT3
        obtain ⟨hck, hcl⟩ := HCS.out _ HT3.out
        simp only at hck hcl
        clear hql hM0 hM1 hqo htk pc hcs hcs0 hxy hho hP1 hP2 hD1 hD2 HBB
        go_wp2_with fail
        refine wp_region_held_drew (S := (fun X => (X.cell? ⟨g, 0, none⟩ = some (.int .i64 x) ∧ X.cell? ⟨g, 1, none⟩ = some (.int .i64 y)))) (by kernel_rfl) (by exact HCS.out _ (by first | exact HZ.out | exact HZ.out.drew)) (fun hHeld => ?_)
        first | (refine wpAnyH_take (i := 0) (v := ?_) rfl (by kernel_rfl) (by kernel_rfl) (by kernel_rfl) (fun _ _ _ h => h) (Or.inl ⟨by rfl, ?_⟩) (by assumption) ?_; rotate_left; (intro X hSw; (try dsimp only at hSw); go_simp; (try with_reducible rfl)); (try simp only [Act.put, List.setIfInBounds_toArray, List.set_cons_zero, List.set_cons_succ, List.getElem_toArray, List.getElem_cons_zero, List.getElem_cons_succ])) | fail "take 0"
        first | (refine wpAnyH_take (i := 1) (v := ?_) rfl (by kernel_rfl) (by kernel_rfl) (by kernel_rfl) (fun _ _ _ h => h) (Or.inl ⟨by rfl, ?_⟩) (by assumption) ?_; rotate_left; (intro X hSw; (try dsimp only at hSw); go_simp; (try with_reducible rfl)); (try simp only [Act.put, List.setIfInBounds_toArray, List.set_cons_zero, List.set_cons_succ, List.getElem_toArray, List.getElem_cons_zero, List.getElem_cons_succ])) | fail "take 1"
        first | (refine wpAnyH_take (i := 2) (v := ?_) rfl (by kernel_rfl) (by kernel_rfl) (by kernel_rfl) (fun _ _ _ h => h) (Or.inl ⟨by rfl, ?_⟩) (by assumption) ?_; rotate_left; (intro X hSw; (try dsimp only at hSw); go_simp; (try with_reducible rfl)); (try simp only [Act.put, List.setIfInBounds_toArray, List.set_cons_zero, List.set_cons_succ, List.getElem_toArray, List.getElem_cons_zero, List.getElem_cons_succ])) | fail "take 2"
        first | (refine wpAnyH_take (i := 3) (v := ?_) rfl (by kernel_rfl) (by kernel_rfl) (by kernel_rfl) (fun _ _ _ h => h) (Or.inl ⟨by rfl, ?_⟩) (by assumption) ?_; rotate_left; (intro X hSw; (try dsimp only at hSw); go_simp; (try with_reducible rfl)); (try simp only [Act.put, List.setIfInBounds_toArray, List.set_cons_zero, List.set_cons_succ, List.getElem_toArray, List.getElem_cons_zero, List.getElem_cons_succ])) | fail "take 3"
        first | (refine wpAnyH_take (i := 4) (v := ?_) rfl (by kernel_rfl) (by kernel_rfl) (by kernel_rfl) (fun _ _ _ h => h) (Or.inl ⟨by rfl, ?_⟩) (by assumption) ?_; rotate_left; (intro X hSw; (try dsimp only at hSw); go_simp; (try with_reducible rfl)); (try simp only [Act.put, List.setIfInBounds_toArray, List.set_cons_zero, List.set_cons_succ, List.getElem_toArray, List.getElem_cons_zero, List.getElem_cons_succ])) | fail "take 4"
        first | (refine wpAnyH_take (i := 5) (v := ?_) rfl (by kernel_rfl) (by kernel_rfl) (by kernel_rfl) (fun _ _ _ h => h) (Or.inl ⟨by rfl, ?_⟩) (by assumption) ?_; rotate_left; (intro X hSw; (try dsimp only at hSw); go_simp; (try with_reducible rfl)); (try simp only [Act.put, List.setIfInBounds_toArray, List.set_cons_zero, List.set_cons_succ, List.getElem_toArray, List.getElem_cons_zero, List.getElem_cons_succ])) | fail "take 5"
        first | (refine wpAnyH_take (i := 6) (v := ?_) rfl (by kernel_rfl) (by kernel_rfl) (by kernel_rfl) (fun _ _ _ h => h) (Or.inl ⟨by rfl, ?_⟩) (by assumption) ?_; rotate_left; (intro X hSw; (try dsimp only at hSw); go_simp; (try with_reducible rfl)); (try simp only [Act.put, List.setIfInBounds_toArray, List.set_cons_zero, List.set_cons_succ, List.getElem_toArray, List.getElem_cons_zero, List.getElem_cons_succ])) | fail "take 6"
        first | (refine wpAnyH_take (i := 7) (v := ?_) rfl (by kernel_rfl) (by kernel_rfl) (by kernel_rfl) (fun _ _ _ h => h) (Or.inl ⟨by rfl, ?_⟩) (by assumption) ?_; rotate_left; (intro X hSw; (try dsimp only at hSw); go_simp; (try with_reducible rfl)); (try simp only [Act.put, List.setIfInBounds_toArray, List.set_cons_zero, List.set_cons_succ, List.getElem_toArray, List.getElem_cons_zero, List.getElem_cons_succ])) | fail "take 7"
        first | (refine wpAnyH_take (i := 8) (v := ?_) rfl (by kernel_rfl) (by kernel_rfl) (by kernel_rfl) (fun _ _ _ h => h) (Or.inl ⟨by rfl, ?_⟩) (by assumption) ?_; rotate_left; (intro X hSw; (try dsimp only at hSw); go_simp; (try with_reducible rfl)); (try simp only [Act.put, List.setIfInBounds_toArray, List.set_cons_zero, List.set_cons_succ, List.getElem_toArray, List.getElem_cons_zero, List.getElem_cons_succ])) | fail "take 8"
        refine wpAnyH_ready (rs := [9]) (by kernel_rfl) (by simp) ?_
        refine AllReadyH.cons rfl (fun K hK => ?_) AllReadyH.nil
        go_simp
        refine (HPC.out _).mono ?_
        rintro e w5 ⟨rfl, hb5⟩
        have HZ := Lib.hid (HZ.out.drew.trans (hb5.mono HZ.out.drew.size))
        (try dsimp only)
        refine hK.out _ _ (by exact HCS.out _ (by first | exact HZ.out | exact HZ.out.drew)) (fun hHeld => ?_)
        clear hK K
        (try simp only [Act.put, List.setIfInBounds_toArray, List.set_cons_zero, List.set_cons_succ, List.getElem_toArray, List.getElem_cons_zero, List.getElem_cons_succ])
        first | (refine wpAnyH_take (i := 10) (v := ?_) rfl (by kernel_rfl) (by kernel_rfl) (by kernel_rfl) (fun _ _ _ h => h) (Or.inl ⟨by rfl, ?_⟩) (by assumption) ?_; rotate_left; (intro X hSw; (try dsimp only at hSw); go_simp; (try with_reducible rfl)); (try simp only [Act.put, List.setIfInBounds_toArray, List.set_cons_zero, List.set_cons_succ, List.getElem_toArray, List.getElem_cons_zero, List.getElem_cons_succ])) | fail "take 10"
        first | (refine wpAnyH_take (i := 11) (v := ?_) rfl (by kernel_rfl) (by kernel_rfl) (by kernel_rfl) (fun _ _ _ h => h) (Or.inl ⟨by rfl, ?_⟩) (by assumption) ?_; rotate_left; (intro X hSw; (try dsimp only at hSw); go_simp; (try with_reducible rfl)); (try simp only [Act.put, List.setIfInBounds_toArray, List.set_cons_zero, List.set_cons_succ, List.getElem_toArray, List.getElem_cons_zero, List.getElem_cons_succ])) | fail "take 11"
        first | (refine wpAnyH_take (i := 12) (v := ?_) rfl (by kernel_rfl) (by kernel_rfl) (by kernel_rfl) (fun _ _ _ h => h) (Or.inl ⟨by rfl, ?_⟩) (by assumption) ?_; rotate_left; (intro X hSw; (try dsimp only at hSw); go_simp; (try with_reducible rfl)); (try simp only [Act.put, List.setIfInBounds_toArray, List.set_cons_zero, List.set_cons_succ, List.getElem_toArray, List.getElem_cons_zero, List.getElem_cons_succ])) | fail "take 12"
        first | (refine wpAnyH_take (i := 13) (v := ?_) rfl (by kernel_rfl) (by kernel_rfl) (by kernel_rfl) (fun _ _ _ h => h) (Or.inl ⟨by rfl, ?_⟩) (by assumption) ?_; rotate_left; (intro X hSw; (try dsimp only at hSw); go_simp; (try with_reducible rfl)); (try simp only [Act.put, List.setIfInBounds_toArray, List.set_cons_zero, List.set_cons_succ, List.getElem_toArray, List.getElem_cons_zero, List.getElem_cons_succ])) | fail "take 13"
        first | (refine wpAnyH_take (i := 14) (v := ?_) rfl (by kernel_rfl) (by kernel_rfl) (by kernel_rfl) (fun _ _ _ h => h) (Or.inl ⟨by rfl, ?_⟩) (by assumption) ?_; rotate_left; (intro X hSw; (try dsimp only at hSw); go_simp; (try with_reducible rfl)); (try simp only [Act.put, List.setIfInBounds_toArray, List.set_cons_zero, List.set_cons_succ, List.getElem_toArray, List.getElem_cons_zero, List.getElem_cons_succ])) | fail "take 14"
        first | (refine wpAnyH_take (i := 15) (v := ?_) rfl (by kernel_rfl) (by kernel_rfl) (by kernel_rfl) (fun _ _ _ h => h) (Or.inl ⟨by rfl, ?_⟩) (by assumption) ?_; rotate_left; (intro X hSw; (try dsimp only at hSw); go_simp; (try with_reducible rfl)); (try simp only [Act.put, List.setIfInBounds_toArray, List.set_cons_zero, List.set_cons_succ, List.getElem_toArray, List.getElem_cons_zero, List.getElem_cons_succ])) | fail "take 15"
        first | (refine wpAnyH_take (i := 16) (v := ?_) rfl (by kernel_rfl) (by kernel_rfl) (by kernel_rfl) (fun _ _ _ h => h) (Or.inl ⟨by rfl, ?_⟩) (by assumption) ?_; rotate_left; (intro X hSw; (try dsimp only at hSw); go_simp; (try with_reducible rfl)); (try simp only [Act.put, List.setIfInBounds_toArray, List.set_cons_zero, List.set_cons_succ, List.getElem_toArray, List.getElem_cons_zero, List.getElem_cons_succ])) | fail "take 16"
        refine wpAnyH_done (by kernel_rfl) ?_ _
        clear hb5 hck hcl
        go_wp2_with fail
        refine (HS1.out _ HZ.out).mono ?_
        rintro e w6 ⟨rfl, hb6⟩
        have HW6 := Lib.hid (HW1.out.trans ((HZ.out.trans (hb6.mono HZ.out.size)).mono HW1.out.size))
        clear hb6
        go_wp2_with fail
        go_returns
        exact ⟨rfl, HW6.out⟩
  · go_enter Try.func8, Try.ntmps8
    go_wp2
    go_returns
    exact ⟨rfl, Below.refl _ _⟩
end Go.Proofs.Ytofpnmjadflebaa
