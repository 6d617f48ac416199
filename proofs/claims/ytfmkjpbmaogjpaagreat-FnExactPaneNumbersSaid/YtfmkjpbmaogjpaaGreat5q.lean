/-
  PaneNumbers, in the program and in the model.
-/
import Derived.Test.YtfmkjpbmaogjpaaGreat5p
import Derived.Test.YtfmkjpbmaogjpaaGreat5f
import Derived.Deep.RegionWith
import Derived.Deep.RegionHeld3
namespace Go.Proofs.YtfmkjpbmaogjpaaGreat
set_option linter.unusedSimpArgs false
set_option linter.unusedVariables false
open Go.RowKit
theorem Agg.lt_eq {A B : Nat} (h : ∀ j, j < A ↔ j < B) : A = B := by
  rcases Nat.lt_trichotomy A B with h1 | h1 | h1
  · exact absurd ((h A).2 h1) (Nat.lt_irrefl _)
  · exact h1
  · exact absurd ((h B).1 h1) (Nat.lt_irrefl _)
theorem Agg.rows_panes {n s h g s' h' : Nat} (hg : 1 ≤ g) (hs : s' * g = s) (hh : h' * g = h) (hh1 : 1 ≤ h') : Agg.rowsN (n / g) s' h' = Agg.rowsN n s h := by
  have h1 : 1 ≤ h := by rw [← hh]; exact Nat.le_trans hh1 (Nat.le_mul_of_pos_right _ (by omega))
  refine Agg.lt_eq fun j => ?_
  rw [Agg.rowsN_lt hh1, Agg.rowsN_lt h1, Nat.le_div_iff_mul_le (by omega), Nat.add_mul, Nat.mul_assoc, hs, hh]
theorem Agg.rowsN_div5 {n s : Nat} (hs : 1 ≤ s) : Agg.rowsN n s s = n / s := by
  unfold Agg.rowsN
  split
  · rw [Nat.div_eq_of_lt (by omega)]
  · rw [Nat.div_eq_sub_div (by omega) (by omega : s ≤ n)]
/-- The fold of t panes from pane i on. -/
def Agg.prun (k : Int) (l : List Int) (g i t : Nat) : Agg.V := Agg.fold k ((l.drop (i * g)).take (t * g))
theorem Agg.prun_zero (k : Int) (l : List Int) (g i : Nat) : Agg.prun k l g i 0 = Agg.unit k := by simp [Agg.prun, Agg.fold_nil]
theorem Agg.prun_step {k : Int} {l : List Int} (hk : Agg.isKind k = true) (hi : Agg.itemsOk l = true) (g i t : Nat) :
    Agg.ok k (Agg.prun k l g i t) = true ∧ Agg.ok k (Agg.fold k ((l.drop ((i + t) * g)).take g)) = true ∧ Agg.comb k (Agg.prun k l g i t) (Agg.fold k ((l.drop ((i + t) * g)).take g)) = Agg.prun k l g i (t + 1) := by
  refine ⟨Agg.ok_fold_all hk (part_ok hi _ _), Agg.ok_fold_all hk (part_ok hi _ _), ?_⟩
  have e : (l.drop (i * g)).take ((t + 1) * g) = (l.drop (i * g)).take (t * g) ++ (l.drop ((i + t) * g)).take g := by
    rw [Nat.add_mul, Nat.one_mul, List.take_add, List.drop_drop, Nat.add_mul]
  unfold Agg.prun
  rw [e, Agg.fold_append hk _ _ (by rw [← e]; exact part_ok hi _ _)]
theorem Agg.pane_at {k : Int} {l : List Int} {g N q : Nat} (h : q < N) : (Agg.folds k (fun q => (l.drop (q * g)).take g) N)[q]?.getD Agg.zero = Agg.fold k ((l.drop (q * g)).take g) := Agg.folds_at _ _ _ _ h
/-- What divides the sizes. -/
theorem Agg.gcd_parts {s h : Nat} (hs1 : 1 ≤ s) (hs2 : s ≤ 60) (hh1 : 1 ≤ h) (hh2 : h ≤ 60) : ∃ g s' h' : Nat, Agg.gcdA (s : Int) (h : Int) = (g : Int) ∧ Nat.gcd s h = g ∧ 1 ≤ g ∧ g ≤ 60 ∧ s' * g = s ∧ h' * g = h ∧ 1 ≤ s' ∧ s' ≤ 60 ∧ 1 ≤ h' ∧ h' ≤ 60 ∧ (s : Int) / (g : Int) = (s' : Int) ∧ (h : Int) / (g : Int) = (h' : Int) ∧ s / g = s' ∧ h / g = h' := by
  have hok : Agg.gcdOk (s : Int) (h : Int) = true := by simp only [Agg.gcdOk, Bool.and_eq_true, decide_eq_true_eq]; omega
  obtain ⟨g1, g2⟩ := Agg.gcd_le (x := s) (y := h) hs1
  have d1 : s / Nat.gcd s h * Nat.gcd s h = s := Nat.div_mul_cancel (Nat.gcd_dvd_left _ _)
  have d2 : h / Nat.gcd s h * Nat.gcd s h = h := Nat.div_mul_cancel (Nat.gcd_dvd_right _ _)
  have e1 : 1 ≤ s / Nat.gcd s h := (Nat.le_div_iff_mul_le (by omega)).2 (by omega)
  have e2 : 1 ≤ h / Nat.gcd s h := (Nat.le_div_iff_mul_le (by omega)).2 (by have : Nat.gcd s h ≤ h := Nat.gcd_le_right _ (by omega); omega)
  have f1 : s / Nat.gcd s h ≤ s := Nat.div_le_self _ _
  have f2 : h / Nat.gcd s h ≤ h := Nat.div_le_self _ _
  exact ⟨Nat.gcd s h, s / Nat.gcd s h, h / Nat.gcd s h, Agg.gcdA_of hok, rfl, g1, by omega, d1, d2, e1, by omega, e2, by omega, (Int.natCast_ediv _ _).symm, (Int.natCast_ediv _ _).symm, rfl, rfl⟩
set_option maxRecDepth 4000 in
set_option maxHeartbeats 1000000 in
theorem paneNumbers_any (k : Int) (a : Option Addr) (n cap : Nat) (l : List Int) (size hop : Int) (w : World) (h : Nums .i64 w a n cap l) :
    Calls Tryz.prog 44 #[.int .i64 k, .slice a n cap, .int .i64 size, .int .i64 hop] w (RowOut (Agg.hopsOut k l size hop) (Agg.hopsIn k l size hop) w) := by
  have hll : l.length = n := h.1
  have hnc : n ≤ cap := h.2.1
  have hcm : cap ≤ 9223372036854775807 := by have := h.2.2.1; unfold maxLen at this; omega
  have HN := Lib.hid h; clear h
  cases hk : Agg.isKind k
  · have e : Agg.hopsIn k l size hop = false := by simp [Agg.hopsIn, hk]
    rw [Agg.hopsOut, e, if_neg (by simp)]
    have hk2 := Lib.hid (show ¬ (1 ≤ k ∧ k ≤ 10) by simpa [Agg.isKind] using hk)
    go_enter Tryz.func44, Tryz.ntmps44
    go_wp2_with fail
    refine (kindOf_not _ _ hk2.out).mono ?_
    rintro e wk ⟨rfl, rfl⟩
    go_wp2_with fail
    go_returns
    exact RowOut.none_ (Below.refl _ _)
  · obtain ⟨T, fu, fl, fc, K⟩ := kind_at hk
    have HKO := Lib.hid K.of
    cases hi : Agg.itemsOk l
    · have e : Agg.hopsIn k l size hop = false := by simp [Agg.hopsIn, hi]
      rw [Agg.hopsOut, e, if_neg (by simp)]
      go_enter Tryz.func44, Tryz.ntmps44
      go_wp2_with fail
      refine (HKO.out _).mono ?_
      rintro e wk ⟨rfl, rfl⟩
      go_wp2_with fail
      refine (areItems_any _ _ _ l _ HN.out).mono ?_
      rintro e wk ⟨rfl, rfl⟩
      rw [hi]
      go_wp2_with fail
      go_returns
      exact RowOut.none_ (Below.refl _ _)
    · cases hv : Agg.hopsOk size hop
      · have e : Agg.hopsIn k l size hop = false := by simp [Agg.hopsIn, hv]
        rw [Agg.hopsOut, e, if_neg (by simp)]
        go_enter Tryz.func44, Tryz.ntmps44
        go_wp2_with fail
        refine (HKO.out _).mono ?_
        rintro e wk ⟨rfl, rfl⟩
        go_wp2_with fail
        refine (areItems_any _ _ _ l _ HN.out).mono ?_
        rintro e wk ⟨rfl, rfl⟩
        rw [hi]
        go_wp2_with fail
        refine (hopsValid_any _ _ _).mono ?_
        rintro e wk ⟨rfl, rfl⟩
        rw [hv]
        go_wp2_with fail
        go_returns
        exact RowOut.none_ (Below.refl _ _)
      · have e : Agg.hopsIn k l size hop = true := by simp [Agg.hopsIn, hk, hi, hv]
        rw [Agg.hopsOut, e, if_pos rfl]
        obtain ⟨i0, hi0, hz0, hz1, hz2⟩ := info_parts infoInt
        have hsz : 1 ≤ size ∧ size ≤ 60 ∧ 1 ≤ hop ∧ hop ≤ 60 := by simp [Agg.hopsOk] at hv; omega
        obtain ⟨hs1, hs2, hs3, hs4⟩ := hsz
        obtain ⟨s, rfl⟩ := Int.eq_ofNat_of_zero_le (show 0 ≤ size by omega)
        obtain ⟨h, rfl⟩ := Int.eq_ofNat_of_zero_le (show 0 ≤ hop by omega)
        rw [Int.toNat_natCast, Int.toNat_natCast]
        have hlen := Agg.items_len hi
        have hn60 : n ≤ 60 := by omega
        obtain ⟨g, s', h', hgA, -, g1, g2, d1, d2, b1, b2, b3, b4, q1, q2, -, -⟩ := Agg.gcd_parts (s := s) (h := h) (by omega) (by omega) (by omega) (by omega)
        have hpz := fun w => paneSize_any 0 (s : Int) (h : Int) w (by simp only [Agg.hopOk, hv, Bool.and_true, decide_eq_true_eq]; omega)
        rw [hgA] at hpz
        have HPZ := Lib.hid hpz
        have hN60 : n / g ≤ 60 := Nat.le_trans (Nat.div_le_self _ _) hn60
        have hpo : Agg.panesOk k l (g : Int) = true := by simp only [Agg.panesOk, Bool.and_eq_true, decide_eq_true_eq]; exact ⟨⟨hk, hi⟩, by omega, by omega⟩
        have hpa := fun w hN => panesOf_any k a n cap l (g : Int) w hN
        rw [show Agg.panesOut k l (g : Int) = Agg.folds k (fun q => (l.drop (q * g)).take g) (n / g) by rw [Agg.panesOut, hpo, if_pos rfl, Int.toNat_natCast, Agg.panes, hll, Agg.rowsN_div5 g1], hpo] at hpa
        obtain ⟨P, hP⟩ : ∃ P, P = Agg.folds k (fun q => (l.drop (q * g)).take g) (n / g) := ⟨_, rfl⟩
        rw [← hP] at hpa
        have HPA := Lib.hid hpa
        have hPl : P.length = n / g := by rw [hP, Agg.folds_len]
        have hpat : ∀ q, q < n / g → P[q]?.getD Agg.zero = Agg.fold k ((l.drop (q * g)).take g) := fun q hq => by rw [hP]; exact Agg.pane_at hq
        have hRR := Agg.rows_panes (n := n) g1 d1 d2 b3
        have hRlt := fun j => Agg.rowsN_lt (n := n / g) (s := s') (h := h') (j := j) b3
        have hR60 := Agg.rowsN_le (n := n) (s := s) (h := h) (by omega)
        have hRV := fun a cap w hl => rowsOf_val a (n / g) cap P s' h' hN60 b1 b2 b3 b4 w hl
        rw [hRR] at hRV
        simp only [hRR] at hRlt
        rw [Agg.hops, hll]
        have hsl := Agg.nums_len k (fun j => (l.drop (j * h)).take s) (Agg.rowsN n s h)
        have hst := fun j => Agg.nums_step k (fun j => (l.drop (j * h)).take s) (Agg.rowsN n s h) j
        obtain ⟨S, hS⟩ : ∃ S, S = Agg.nums k (fun j => (l.drop (j * h)).take s) (Agg.rowsN n s h) := ⟨_, rfl⟩
        rw [← hS] at hsl ⊢
        simp only [← hS] at hst
        obtain ⟨R, hRe⟩ : ∃ R, R = Agg.rowsN n s h := ⟨_, rfl⟩
        rw [← hRe] at hsl hR60 hRV
        simp only [← hRe] at hst hRlt
        have HSL := Lib.hid hsl
        have HST := Lib.hid hst
        have HRL := Lib.hid hRlt
        have HRV := Lib.hid hRV
        have HPAT := Lib.hid hpat
        have HPL := Lib.hid hPl
        have HI := Lib.hid hi
        have D1 := Lib.hid d1
        have D2 := Lib.hid d2
        have qa : IntKind.i64.wrap ((s : Int) / (g : Int)) = (s' : Int) := by rw [q1]; exact IntWalk.i64_in _ (by omega)
        have qb : IntKind.i64.wrap ((h : Int) / (g : Int)) = (h' : Int) := by rw [q2]; exact IntWalk.i64_in _ (by omega)
        have qc : wrap64 ((s : Int) / (g : Int)) = (s' : Int) := by rw [q1]; unfold wrap64; omega
        have qd : wrap64 ((h : Int) / (g : Int)) = (h' : Int) := by rw [q2]; unfold wrap64; omega
        have qe : IntKind.i64.wrap ((s : Int).tdiv (g : Int)) = (s' : Int) := by rw [Int.tdiv_eq_ediv_of_nonneg (by omega)]; exact qa
        have qf : IntKind.i64.wrap ((h : Int).tdiv (g : Int)) = (h' : Int) := by rw [Int.tdiv_eq_ediv_of_nonneg (by omega)]; exact qb
        have qg : ((g : Int) == 0) = false := by simp; omega
        have hg0 : ¬ ((g : Int) = 0) := by omega
        have hg1 : 1 ≤ (g : Int) := by omega
        have Q1 := Lib.hid q1
        have Q2 := Lib.hid q2
        clear e hpz hpo hpa hP hpat hRR hRlt hRV hsl hst hS hRe d1 d2 hPl hgA q1 q2
        go_enter Tryz.func44, Tryz.ntmps44
        go_wp2_with fail
        refine (HKO.out _).mono ?_
        rintro e wk ⟨rfl, rfl⟩
        go_wp2_with fail
        refine (areItems_any _ _ _ l _ HN.out).mono ?_
        rintro e wk ⟨rfl, rfl⟩
        rw [hi]
        go_wp2_with fail
        refine (hopsValid_any _ _ _).mono ?_
        rintro e wk ⟨rfl, rfl⟩
        rw [hv]
        clear hi hv
        go_wp2_with fail
        refine (HPZ.out _).mono ?_
        rintro e w1 ⟨rfl, hb1⟩
        have hs1' := hb1.size
        have HW1 := Lib.hid hb1
        clear hb1 HPZ
        go_wp2_with fail
        refine (HPA.out _ (HN.out.below HW1.out)).mono ?_
        rintro e w2 ⟨v2, n2, rfl, r2, hb2⟩
        have hn2 : n2 = n / g := by rw [← r2.len, HPL.out]
        obtain ⟨a2, c2, rfl, hV2⟩ := r2.vals
        rw [hn2] at hV2
        have hs2' := hb2.size
        have HV2 := Lib.hid hV2
        have HW2 := Lib.hid (HW1.out.trans (hb2.mono hs1'))
        clear r2 hb2 hV2 HPA
        subst hn2
        go_wp2_with fail
        go_region_with (go_at_call 82; refine (HRV.out a2 c2 w2.drew (show Vals w2.drew _ _ _ _ from HV2.out)).mono ?_; rintro e w3 ⟨a3, c3, rfl, hr3, hb3⟩; have HR3 := Lib.hid hr3; have HW3 := Lib.hid (HW2.out.drew.trans (hb3.mono HW2.out.size)); clear hb3)
        all_goals
          clear qa qb qc qd qe qf qg hg0 hg1 hN60
          have hs3' := HW3.out.size
          have hnc3 := HR3.out.1
          have hcm3 := HR3.out.2.1
          go_wp2_with fail
          (try simp only [Act.put, List.setIfInBounds_toArray, List.set_cons_zero, List.set_cons_succ, List.getElem_toArray, List.getElem_cons_zero, List.getElem_cons_succ])
          go_loopw [15, 55] (fun ov i wr => ∃ j : Nat, j ≤ R ∧ i = .int .i64 j ∧ Hid (wr.ownsRow w3.heap.size 3 1 ov j ((S.take j).map (Value.int .i64))) ∧ Hid (Below w3.heap.size w3 wr)) (fun _ i _ => R - (intOf i).toNat)
          case atStart => exact ⟨0, Nat.zero_le _, rfl, World.ownsRow_nil _ _ _ _, Below.refl _ _⟩
          case round =>
            obtain ⟨j, hj, rfl, ho, hw⟩ := hrel
            have hwr := hw.out.size
            by_cases hlt : j < R
            · rcases (HR3.out.below hw.out).2.2 with h0 | ⟨b, off, rfl, hbw, hcs⟩
              · omega
              · obtain ⟨a4, c4, hcell, hN4⟩ := hcs j hlt
                have hidx := (HRL.out j).1 hlt
                have hCA := combineAll_any K a4 s' c4 ((P.drop (j * h')).take s') (fun t => Agg.prun k l g (j * h') t) (by omega) (Agg.prun_zero _ _ _ _) (fun t ht => by
                  have e : ((P.drop (j * h')).take s')[t]?.getD Agg.zero = Agg.fold k ((l.drop ((j * h' + t) * g)).take g) := by
                    rw [List.getElem?_take, if_pos ht, List.getElem?_drop]; exact HPAT.out _ (by omega)
                  rw [e]; exact Agg.prun_step hk HI.out g (j * h') t) wr hN4
                have hres : Agg.prun k l g (j * h') s' = Agg.fold k ((l.drop (j * h)).take s) := by rw [Agg.prun, Nat.mul_assoc, D2.out, D1.out]
                simp only [hres] at hCA
                have hst := HST.out j hlt
                obtain ⟨⟨vx, vy, vz⟩, hV⟩ : ∃ V, V = Agg.fold k ((l.drop (j * h)).take s) := ⟨_, rfl⟩
                obtain ⟨x, hx⟩ : ∃ x, x = Agg.number k ((l.drop (j * h)).take s) := ⟨_, rfl⟩
                have hxe : Agg.num k ⟨vx, vy, vz⟩ = x := by rw [hx, Agg.number, hV]
                have hG := fun w => numberOf_any k vx vy vz w
                rw [hxe] at hG
                rw [← hV] at hCA
                rw [← hx] at hst
                have HCA := Lib.hid hCA
                have HG := Lib.hid hG
                have HS2 := Lib.hid hst
                clear hCA hG hst hV hx hxe hres hidx hcs hN4
                have hk0 : (0 : Int) ≤ (j : Int) := Int.natCast_nonneg _
                have hkn : (j : Int) < (R : Int) := by omega
                have hlt' : ∀ q, u15.ownBlock = some q → w3.heap.size ≤ q := fun q hq => (ho.out.lt q hq).1
                go_wp2_with fail
                refine HCA.out.mono ?_
                rintro e w4 ⟨rfl, hb4⟩
                have HO4 := Lib.hid (ho.out.kept (Below.grownNone hb4 none) (by cases hv : u15.ownBlock <;> simp))
                have HW4 := Lib.hid (hw.out.trans (hb4.mono hwr))
                clear hb4 hcell HCA
                go_wp2_with fail
                refine (HG.out _).mono ?_
                rintro e w5 ⟨rfl, hb5⟩
                have HO5 := Lib.hid (HO4.out.kept (Below.grownNone hb5 none) (by cases hv : u15.ownBlock <;> simp))
                have HW5 := Lib.hid (HW4.out.trans (hb5.mono HW4.out.size))
                have hs5 := HW5.out.size
                clear hb5 HG HO4 HW4
                go_wp2_with (at_builtin; refine wpList_append_own _ rfl (.tmp 59) (.tmp 65) 34 rfl w3.heap.size 3 i0 (.int .i64 0) 1 8 Tryz.underlying34 hi0 hz0 hz1 hz2 rfl (by decide) _ _ _ rfl (HO5.out.alloc _) ⟨w5.heap.size, 0, none⟩ 1 1 [.int .i64 x] rfl rfl (cell_one_new _ _ _) (ints_oneCell .i64 [x]) (by unfold maxLen; omega) (by omega) (by simp; omega) ?_; intro v' w6 hown6 hgrow6 hnil6; have HO6 := Lib.hid hown6; have HW6 := Lib.hid ((HW5.out.alloc HW5.out.size _).grown hgrow6 (by have := HW5.out.size; simp; omega) hlt'); clear hown6 hgrow6 hnil6)
                go_roundw
                case rel =>
                  refine ⟨j + 1, by omega, by go_num, Lib.hid ?_, HW6⟩
                  rw [HS2.out, List.map_append]
                  exact HO6.out
                case measure => simp [intOf]; omega
            · obtain rfl : j = R := by omega
              have ho2 := ho.out
              rw [List.take_of_length_le (by have := HSL.out; omega)] at ho2
              have HO2 := Lib.hid ho2
              have HB2 := Lib.hid (HW3.out.trans (hw.out.mono hs3'))
              clear ho2
              go_wp2
              go_returns
              exact ⟨_, _, rfl, OwnR.made (owns_lower HO2.out hs3') HB2.out.size, HB2.out⟩
end Go.Proofs.YtfmkjpbmaogjpaaGreat
