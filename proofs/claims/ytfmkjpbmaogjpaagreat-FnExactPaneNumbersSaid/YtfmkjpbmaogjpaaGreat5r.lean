/-
  PaneNumbers in the model.
-/
import Derived.Test.YtfmkjpbmaogjpaaGreat5q
import Derived.Test.YtfmkjpbmaogjpaaGreat3a
namespace Go.Proofs.YtfmkjpbmaogjpaaGreat
set_option linter.unusedSimpArgs false
set_option linter.unusedVariables false
open Go.RowKit
theorem own_empty_new5 (w : World) : (w.alloc (.cells #[] 3)).ownsRow w.heap.size 3 1 (.slice (some ⟨w.heap.size, 0, none⟩) 0 0) 0 ((([] : List Int)).map (Value.int .i64)) := World.ownsRow_made (base := w.heap.size) (e := 3) (size := 1) w #[] 0 (Nat.le_refl _) (by simp [maxLen]) (by simp)
theorem row_block5 {w : World} {base e size n g : Nat} {v : Value} {xs : List Value} (h : w.ownsRow base e size v n xs) (hg : v.ownBlock = some g) : ∃ cur, w.heap[g]? = some (.cells cur e (0, 0)) := by
  rcases h.2 with ⟨rfl, _⟩ | ⟨g', cap, cur, rfl, -, hh, -⟩
  · simp [Value.ownBlock] at hg
  · simp only [Value.ownBlock, Option.some.injEq] at hg
    subst hg
    exact ⟨cur, hh⟩
theorem rows_apart5 {w : World} {base e size n base' e' size' n' : Nat} {v v' : Value} {xs xs' : List Value} (h : w.ownsRow base e size v n xs) (h' : w.ownsRow base' e' size' v' n' xs') (he : e ≠ e') : v.ownBlock = none ∨ v.ownBlock ≠ v'.ownBlock := by
  cases hg : v.ownBlock with
  | none => exact .inl rfl
  | some g =>
    refine .inr (fun e2 => ?_)
    obtain ⟨cur, hc⟩ := row_block5 h hg
    obtain ⟨cur', hc'⟩ := row_block5 h' e2.symm
    rw [hc] at hc'
    simp only [Option.some.injEq, Obj.cells.injEq] at hc'
    exact he hc'.2.1
theorem vals_of_row5 {w : World} {base n cap : Nat} {a : Option Addr} {l : List Agg.V} (h : w.ownsRow base 24 3 (.slice a n cap) n (valRow l)) : Vals w a n cap l := by
  have h2 : OwnV w (min base w.heap.size) w.heap.size (.slice a n cap) n l := ⟨owns_lower h (Nat.min_le_left _ _), Nat.min_le_right _ _, Nat.le_refl _, fun g hg => (h.lt g hg).2⟩
  obtain ⟨a', c', e, hv⟩ := h2.vals
  simp only [Value.slice.injEq, true_and] at e
  obtain ⟨rfl, rfl⟩ := e
  exact hv
theorem own_far5 {w : World} {base e size n d : Nat} {v : Value} {xs : List Value} (h : w.ownsRow base e size v n xs) (hd : ∀ q, v.ownBlock = some q → q ≠ d) (o : Nat) (u : Value) : (w.setCell ⟨d, o, none⟩ u).ownsRow base e size v n xs := by
  have hg : w.grownBy (w.setCell ⟨d, o, none⟩ u) (some d) := ⟨rfl, rfl, rfl, by simp [World.setCell], fun k hk hne => Below.heap_setCell _ _ _ _ (fun e => hne (by rw [e]))⟩
  refine h.kept hg ?_
  cases hv : v.ownBlock with
  | none => exact .inl rfl
  | some g => exact .inr (fun e => hd g hv (Option.some.inj e))
set_option maxRecDepth 4000 in
set_option maxHeartbeats 1000000 in
theorem s_paneNumbers_any (k : Int) (a : Option Addr) (n cap : Nat) (l : List Int) (size hop : Int) (w : World) (h : Nums .i64 w a n cap l) :
    Calls Tryz.prog 45 #[.int .i64 k, .slice a n cap, .int .i64 size, .int .i64 hop] w (RowOut (Agg.hopsOut k l size hop) (Agg.hopsIn k l size hop) w) := by
  obtain ⟨i0, hi0, hz0, hz1, hz2⟩ := info_parts infoInt
  have hll : l.length = n := h.1
  have hnc : n ≤ cap := h.2.1
  have hcm : cap ≤ 9223372036854775807 := by have := h.2.2.1; unfold maxLen at this; omega
  have HN := Lib.hid h; clear h
  cases hk : Agg.isKind k
  · have e : Agg.hopsIn k l size hop = false := by simp [Agg.hopsIn, hk]
    rw [Agg.hopsOut, e, if_neg (by simp)]
    go_enter Tryz.func45, Tryz.ntmps45
    go_wp2_with fail
    refine (s_kind_any _ _).mono ?_
    rintro e wk ⟨rfl, rfl⟩
    rw [hk]
    go_wp2_with fail
    go_returns
    exact ⟨_, 0, rfl, OwnR.made (l := []) (World.ownsRow_made (base := w.heap.size) (e := 3) (size := 1) w #[] 0 (Nat.le_refl _) (by simp [maxLen]) (by simp)) (by simp), (Below.refl _ _).alloc (Nat.le_refl _) _⟩
  · cases hi : Agg.itemsOk l
    · have e : Agg.hopsIn k l size hop = false := by simp [Agg.hopsIn, hi]
      rw [Agg.hopsOut, e, if_neg (by simp)]
      go_enter Tryz.func45, Tryz.ntmps45
      go_wp2_with fail
      refine (s_kind_any _ _).mono ?_
      rintro e wk ⟨rfl, rfl⟩
      rw [hk]
      go_wp2_with fail
      refine (s_items_any _ _ _ l _ (HN.out.below (by go_grown))).mono ?_
      rintro e wk ⟨rfl, rfl⟩
      rw [hi]
      go_wp2_with fail
      go_returns
      exact ⟨_, 0, rfl, OwnR.made (l := []) (World.ownsRow_made (base := w.heap.size) (e := 3) (size := 1) w #[] 0 (Nat.le_refl _) (by simp [maxLen]) (by simp)) (by simp), (Below.refl _ _).alloc (Nat.le_refl _) _⟩
    · cases hv : Agg.hopsOk size hop
      · have e : Agg.hopsIn k l size hop = false := by simp [Agg.hopsIn, hv]
        rw [Agg.hopsOut, e, if_neg (by simp)]
        go_enter Tryz.func45, Tryz.ntmps45
        go_wp2_with fail
        refine (s_kind_any _ _).mono ?_
        rintro e wk ⟨rfl, rfl⟩
        rw [hk]
        go_wp2_with fail
        refine (s_items_any _ _ _ l _ (HN.out.below (by go_grown))).mono ?_
        rintro e wk ⟨rfl, rfl⟩
        rw [hi]
        go_wp2_with fail
        refine (s_sizes_any _ _ _).mono ?_
        rintro e wk ⟨rfl, rfl⟩
        rw [hv]
        go_wp2_with fail
        go_returns
        exact ⟨_, 0, rfl, OwnR.made (l := []) (World.ownsRow_made (base := w.heap.size) (e := 3) (size := 1) w #[] 0 (Nat.le_refl _) (by simp [maxLen]) (by simp)) (by simp), (Below.refl _ _).alloc (Nat.le_refl _) _⟩
      · have e : Agg.hopsIn k l size hop = true := by simp [Agg.hopsIn, hk, hi, hv]
        rw [Agg.hopsOut, e, if_pos rfl]
        have hsz : 1 ≤ size ∧ size ≤ 60 ∧ 1 ≤ hop ∧ hop ≤ 60 := by simp [Agg.hopsOk] at hv; omega
        obtain ⟨hs1, hs2, hs3, hs4⟩ := hsz
        obtain ⟨s, rfl⟩ := Int.eq_ofNat_of_zero_le (show 0 ≤ size by omega)
        obtain ⟨h, rfl⟩ := Int.eq_ofNat_of_zero_le (show 0 ≤ hop by omega)
        rw [Int.toNat_natCast, Int.toNat_natCast]
        have hlen := Agg.items_len hi
        have hn60 : n ≤ 60 := by omega
        obtain ⟨g, s', h', hgA, hgg, g1, g2, d1, d2, b1, b2, b3, b4, q1, q2, -, -⟩ := Agg.gcd_parts (s := s) (h := h) (by omega) (by omega) (by omega) (by omega)
        have hgc := fun w => s_gcd_any s h (by omega) (by omega) (by omega) (by omega) w
        rw [hgg] at hgc
        have HGC := Lib.hid hgc
        have hN60 : n / g ≤ 60 := Nat.le_trans (Nat.div_le_self _ _) hn60
        have hpa := fun w hN => s_panes_any k hk a n cap l hi g (by omega) (by omega) w hN
        rw [show Agg.panes k l g = Agg.folds k (fun q => (l.drop (q * g)).take g) (n / g) by rw [Agg.panes, hll, Agg.rowsN_div5 g1]] at hpa
        obtain ⟨N, hNe⟩ : ∃ N, N = n / g := ⟨_, rfl⟩
        rw [← hNe] at hN60 hpa
        obtain ⟨P, hP⟩ : ∃ P, P = Agg.folds k (fun q => (l.drop (q * g)).take g) N := ⟨_, rfl⟩
        rw [← hP] at hpa
        have HPA := Lib.hid hpa
        have hPl : P.length = N := by rw [hP, Agg.folds_len]
        have hpat : ∀ q, q < N → P[q]?.getD Agg.zero = Agg.fold k ((l.drop (q * g)).take g) := fun q hq => by rw [hP]; exact Agg.pane_at hq
        have hRR := Agg.rows_panes (n := n) g1 d1 d2 b3
        rw [← hNe] at hRR
        have hRlt := fun j => Agg.rowsN_lt (n := N) (s := s') (h := h') (j := j) b3
        have hR60 := Agg.rowsN_le (n := n) (s := s) (h := h) (by omega)
        simp only [hRR] at hRlt
        rw [Agg.hops, hll]
        have hsl := Agg.nums_len k (fun j => (l.drop (j * h)).take s) (Agg.rowsN n s h)
        have hst := fun j => Agg.nums_step k (fun j => (l.drop (j * h)).take s) (Agg.rowsN n s h) j
        obtain ⟨S, hS⟩ : ∃ S, S = Agg.nums k (fun j => (l.drop (j * h)).take s) (Agg.rowsN n s h) := ⟨_, rfl⟩
        rw [← hS] at hsl ⊢
        simp only [← hS] at hst
        obtain ⟨R, hRe⟩ : ∃ R, R = Agg.rowsN n s h := ⟨_, rfl⟩
        rw [← hRe] at hsl hR60
        simp only [← hRe] at hst hRlt
        have HSL := Lib.hid hsl
        have HST := Lib.hid hst
        have HRL := Lib.hid hRlt
        have HPAT := Lib.hid hpat
        have HPL := Lib.hid hPl
        have HI := Lib.hid hi
        have D1 := Lib.hid d1
        have D2 := Lib.hid d2
        have hg0 : ¬ ((g : Int) = 0) := by omega
        have hg1 : 1 ≤ (g : Int) := by omega
        have hU := fun w => s_unit_any k hk w
        obtain ⟨⟨ux, uy, uz⟩, hu⟩ : ∃ u, u = Agg.unit k := ⟨_, rfl⟩
        rw [← hu] at hU
        have HU := Lib.hid hU
        have HUU := Lib.hid hu
        clear e hgc hpa hP hpat hRR hRlt hsl hst hS hRe d1 d2 hPl hgA hgg hNe hU hu
        go_enter Tryz.func45, Tryz.ntmps45
        go_wp2_with fail
        refine (s_kind_any _ _).mono ?_
        rintro e wk ⟨rfl, rfl⟩
        rw [hk]
        go_wp2_with fail
        refine (s_items_any _ _ _ l _ (HN.out.below (by go_grown))).mono ?_
        rintro e wk ⟨rfl, rfl⟩
        rw [hi]
        go_wp2_with fail
        refine (s_sizes_any _ _ _).mono ?_
        rintro e wk ⟨rfl, rfl⟩
        rw [hv]
        clear hi hv
        go_wp2_with fail
        refine (HGC.out _).mono ?_
        rintro e w1 ⟨rfl, hb1⟩
        have HO1 := Lib.hid ((own_empty_new5 w).kept (Below.grownNone hb1 none) (.inr (by simp [Value.ownBlock])))
        have HW1 := Lib.hid (((Below.refl w.heap.size w).alloc (Nat.le_refl _) (.cells #[] 3)).trans (hb1.mono (by simp)))
        have hs1' := HW1.out.size
        clear hb1 HGC
        go_wp2_with fail
        refine (HPA.out _ (HN.out.below HW1.out)).mono ?_
        rintro e w2 ⟨v2, n2, rfl, r2, hb2⟩
        have hn2 : n2 = N := by rw [← r2.len, HPL.out]
        obtain ⟨a2, c2, rfl, hV2⟩ := r2.vals
        rw [hn2] at hV2
        have HPV := Lib.hid (show w2.ownsRow w1.heap.size 24 3 (.slice a2 n2 c2) n2 (valRow P) from r2.1)
        have HO2 := Lib.hid (HO1.out.kept (Below.grownNone hb2 none) (.inr (by simp [Value.ownBlock])))
        have HW2 := Lib.hid (HW1.out.trans (hb2.mono hs1'))
        have hs2' := HW2.out.size
        have hc2 : c2 ≤ 9223372036854775807 := by have := hV2.2.2.1; unfold maxLen at this; omega
        have hnc2 : N ≤ c2 := hV2.2.1
        clear r2 hb2 hV2 HPA HO1 HW1
        subst hn2
        go_wp2_with fail
        go_loopw [10, 13] (fun ov i wr => ∃ j c : Nat, j ≤ R ∧ Hid (c = j * h') ∧ c ≤ 120 ∧ i = .int .i64 (c : Int) ∧ Hid (wr.ownsRow w.heap.size 3 1 ov j ((S.take j).map (Value.int .i64))) ∧ Hid (Below w.heap.size w wr) ∧ Hid (wr.ownsRow w1.heap.size 24 3 (.slice a2 n2 c2) n2 (valRow P))) (fun _ i _ => 200 - (intOf i).toNat)
        case atStart => exact ⟨0, 0, Nat.zero_le _, Lib.hid (by simp), by omega, by go_num, HO2, HW2, HPV⟩
        case round =>
          obtain ⟨j, c, hj, hc, hc2', rfl, ho, hw, hv⟩ := hrel
          have hwr := hw.out.size
          have hpl : ∀ q, (Value.slice a2 n2 c2).ownBlock = some q → q < wr.heap.size := fun q hq => (hv.out.lt q hq).2
          by_cases hlt : s' + c ≤ n2
          · have hjR : j < R := (HRL.out j).2 (by have := hc.out; omega)
            have hlt1 : (c : Int) + (s' : Int) ≤ (n2 : Int) := by omega
            have hlt' : ∀ q, u10.ownBlock = some q → w.heap.size ≤ q ∧ q < wr.heap.size := fun q hq => ho.out.lt q hq
            have hst := HST.out j hjR
            have hres : Agg.prun k l g c s' = Agg.fold k ((l.drop (j * h)).take s) := by rw [Agg.prun, hc.out, Nat.mul_assoc, D2.out, D1.out]
            obtain ⟨⟨vx, vy, vz⟩, hV⟩ : ∃ V, V = Agg.fold k ((l.drop (j * h)).take s) := ⟨_, rfl⟩
            obtain ⟨x, hx⟩ : ∃ x, x = Agg.number k ((l.drop (j * h)).take s) := ⟨_, rfl⟩
            have hxe : Agg.num k ⟨vx, vy, vz⟩ = x := by rw [hx, Agg.number, hV]
            have hokv : Agg.ok k ⟨vx, vy, vz⟩ = true := by rw [hV]; exact Agg.ok_fold_all hk (part_ok HI.out _ _)
            have hG := fun w => s_number_any k hk vx vy vz w hokv
            rw [hxe] at hG
            rw [← hx] at hst
            rw [← hV] at hres
            have HG := Lib.hid hG
            have HS2 := Lib.hid hst
            have HRES := Lib.hid hres
            clear hG hst hV hx hxe hokv hres
            go_wp2_with fail
            refine (HU.out _).mono ?_
            rintro e w3 ⟨rfl, hb3⟩
            have HO3 := Lib.hid ((ho.out.kept (Below.grownNone hb3 none) (by cases hv : u10.ownBlock <;> simp)).alloc (.cells #[.int .i64 ux, .int .i64 uy, .int .i64 uz] 24))
            have hw3 := hw.out.trans (hb3.mono hwr)
            have hv3 := hv.out.kept (Below.grownNone hb3 none) (by cases hv : (Value.slice a2 n2 c2).ownBlock <;> simp)
            have hs3w : w.heap.size ≤ w3.heap.size := hw3.size
            have hs3r : wr.heap.size ≤ w3.heap.size := hb3.size
            have HW3 := Lib.hid (hw3.alloc hw3.size (.cells #[.int .i64 ux, .int .i64 uy, .int .i64 uz] 24))
            have HV3 := Lib.hid (hv3.alloc (.cells #[.int .i64 ux, .int .i64 uy, .int .i64 uz] 24))
            have hpl3 : ∀ q, (Value.slice a2 n2 c2).ownBlock = some q → q ≠ w3.heap.size := fun q hq => by have := hpl q hq; omega
            have HB3 := Lib.hid (Box.new w3 24 ux uy uz)
            clear hb3 hw3 hv3
            go_wp2_with fail
            go_loopw [15] (fun i wq => ∃ (t : Nat) (V : Agg.V), t ≤ s' ∧ i = .int .i64 ((c : Int) + (t : Int)) ∧ Hid (V = Agg.prun k l g c t) ∧ Hid (Box wq w3.heap.size 24 V.x V.y V.z) ∧ Hid (wq.ownsRow w.heap.size 3 1 u10 j ((S.take j).map (Value.int .i64))) ∧ Hid (Below w.heap.size w wq) ∧ Hid (wq.ownsRow w1.heap.size 24 3 (.slice a2 n2 c2) n2 (valRow P))) (fun i _ => c + s' - (intOf i).toNat)
            case atStart => exact ⟨0, ⟨ux, uy, uz⟩, Nat.zero_le _, by simp, Lib.hid (by rw [HUU.out, Agg.prun_zero]), HB3, HO3, HW3, HV3⟩
            case round =>
              obtain ⟨t, ⟨ax, ay, az⟩, ht, rfl, hval, hvb, hoq, hwq, hvq⟩ := hrel
              have hwqs := hwq.out.size
              have hvl := hvb.out.lt
              by_cases hlt2 : t < s'
              · have hcond : (c : Int) + (t : Int) < (c : Int) + (s' : Int) := by omega
                obtain ⟨o1, o2, o3⟩ := Agg.prun_step hk HI.out g c t
                have hpt := HPAT.out (c + t) (by omega)
                obtain ⟨⟨px, py, pz⟩, hp⟩ : ∃ V, V = Agg.fold k ((l.drop ((c + t) * g)).take g) := ⟨_, rfl⟩
                obtain ⟨⟨rx, ry, rz⟩, hrr⟩ : ∃ V, V = Agg.prun k l g c (t + 1) := ⟨_, rfl⟩
                rw [← hp] at o2 o3 hpt
                rw [← hval.out] at o1 o3
                have hC := fun w => s_combine_any k hk ax ay az px py pz w o1 o2
                rw [o3, ← hrr] at hC
                have HC := Lib.hid hC
                have HRR := Lib.hid hrr
                have HPT := Lib.hid hpt
                clear hC o1 o2 o3 hp hrr hpt
                have hQ := vals_of_row5 hvq.out
                rcases hQ.2.2.2 with h0 | ⟨b', off, rfl, hbw, hcs⟩
                · omega
                · obtain ⟨p0, p1, p2⟩ := hcs (c + t) (by omega)
                  rw [HPT.out] at p0 p1 p2
                  obtain ⟨v0, v1, v2⟩ := hvb.out.cells
                  have hj0 : (0 : Int) ≤ (c : Int) + (t : Int) := by omega
                  have hjn : (c : Int) + (t : Int) < (n2 : Int) := by omega
                  have hjt : ((c : Int) + (t : Int)).toNat = c + t := by omega
                  clear hcs hQ
                  go_wp2_with fail
                  have hoqd : World.ownsRow wr.drew w.heap.size 3 1 u10 j ((S.take j).map (Value.int .i64)) := hoq.out
                  have hvqd : World.ownsRow wr.drew w1.heap.size 24 3 (.slice (some ⟨b', off, none⟩) n2 c2) n2 (valRow P) := hvq.out
                  go_region_with (go_at_call 88; refine (HC.out _).mono ?_; rintro e w6 ⟨rfl, hb6⟩; have HB6 := Lib.hid (hvb.out.callD hb6); have HO6 := Lib.hid (hoqd.kept (Below.grownNone hb6 none) (by cases hv : u10.ownBlock <;> simp)); have HW6 := Lib.hid (hwq.out.drew.trans (hb6.mono hwqs)); have HV6 := Lib.hid (hvqd.kept (Below.grownNone hb6 none) (Classical.em _)); obtain ⟨o0, o1, o2⟩ := HB6.out.cells; have f0 := HB6.out.free 0; have f1 := HB6.out.free 1; have f2 := HB6.out.free 2; clear hb6)
                  all_goals
                    have hne : ∀ q, u10.ownBlock = some q → q ≠ w3.heap.size := fun q hq => by have := (hlt' q hq).2; omega
                    go_wp2_with fail
                    go_roundw
                    case rel => exact ⟨t + 1, ⟨rx, ry, rz⟩, by omega, by go_num, HRR, Lib.hid (HB6.out.set rx ry rz), Lib.hid (own_far5 (own_far5 (own_far5 HO6.out hne 0 _) hne 1 _) hne 2 _), Lib.hid (((HW6.out.setCell hs3w _).setCell hs3w _).setCell hs3w _), Lib.hid (own_far5 (own_far5 (own_far5 HV6.out hpl3 0 _) hpl3 1 _) hpl3 2 _)⟩
                    case measure => simp [intOf]; omega
              · obtain rfl : t = s' := by omega
                have hv2 := hval.out.trans HRES.out
                simp only [Agg.V.mk.injEq] at hv2
                obtain ⟨rfl, rfl, rfl⟩ := hv2
                obtain ⟨v0, v1, v2⟩ := hvb.out.cells
                go_wp2_with fail
                refine (HG.out _).mono ?_
                rintro e w7 ⟨rfl, hb7⟩
                have HO7 := Lib.hid (hoq.out.kept (Below.grownNone hb7 none) (by cases hv : u10.ownBlock <;> simp))
                have HW7 := Lib.hid (hwq.out.trans (hb7.mono hwqs))
                have HV7 := Lib.hid (hvq.out.kept (Below.grownNone hb7 none) (by cases hv : (Value.slice a2 n2 c2).ownBlock <;> simp))
                have hs7 := HW7.out.size
                clear hb7 v0 v1 v2
                have hj0 : (0 : Int) ≤ (c : Int) := by omega
                have hap := rows_apart5 (HV7.out.alloc (.cells #[.int .i64 x] 3)) (HO7.out.alloc (.cells #[.int .i64 x] 3)) (by decide)
                have HAP := Lib.hid hap
                clear hap
                have hltq : ∀ q, u10.ownBlock = some q → w.heap.size ≤ q := fun q hq => (hlt' q hq).1
                go_wp2_with (at_builtin; refine wpList_append_own _ rfl (.tmp 71) (.tmp 75) 34 rfl w.heap.size 3 i0 (.int .i64 0) 1 8 Tryz.underlying34 hi0 hz0 hz1 hz2 rfl (by decide) _ _ _ rfl (HO7.out.alloc _) ⟨w7.heap.size, 0, none⟩ 1 1 [.int .i64 x] rfl rfl (cell_one_new _ _ _) (ints_oneCell .i64 [x]) (by unfold maxLen; omega) (by omega) (by simp; omega) ?_; intro v' w8 hown8 hgrow8 hnil8; have HO8 := Lib.hid hown8; have HG8 := Lib.hid hgrow8; have HW8 := Lib.hid ((HW7.out.alloc HW7.out.size _).grown hgrow8 (by have := HW7.out.size; simp; omega) hltq); clear hown8 hgrow8 hnil8)
                go_roundw
                case rel =>
                  refine ⟨j + 1, c + h', hjR, Lib.hid (by rw [hc.out, Nat.add_mul, Nat.one_mul]), by omega, by go_num, Lib.hid ?_, HW8, Lib.hid ((HV7.out.alloc _).kept HG8.out HAP.out)⟩
                  rw [HS2.out, List.map_append]
                  exact HO8.out
                case measure => simp [intOf]; omega
          · obtain rfl : j = R := by
              have := (HRL.out j)
              have h2 := hc.out
              rcases Nat.lt_or_ge j R with h3 | h3
              · have := this.1 h3; omega
              · omega
            have hlt2 : ¬ ((c : Int) + (s' : Int) ≤ (n2 : Int)) := by omega
            have hall : S.take j = S := List.take_of_length_le (by have := HSL.out; omega)
            have ho2 := ho.out
            rw [hall] at ho2
            have HO2' := Lib.hid ho2
            clear ho2 hall
            go_wp2
            go_returns
            exact ⟨_, _, rfl, OwnR.made HO2'.out hw.out.size, hw.out⟩
end Go.Proofs.YtfmkjpbmaogjpaaGreat
