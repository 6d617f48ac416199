/-
  A query added, in the model.
-/
import Derived.Test.Ytofpnmjadflebaa9e
import Derived.Deep.DeepMust
namespace Go.Proofs.Ytofpnmjadflebaa
set_option linter.unusedSimpArgs false
set_option linter.unusedVariables false
open Go.RowKit
theorem OwnQy.empty (w : World) {lo : Nat} (h : lo ≤ w.heap.size) : OwnQy (w.alloc (.cells #[] 28)) lo (w.alloc (.cells #[] 28)).heap.size (.slice (some ⟨w.heap.size, 0, none⟩) 0 0) 0 [] :=
  OwnQy.of (lo := w.heap.size) (own_emptyQ_new w) h (by simp; omega)
set_option maxRecDepth 8000 in
set_option maxHeartbeats 4000000 in
theorem s_addQuery_any (a : Option Addr) (n cap : Nat) (l : List (Int × Int)) (x y : Int) (w : World) (h : Qrs w a n cap l) (hn : n ≤ 1048576) :
    Calls Try.prog 14 #[.slice a n cap, .agg #[.int .i64 x, .int .i64 y]] w (QrysOut (Agg.addOk l (x, y)) (Agg.addOut l (x, y)) w) := by
  obtain ⟨i0, hi0, hz0, hz1, hz2⟩ := info_parts infoQy
  have hll : l.length = n := h.1
  have hnc : n ≤ cap := h.2.1
  have hcm : cap ≤ 9223372036854775807 := by have := h.2.2.1; unfold maxLen at this; omega
  obtain ⟨W, hW⟩ : ∃ W, W = w.alloc (.cells #[.int .i64 x, .int .i64 y] 28) := ⟨_, rfl⟩
  have HX := Lib.hid (show Box2h W w.heap.size 28 x y from by rw [hW]; exact Box2h.new _ _ _ _)
  have HB := Lib.hid (show Below w.heap.size w W from by rw [hW]; exact (Below.refl _ _).alloc (Nat.le_refl _) _)
  have hWs : w.heap.size < W.heap.size := HX.out.lt
  have H0 := Lib.hid h
  have HLL := Lib.hid hll
  obtain ⟨vb, hvb⟩ : ∃ vb, vb = Agg.qrysOk l := ⟨_, rfl⟩
  have HQV := Lib.hid (fun X (hX : Below w.heap.size w X) => s_queriesValid_any a n cap l X (H0.out.below hX))
  rw [← hvb] at HQV
  obtain ⟨ok, hok⟩ : ∃ ok, ok = Agg.hopsOk x y := ⟨_, rfl⟩
  have HSZ := Lib.hid (fun X => s_l5Sizes_9 x y X)
  rw [← hok] at HSZ
  obtain ⟨b, hb⟩ : ∃ b, b = Agg.addOk l (x, y) := ⟨_, rfl⟩
  obtain ⟨RO, hRO⟩ : ∃ RO, RO = Agg.addOut l (x, y) := ⟨_, rfl⟩
  rw [← hb, ← hRO]
  have HNO := Lib.hid (show (vb = false ∨ ok = false) → b = false ∧ RO = [] from by
    intro hh
    have e : b = false := by
      rw [hb]
      rcases hh with e | e
      · exact Agg.add_bad (hvb.symm.trans e)
      · exact Agg.add_badq (show Agg.qryOk (x, y) = false from hok.symm.trans e)
    refine ⟨e, ?_⟩
    rw [hRO, Agg.addOut, ← hb, e]; rfl)
  have HHAS := Lib.hid (show vb = true → l.contains (x, y) = true → b = true ∧ RO = l from by
    intro h1 h2
    obtain ⟨e1, e2⟩ := Agg.add_has (hvb.symm.trans h1) h2
    exact ⟨hb.trans e1, hRO.trans e2⟩)
  have HNEW := Lib.hid (show vb = true → ok = true → l.contains (x, y) = false → b = decide (n + 1 ≤ 8) ∧ RO = if b then l ++ [(x, y)] else [] from by
    intro h1 h2 h3
    obtain ⟨e1, e2⟩ := Agg.add_new (hvb.symm.trans h1) (show Agg.qryOk (x, y) = true from hok.symm.trans h2) h3
    rw [hll] at e1
    refine ⟨hb.trans e1, ?_⟩
    rw [hRO, Agg.addOut, ← hb, e2])
  have hsrc := Qrs.src (h.below (HB.out.alloc (Nat.le_of_lt hWs) (.cells #[] 28)))
  have HSRC := Lib.hid hsrc
  have hnn : n + 1 ≤ 1048577 := by omega
  clear h hll hvb hok hb hRO hsrc
  go_enter Try.func14, Try.ntmps14
  go_upto_region 1 with (fail)
  rw [← hW]
  clear hW
  go_wp2_with (at_builtin; go_must (refine wpList_append_copy rfl (.tmp 8) (.tmp 9) 23 rfl 28 i0 (.agg #[.int .i64 0, .int .i64 0]) 2 16 Try.underlying23 hi0 hz0 hz1 hz2 rfl (by decide) W.heap.size rfl (heap_alloc_new W _) a n cap (qryRow l) rfl HSRC.out (by unfold maxLen; omega) (by omega) ?_); intro v1 w1 hown1 hgrow1; obtain ⟨a1, c1, rfl⟩ := qrow_slice hown1; have HO1 := Lib.hid hown1; have HX1 := Lib.hid ((HX.out.call ((Below.refl _ _).alloc (Nat.le_refl _) _)).below ((Below.refl W.heap.size (W.alloc (.cells #[] 28))).grown hgrow1 (by simp) (fun k hk => Nat.le_of_eq (Option.some.inj hk))) hWs); have HB1 := Lib.hid ((HB.out.alloc (Nat.le_of_lt hWs) (.cells #[] 28)).grown hgrow1 (by simp; omega) (fun k hk => by have := Option.some.inj hk; omega)); have HW1 := Lib.hid (show W.heap.size ≤ w1.heap.size from by have := hgrow1.size; simp at this; omega); clear hown1 hgrow1)
  refine (HQV.out _ HB1.out).mono ?_
  rintro e w2 ⟨rfl, hb2⟩
  have HO2 := Lib.hid (HO1.out.kept (Below.grownNone hb2 none) (Classical.em _))
  have HX2 := Lib.hid (HX1.out.call hb2)
  have HB2 := Lib.hid (HB1.out.trans (hb2.mono HB1.out.size))
  have HW2 := Lib.hid (show W.heap.size ≤ w2.heap.size from Nat.le_trans HW1.out hb2.size)
  clear hb2 HO1 HX1 HB1 HSRC HX HB
  obtain ⟨q0, q1⟩ := HX2.out.cells
  cases vb
  · obtain ⟨rfl, rfl⟩ := HNO.out (.inl rfl)
    have HBX := HB2
    go_wp2_with fail
    go_returns
    exact ⟨_, 0, rfl, OwnQy.empty _ HBX.out.size, HBX.out.alloc HBX.out.size _⟩
  · go_wp2_with fail
    refine (HSZ.out _).mono ?_
    rintro e w3 ⟨rfl, rfl⟩
    cases ok
    · obtain ⟨rfl, rfl⟩ := HNO.out (.inr rfl)
      have HBX := HB2
      go_wp2_with fail
      go_returns
      exact ⟨_, 0, rfl, OwnQy.empty _ HBX.out.size, HBX.out.alloc HBX.out.size _⟩
    · clear q0 q1
      go_wp2_with fail
      go_loopw [7] (fun i wr => ∃ j : Nat, j ≤ n ∧ i = .int .i64 j ∧ Hid ((l.take j).contains (x, y) = false) ∧ Hid (Box2h wr w.heap.size 28 x y) ∧ Hid (wr.ownsRow W.heap.size 28 2 (.slice a1 n c1) n (qryRow l)) ∧ Hid (W.heap.size ≤ wr.heap.size) ∧ Hid (Below w.heap.size w wr)) (fun i _ => n - (intOf i).toNat)
      case atStart => exact ⟨0, Nat.zero_le _, rfl, Lib.hid (by simp), HX2, HO2, HW2, HB2⟩
      case round =>
        obtain ⟨j, hj, rfl, hno, hx, ho, hws, hw⟩ := hrel
        clear HX2 HO2 HW2 HB2
        obtain ⟨q0, q1⟩ := hx.out.cells
        have hk0 : (0 : Int) ≤ (j : Int) := Int.natCast_nonneg _
        by_cases hlt : j < n
        · rcases id H0.out.2.2.2 with h4 | ⟨bk, off, rfl, hbl, hcs⟩
          · omega
          · have hck := (hw.out.cell (p := ⟨bk, off + j * 2, none⟩) hbl).trans (hcs j hlt).1
            have hcl := (hw.out.cell (p := ⟨bk, off + j * 2 + 1, none⟩) hbl).trans (hcs j hlt).2
            clear hcs
            have hth := contains_snoc (l := l) (j := j) (by have := HLL.out; omega) (x, y) hno.out
            simp only [qryAt] at hth
            obtain ⟨⟨p, q⟩, hpq⟩ : ∃ o, o = l[j]?.getD (0, 0) := ⟨_, rfl⟩
            rw [← hpq] at hck hcl hth
            have HTH := Lib.hid hth
            clear hpq hth
            have hkn : (j : Int) < (n : Int) := by omega
            by_cases hxp : p = x
            · subst hxp
              by_cases hyq : q = y
              · subst hyq
                obtain ⟨rfl, rfl⟩ := HHAS.out (by first | rfl | trivial) (by
                  have h1 := HTH.out
                  simp only [BEq.rfl] at h1
                  rw [List.contains_iff_mem] at h1 ⊢
                  exact List.mem_of_mem_take h1)
                go_wp2_with fail
                go_region
                all_goals (try go_wp2_with fail)
                all_goals
                  go_returns
                  exact ⟨_, _, rfl, OwnQy.of (lo := W.heap.size) (by exact ho.out) (Nat.le_of_lt hWs) (by exact hw.out.size), by first | exact hw.out | exact below_drewN hw.out _⟩
              · have HNO2 := Lib.hid (show (l.take (j + 1)).contains (p, y) = false from by
                  rw [HTH.out]
                  simp only [beq_eq_false_iff_ne, ne_eq, Prod.mk.injEq, true_and]
                  exact fun e => hyq e.symm)
                go_wp2_with fail
                go_region
                all_goals (try go_wp2_with fail)
                all_goals (
                  go_roundw
                  case rel => exact ⟨j + 1, by omega, by go_num, HNO2, Lib.hid hx.out, Lib.hid ho.out, Lib.hid hws.out, by first | exact hw | exact Lib.hid (below_drewN hw.out _)⟩
                  case measure => simp [intOf]; omega)
            · have HNO2 := Lib.hid (show (l.take (j + 1)).contains (x, y) = false from by
                rw [HTH.out]
                simp only [beq_eq_false_iff_ne, ne_eq, Prod.mk.injEq, not_and]
                exact fun e _ => hxp e.symm)
              go_wp2_with fail
              go_region
              all_goals (try go_wp2_with fail)
              all_goals (
                go_roundw
                case rel => exact ⟨j + 1, by omega, by go_num, HNO2, Lib.hid hx.out, Lib.hid ho.out, Lib.hid hws.out, by first | exact hw | exact Lib.hid (below_drewN hw.out _)⟩
                case measure => simp [intOf]; omega)
        · have hjn : j = n := by omega
          have hall : l.contains (x, y) = false := by
            have h1 := hno.out
            rwa [List.take_of_length_le (by have := HLL.out; omega)] at h1
          obtain ⟨hbe, hRe⟩ := HNEW.out (by first | rfl | trivial) (by first | rfl | trivial) hall
          have HBE := Lib.hid hbe
          have HRE := Lib.hid hRe
          have hlt' : ¬ (j : Int) < (n : Int) := by omega
          clear hall hbe hRe hjn hlt hj
          by_cases h8 : n + 1 ≤ 8
          · obtain rfl : b = true := by rw [HBE.out, decide_eq_true h8]
            have hRO : RO = l ++ [(x, y)] := HRE.out
            have HRO := Lib.hid hRO
            have h8' : ¬ (8 : Int) < (n : Int) + 1 := by omega
            have h8'' : ¬ 8 < n + 1 := by omega
            clear hRO
            go_wp2_with (at_builtin; go_must (refine wpList_append_own _ rfl (.tmp 36) (.tmp 38) 23 rfl W.heap.size 28 i0 (.agg #[.int .i64 0, .int .i64 0]) 2 16 Try.underlying23 hi0 hz0 hz1 hz2 rfl (by decide) _ _ _ rfl (ho.out.alloc _) ⟨wr.heap.size, 0, none⟩ 1 1 [.int .i64 x, .int .i64 y] rfl rfl (cell_two_newQ _ _ _ _) (two_oneCellQ _ _) (by unfold maxLen; omega) (by omega) (by have := hws.out; simp; omega) ?_); intro v9 w9 hown9 hgrow9 hnil9; obtain ⟨a9, c9, rfl⟩ := qrow_slice hown9; have HO9 := Lib.hid hown9; have HB9 := Lib.hid ((hw.out.alloc hw.out.size _).grown hgrow9 (by have := hw.out.size; simp; omega) (fun g hg => by have := (ho.out.lt g hg).1; omega)); clear hown9 hgrow9 hnil9)
            go_returns
            exact ⟨_, _, rfl, by rw [HRO.out]; exact OwnQy.of (lo := W.heap.size) (by rw [qryRow_snoc]; exact HO9.out) (Nat.le_of_lt hWs) HB9.out.size, HB9.out⟩
          · obtain rfl : b = false := by rw [HBE.out, decide_eq_false h8]
            obtain rfl : RO = [] := HRE.out
            have h8' : (8 : Int) < (n : Int) + 1 := by omega
            have h8'' : 8 < n + 1 := by omega
            go_wp2_with (at_builtin; go_must (refine wpList_append_own _ rfl (.tmp 36) (.tmp 38) 23 rfl W.heap.size 28 i0 (.agg #[.int .i64 0, .int .i64 0]) 2 16 Try.underlying23 hi0 hz0 hz1 hz2 rfl (by decide) _ _ _ rfl (ho.out.alloc _) ⟨wr.heap.size, 0, none⟩ 1 1 [.int .i64 x, .int .i64 y] rfl rfl (cell_two_newQ _ _ _ _) (two_oneCellQ _ _) (by unfold maxLen; omega) (by omega) (by have := hws.out; simp; omega) ?_); intro v9 w9 hown9 hgrow9 hnil9; obtain ⟨a9, c9, rfl⟩ := qrow_slice hown9; have HO9 := Lib.hid hown9; have HB9 := Lib.hid ((hw.out.alloc hw.out.size _).grown hgrow9 (by have := hw.out.size; simp; omega) (fun g hg => by have := (ho.out.lt g hg).1; omega)); clear hown9 hgrow9 hnil9)
            have HBX := HB9
            go_returns
            exact ⟨_, 0, rfl, OwnQy.empty _ HBX.out.size, HBX.out.alloc HBX.out.size _⟩
end Go.Proofs.Ytofpnmjadflebaa
