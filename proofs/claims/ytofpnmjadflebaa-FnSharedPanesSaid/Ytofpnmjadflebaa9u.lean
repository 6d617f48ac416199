/-
  Queries that the model draws.
-/
import Derived.Test.Ytofpnmjadflebaa9f
import Derived.Test.YtofpnmjadflebaaDq
import Derived.Test.YtofpnmjadflebaaTb
import Derived.OrdersHeld
import Derived.Deep.RegionHeld
import Derived.Deep.DeepMust
namespace Go.Proofs.Ytofpnmjadflebaa
set_option linter.unusedSimpArgs false
set_option linter.unusedVariables false
open Go.RowKit
section
variable {w w' : World} {c d : Nat} {T : TypeId} {x y : Int}
theorem Box2h.grown9 {row : Option Nat} (h : Box2h w c T x y) (hg : w.grownBy w' row) (hr : row ≠ some c) : Box2h w' c T x y := (hg.block c h.lt (fun e => hr e.symm)).trans h
theorem Box2h.alloc9 (h : Box2h w c T x y) (o : Obj) : Box2h (w.alloc o) c T x y := h.call ((Below.refl _ _).alloc (Nat.le_refl _) _)
theorem Box2h.free9 (h : Box2h w c T x y) (o : Nat) : w.frozen? ⟨c, o, none⟩ = false := by
  unfold Box2h at h
  simp [World.frozen?, h]
end
theorem rd_set9 {w : World} {B c d o : Nat} {p : Int} {u : Value} (h : Rd w B c p) (h1 : B ≤ d) (h2 : d ≠ c) : Rd (w.setCell ⟨d, o, none⟩ u) B c p :=
  h.kept' (row := some d) ⟨rfl, rfl, rfl, by simp [World.setCell], fun k hk hne => Below.heap_setCell _ _ _ _ (fun e => hne (by rw [e]))⟩ (fun k e => by have := Option.some.inj e; omega)
theorem g_set9 {w wr : World} {f0 : Option Nat} {d o : Nat} {u : Value} (h : w.grownBy wr f0) (hd : w.heap.size ≤ d) : w.grownBy (wr.setCell ⟨d, o, none⟩ u) f0 :=
  ⟨h.os, h.tape, h.output, by simpa [World.setCell] using h.size, fun k hk hne => (Below.heap_setCell _ _ _ _ (fun e => by simp at e; omega)).trans (h.block k hk hne)⟩
/-- A query is drawn; the reader is some steps further. -/
def QryDrawn (B c : Nat) (p : Int) (w : World) (e : Ending) (w' : World) : Prop :=
  ∃ x y p' : Int, e = .returned (.agg #[.int .i64 x, .int .i64 y]) ∧ p ≤ p' ∧ p' ≤ p + 2 ∧ Rd w' B c p' ∧ w.grownBy w' (some c)
set_option maxRecDepth 4000 in
set_option maxHeartbeats 1000000 in
theorem l9Query_any (B c : Nat) (p : Int) (w : World) (h : Rd w B c p) (hp : p ≤ 900000) :
    Calls Try.prog 30 #[.pointer (some ⟨c, 0, none⟩)] w (QryDrawn B c p w) := by
  have hlt := h.2.1
  have hBc := h.1
  obtain ⟨W, hW⟩ : ∃ W, W = w.alloc (.cells #[.int .i64 0, .int .i64 0] 28) := ⟨_, rfl⟩
  have HP := Lib.hid (show Box2h W w.heap.size 28 0 0 from by rw [hW]; exact Box2h.new _ _ _ _)
  have HR := Lib.hid (show Rd W B c p from by rw [hW]; exact h.kept (World.grownBy_alloc _ _ _))
  have HG := Lib.hid (show w.grownBy W (some c) from by rw [hW]; exact grown_alloc (grown_refl w c) _)
  have hWs := HP.out.lt
  clear h
  go_enter Try.func30, Try.ntmps30
  go_upto_region 1 with (fail)
  rw [← hW]
  clear hW
  go_wp2_with fail
  refine (num_any W.heap.size 7 [4, 6, 3, 2, 10, 1, 5] B c p _ (HR.out.kept (World.grownBy_alloc _ _ _)) (by omega) (ListAt.new W [4, 6, 3, 2, 10, 1, 5] _) (by omega) (by decide) (by decide)).mono ?_
  rintro e w1 ⟨x, rfl, -, hr1, hg1⟩
  have HR1 := Lib.hid hr1
  have HG1 := Lib.hid (grown_trans (grown_alloc HG.out _) hg1)
  have HP1 := Lib.hid ((HP.out.alloc9 _).grown9 hg1 (fun e => by have := Option.some.inj e; omega))
  clear hr1 hg1 HR HG HP
  go_wp2_with fail
  refine (num_any w1.heap.size 6 [2, 4, 1, 3, 6, 5] B c (p + 1) _ (HR1.out.kept (World.grownBy_alloc _ _ _)) (by omega) (ListAt.new w1 [2, 4, 1, 3, 6, 5] _) (by have := HR1.out.2.1; omega) (by decide) (by decide)).mono ?_
  rintro e w2 ⟨y, rfl, -, hr2, hg2⟩
  have HR2 := Lib.hid hr2
  have HG2 := Lib.hid (grown_trans (grown_alloc HG1.out _) hg2)
  have HP2 := Lib.hid ((HP1.out.alloc9 _).grown9 hg2 (fun e => by have := Option.some.inj e; omega))
  clear hr2 hg2 HR1 HG1 HP1
  obtain ⟨q0, q1⟩ := HP2.out.cells
  have q2 := HP2.out.free9
  go_wp2_with fail
  refine bodyPost_ret (by simp [results, Try.results30, go_sem, *]; try rfl) rfl ?_
  exact ⟨x, y, p + 1 + 1, rfl, by omega, by omega, rd_set9 (rd_set9 HR2.out (by omega) (by omega)) (by omega) (by omega), g_set9 (g_set9 HG2.out (Nat.le_refl _)) (Nat.le_refl _)⟩
/-- Queries are drawn, in new memory; the reader is some steps further. -/
def QrysDrawn (B c : Nat) (p : Int) (w : World) (e : Ending) (w' : World) : Prop :=
  ∃ (v : Value) (n : Nat) (l : List (Int × Int)) (p' : Int), e = .returned v ∧ OwnQy w' w.heap.size w'.heap.size v n l ∧ n ≤ 9 ∧ p ≤ p' ∧ p' ≤ p + 40 ∧ Rd w' B c p' ∧ w.grownBy w' (some c)
theorem addOut_len (l : List (Int × Int)) (q : Int × Int) : (Agg.addOut l q).length ≤ 8 := by
  unfold Agg.addOut
  split
  · rename_i h
    exact Agg.qrysOk_len h
  · simp
theorem qryRow_first {l : List (Int × Int)} (h : 0 < l.length) (y : Int) : ∃ l', (qryRow l).set 0 (.int .i64 y) = qryRow l' := by
  cases l with
  | nil => simp at h
  | cons q l => exact ⟨(y, q.2) :: l, by simp [qryRow, qryCells]⟩
theorem qrow_addr {w : World} {base n c : Nat} {a : Option Addr} {xs : List Value} (h : w.ownsRow base 28 2 (.slice a n c) n xs) (hn : n ≠ 0) : ∃ g, a = some ⟨g, 0, none⟩ ∧ base ≤ g ∧ g < w.heap.size := by
  rcases id h.2 with ⟨h1, _⟩ | ⟨g, cap, cur, h1, -⟩
  · simp at h1; omega
  · injection h1 with h1 h2 h3
    subst h1
    exact ⟨g, rfl, (h.lt g (by rfl)).1, (h.lt g (by rfl)).2⟩
theorem lit_kept {w w' : World} {g : Nat} {l : List Value} {row : Option Nat} (h : ∀ j u, l[j]? = some u → w.cell? ((⟨g, 0, none⟩ : Addr).add j) = some u) (hg : w.grownBy w' row) (hb : g < w.heap.size) (hr : row ≠ some g) :
    ∀ j u, l[j]? = some u → w'.cell? ((⟨g, 0, none⟩ : Addr).add j) = some u :=
  fun j u hj => by
    have := h j u hj
    rw [Addr.add_lit] at this ⊢
    exact (World.cell?_of_block (hg.block g hb (fun e => hr e.symm))).trans this
set_option maxRecDepth 8000 in
set_option maxHeartbeats 4000000 in
theorem l9Draw_any (B c : Nat) (p : Int) (w : World) (h : Rd w B c p) (hp : p ≤ 800000) :
    Calls Try.prog 25 #[.pointer (some ⟨c, 0, none⟩)] w (QrysDrawn B c p w) := by
  obtain ⟨i0, hi0, hz0, hz1, hz2⟩ := info_parts infoQy
  have hlt := h.2.1
  have hBc := h.1
  obtain ⟨W, hW⟩ : ∃ W, W = w.alloc (.cells #[] 28) := ⟨_, rfl⟩
  have HO := Lib.hid (show W.ownsRow w.heap.size 28 2 (.slice (some ⟨w.heap.size, 0, none⟩) 0 0) 0 (qryRow []) from by rw [hW]; exact own_emptyQ_new w)
  have HR := Lib.hid (show Rd W B c p from by rw [hW]; exact h.kept (World.grownBy_alloc _ _ _))
  have HG := Lib.hid (show w.grownBy W (some c) from by rw [hW]; exact grown_alloc (grown_refl w c) _)
  have hWs : w.heap.size < W.heap.size := by rw [hW]; simp
  clear h
  go_enter Try.func25, Try.ntmps25
  go_upto_region 2 with (fail)
  rw [← hW]
  clear hW
  go_wp2_with fail
  refine (num_any W.heap.size 5 [2, 1, 3, 0, 5] B c p _ (HR.out.kept (World.grownBy_alloc _ _ _)) (by omega) (ListAt.new W [2, 1, 3, 0, 5] _) (by omega) (by decide) (by decide)).mono ?_
  rintro e w1 ⟨m, rfl, hm, hr1, hg1⟩
  have hm5 : 0 ≤ m ∧ m ≤ 5 := by simp at hm; omega
  have HR1 := Lib.hid hr1
  have HG1 := Lib.hid (grown_trans (grown_alloc HG.out _) hg1)
  have HO1 := Lib.hid ((HO.out.alloc _).kept hg1 (.inr (fun e => by simp [Value.ownBlock] at e; omega)))
  clear hr1 hg1 HR HG HO hm hWs
  obtain ⟨hm0, hm1⟩ := hm5
  obtain ⟨mm, rfl⟩ := Int.eq_ofNat_of_zero_le hm0
  go_wp2
  go_loopw [3, 4] (fun ov i wr => ∃ (k n : Nat) (l : List (Int × Int)) (p' : Int), i = .int .i64 k ∧ k ≤ 5 ∧ n ≤ 8 ∧ Hid (wr.ownsRow w.heap.size 28 2 ov n (qryRow l)) ∧ p ≤ p' ∧ p' + 2 * k ≤ p + 1 + 10 ∧ Hid (Rd wr B c p') ∧ Hid (w.grownBy wr (some c))) (fun _ i _ => (intOf i).toNat)
  case atStart => exact ⟨mm, 0, [], p + 1, rfl, by omega, by omega, HO1, by omega, by omega, HR1, HG1⟩
  case round =>
    obtain ⟨k, n, l, p', rfl, hk5, hn8, ho, hpp, hpk, hr, hg⟩ := hrel
    clear HR1 HG1 HO1 hm0 hm1
    have hk00 : (0 : Int) ≤ (k : Int) := Int.natCast_nonneg _
    by_cases hk : k = 0
    · subst hk
      obtain ⟨a1, c1, rfl⟩ := qrow_slice ho.out
      have hn9 : n ≤ 9 := by omega
      by_cases hnz : n = 0
      · subst hnz
        have HOT := ho
        have HRT := hr
        have HGT := hg
        go_wp2_with fail
        go_returns
        exact ⟨_, 0, l, p', rfl, OwnQy.of HOT.out (Nat.le_refl _) HGT.out.size, by omega, by omega, by omega, HRT.out, HGT.out⟩
      · have hnp : (0 : Int) < (n : Int) := by omega
        go_wp2_with fail
        refine (pick_any _ B c p' _ hr.out (by omega) (by omega)).mono ?_
        rintro e w4 ⟨z, rfl, hz0', hz1', -, hr4, hg4⟩
        have HR4 := Lib.hid hr4
        have HG4 := Lib.hid (grown_trans hg.out hg4)
        have HO4 := Lib.hid (ho.out.kept hg4 (.inr (fun e => by have := (ho.out.lt c e).1; omega)))
        clear hz1' hr4 hg4 hr hg ho
        by_cases hz : z = 0
        · subst hz
          obtain ⟨g, rfl, hg0, hg1⟩ := qrow_addr HO4.out hnz
          obtain ⟨a', c', hvv, hq⟩ := (OwnQy.of (lo' := w.heap.size) HO4.out (Nat.le_refl _) HG4.out.size).ops
          obtain ⟨rfl, -, rfl⟩ := Value.slice.inj hvv
          have hll : l.length = n := hq.1
          have hnc : n ≤ c1 := hq.2.1
          have hcm : c1 ≤ 9223372036854775807 := by have := hq.2.2.1; unfold maxLen at this; omega
          have HQ := Lib.hid hq
          have HNW := Lib.hid (fun X (hX : Below w4.heap.size w4 X) => qrys_news (HQ.out.below hX))
          obtain ⟨x0, y0, HCS⟩ : ∃ x0 y0, Hid (∀ X, Below w4.heap.size w4 X → (X.cell? ⟨g, 0, none⟩ = some (.int .i64 x0) ∧ X.cell? ⟨g, 1, none⟩ = some (.int .i64 y0))) := by
            rcases hq.2.2.2 with h0 | ⟨b, off, hb, hbl, hcs⟩
            · omega
            · injection hb with hb
              injection hb with hb1 hb2 hb3
              subst hb1 hb2
              refine ⟨(l[0]?.getD (0, 0)).1, (l[0]?.getD (0, 0)).2, Lib.hid (fun X hX => ?_)⟩
              have := hcs 0 (by omega)
              simp only [Nat.zero_mul, Nat.zero_add] at this
              exact ⟨(hX.cell (p := ⟨g, 0, none⟩) hbl).trans this.1, (hX.cell (p := ⟨g, 1, none⟩) hbl).trans this.2⟩
          clear hvv hq
          go_upto_region 9 with (fail)
          refine wp_region_held_drew (S := (fun X => (X.cell? ⟨g, 0, none⟩ = some (.int .i64 x0) ∧ X.cell? ⟨g, 1, none⟩ = some (.int .i64 y0)))) (by kernel_rfl) (by exact HCS.out _ (Below.refl _ _).drew) (fun hHeld => ?_)
          have HT := Lib.hid (show Below w4.heap.size w4 w4.drew from (Below.refl _ _).drew)
          first | (refine wpAnyH_take (i := 1) (v := ?_) rfl (by kernel_rfl) (by kernel_rfl) (by kernel_rfl) (fun _ _ _ h => h) (Or.inl ⟨by rfl, ?_⟩) (by assumption) ?_; rotate_left; (intro X hSw; (try dsimp only at hSw); go_simp; (try with_reducible rfl)); (try simp only [Act.put, List.setIfInBounds_toArray, List.set_cons_zero, List.set_cons_succ, List.getElem_toArray, List.getElem_cons_zero, List.getElem_cons_succ])) | fail "take 1"
          first | (refine wpAnyH_take (i := 3) (v := ?_) rfl (by kernel_rfl) (by kernel_rfl) (by kernel_rfl) (fun _ _ _ h => h) (Or.inl ⟨by rfl, ?_⟩) (by assumption) ?_; rotate_left; (intro X hSw; (try dsimp only at hSw); go_simp; (try with_reducible rfl)); (try simp only [Act.put, List.setIfInBounds_toArray, List.set_cons_zero, List.set_cons_succ, List.getElem_toArray, List.getElem_cons_zero, List.getElem_cons_succ])) | fail "take 3"
          first | (refine wpAnyH_take (i := 4) (v := ?_) rfl (by kernel_rfl) (by kernel_rfl) (by kernel_rfl) (fun _ _ _ h => h) (Or.inl ⟨by rfl, ?_⟩) (by assumption) ?_; rotate_left; (intro X hSw; (try dsimp only at hSw); go_simp; (try with_reducible rfl)); (try simp only [Act.put, List.setIfInBounds_toArray, List.set_cons_zero, List.set_cons_succ, List.getElem_toArray, List.getElem_cons_zero, List.getElem_cons_succ])) | fail "take 4"
          first | (refine wpAnyH_take (i := 5) (v := ?_) rfl (by kernel_rfl) (by kernel_rfl) (by kernel_rfl) (fun _ _ _ h => h) (Or.inl ⟨by rfl, ?_⟩) (by assumption) ?_; rotate_left; (intro X hSw; (try dsimp only at hSw); go_simp; (try with_reducible rfl)); (try simp only [Act.put, List.setIfInBounds_toArray, List.set_cons_zero, List.set_cons_succ, List.getElem_toArray, List.getElem_cons_zero, List.getElem_cons_succ])) | fail "take 5"
          refine wpAnyH_ready (rs := [0, 6]) (by kernel_rfl) (by simp) ?_
          refine AllReadyH.cons rfl (fun K hK => ?_) (AllReadyH.cons rfl (fun K hK => ?_) AllReadyH.nil)
          · go_simp
            have HE := Lib.hid (show (w4.drew.alloc (.cells #[] 28)).ownsRow w4.heap.size 28 2 (.slice (some ⟨w4.heap.size, 0, none⟩) 0 0) 0 (qryRow []) from own_emptyQ_new w4.drew)
            have HT := Lib.hid (show Below w4.heap.size w4 (w4.drew.alloc (.cells #[] 28)) from HT.out.alloc (Nat.le_refl _) _)
            have hsz : (w4.drew.alloc (.cells #[] 28)).heap.size = w4.heap.size + 1 := by simp
            (try dsimp only)
            refine hK.out _ _ (by exact HCS.out _ HT.out) (fun hHeld => ?_)
            clear hK K
            (try simp only [Act.put, List.setIfInBounds_toArray, List.set_cons_zero, List.set_cons_succ, List.getElem_toArray, List.getElem_cons_zero, List.getElem_cons_succ])
            refine wpAnyH_ready (rs := [2, 6]) (by kernel_rfl) (by simp) ?_
            refine AllReadyH.cons rfl (fun K hK => ?_) (AllReadyH.cons rfl (fun K hK => ?_) AllReadyH.nil)
            · go_must (refine step_append_own (by rfl) (.tmp 32) (.tmp 33) 23 (by rfl) w4.heap.size 28 i0 (.agg #[.int .i64 0, .int .i64 0]) 2 16 Try.underlying23 hi0 hz0 hz1 hz2 rfl (by decide) (.slice (some ⟨w4.heap.size, 0, none⟩) 0 0) 0 (qryRow []) (by rfl) HE.out ⟨g, 0, none⟩ n c1 (qryRow l) (by rfl) (by rw [qryRow_length, hll]) (HNW.out _ HT.out) (qryRow_oneCell _) (by unfold maxLen; omega) (by omega) HT.out.size ?_)
              intro v1 u1 hown1 hgrow1 hnil1
              have HO := Lib.hid (show u1.ownsRow w4.heap.size 28 2 v1 n (qryRow l) from by simpa [qryRow] using hown1)
              have HT := Lib.hid (HT.out.grown hgrow1 HT.out.size (fun k hk => by simp [Value.ownBlock] at hk; omega))
              clear hown1 hgrow1 hnil1
              (try dsimp only)
              refine hK.out _ _ (by exact HCS.out _ HT.out) (fun hHeld => ?_)
              clear hK K
              (try simp only [Act.put, List.setIfInBounds_toArray, List.set_cons_zero, List.set_cons_succ, List.getElem_toArray, List.getElem_cons_zero, List.getElem_cons_succ])
              refine wpAnyH_ready (rs := [6]) (by kernel_rfl) (by simp) ?_
              refine AllReadyH.cons rfl (fun K hK => ?_) AllReadyH.nil
              go_simp
              have HLIT := Lib.hid (cell_two_newQ u1 x0 y0 28)
              have HO := Lib.hid (HO.out.alloc (.cells #[.int .i64 x0, .int .i64 y0] 28))
              have HT := Lib.hid (HT.out.alloc HT.out.size (.cells #[.int .i64 x0, .int .i64 y0] 28))
              (try dsimp only)
              refine hK.out _ _ (by exact HCS.out _ HT.out) (fun hHeld => ?_)
              clear hK K
              (try simp only [Act.put, List.setIfInBounds_toArray, List.set_cons_zero, List.set_cons_succ, List.getElem_toArray, List.getElem_cons_zero, List.getElem_cons_succ])
              refine wpAnyH_ready (rs := [7]) (by kernel_rfl) (by simp) ?_
              refine AllReadyH.cons rfl (fun K hK => ?_) AllReadyH.nil
              go_must (refine step_append_own (by rfl) (.tmp 34) (.tmp 38) 23 (by rfl) w4.heap.size 28 i0 (.agg #[.int .i64 0, .int .i64 0]) 2 16 Try.underlying23 hi0 hz0 hz1 hz2 rfl (by decide) _ n (qryRow l) (by rfl) HO.out ⟨u1.heap.size, 0, none⟩ 1 1 [.int .i64 x0, .int .i64 y0] (by rfl) (by rfl) HLIT.out (two_oneCellQ _ _) (by unfold maxLen; omega) (by omega) HT.out.size ?_)
              intro v2 w2 hown2 hgrow2 hnil2
              have HO2 := Lib.hid hown2
              have HT := Lib.hid (HT.out.grown hgrow2 HT.out.size (fun k hk => (HO.out.lt k hk).1))
              clear hown2 hgrow2 hnil2
              (try dsimp only)
              refine hK.out _ _ (by exact HCS.out _ HT.out) (fun hHeld => ?_)
              clear hK K
              (try simp only [Act.put, List.setIfInBounds_toArray, List.set_cons_zero, List.set_cons_succ, List.getElem_toArray, List.getElem_cons_zero, List.getElem_cons_succ])
              first | (refine wpAnyH_take (i := 8) (v := ?_) rfl (by kernel_rfl) (by kernel_rfl) (by kernel_rfl) (fun _ _ _ h => h) (Or.inl ⟨by rfl, ?_⟩) (by assumption) ?_; rotate_left; (intro X hSw; (try dsimp only at hSw); go_simp; (try with_reducible rfl)); (try simp only [Act.put, List.setIfInBounds_toArray, List.set_cons_zero, List.set_cons_succ, List.getElem_toArray, List.getElem_cons_zero, List.getElem_cons_succ])) | fail "take 8"
              refine wpAnyH_done (by kernel_rfl) ?_ _
              have hTs := HT.out.size
              obtain ⟨n, l, p', hn0, hn9, hpa, hpb, HOT, HRT, HGT⟩ : ∃ (m : Nat) (L : List (Int × Int)) (pt : Int), m ≠ 0 ∧ m ≤ 9 ∧ p ≤ pt ∧ pt ≤ p + 20 ∧ Hid (w2.ownsRow w.heap.size 28 2 v2 m (qryRow L)) ∧ Hid (Rd w2 B c pt) ∧ Hid (w.grownBy w2 (some c)) :=
                ⟨n + 1, l ++ [(x0, y0)], p' + 1, by omega, by omega, by omega, by omega, Lib.hid (by rw [qryRow_snoc]; exact owns_lower HO2.out HG4.out.size), Lib.hid (HR4.out.kept (Below.grownNone HT.out none)), Lib.hid (grown_new HG4.out (Below.grownNone HT.out none) (fun j hj => by simp at hj))⟩
              obtain ⟨a1, c1, rfl⟩ := qrow_slice HOT.out
              have hnp : (0 : Int) < (n : Int) := by omega
              obtain ⟨g, rfl, hg0, hg1⟩ := qrow_addr HOT.out hn0
              go_wp2_with fail
              refine (pick_any _ B c p' _ HRT.out (by omega) (by omega)).mono ?_
              rintro e wp ⟨x, rfl, hx0, hx1, -, hrp, hgp⟩
              have HRP := Lib.hid hrp
              have HGP := Lib.hid (grown_trans HGT.out hgp)
              have HOP := Lib.hid (HOT.out.kept hgp (.inr (fun e => by have := (HOT.out.lt c e).1; omega)))
              clear hx1 hrp hgp HRT HGT HOT
              by_cases hx : x = 0
              · subst hx
                go_wp2_with fail
                refine (num_any wp.heap.size 2 [0, 61] B c (p' + 1) _ (HRP.out.kept (World.grownBy_alloc _ _ _)) (by omega) (ListAt.new wp [0, 61] _) (by have := HRP.out.2.1; omega) (by decide) (by decide)).mono ?_
                rintro e wn ⟨y, rfl, -, hrn, hgn⟩
                have HRN := Lib.hid hrn
                have HON := Lib.hid ((HOP.out.alloc _).kept hgn (.inr (fun e => by have := (HOP.out.lt c e).1; omega)))
                have HGN := Lib.hid (grown_trans (grown_alloc HGP.out _) hgn)
                clear hrn hgn HRP HGP HOP
                have hll : l.length = n := by have := HON.out.1; rw [qryRow_length] at this; omega
                have hfr := HON.out.frozenAt 0
                have hln : (qryRow l).length = l.length * 2 := qryRow_length l
                obtain ⟨y0, hcd⟩ : ∃ y, wn.cell? ⟨g, 0, none⟩ = some y := ⟨_, (HON.out.cellAt 0 (by omega)).trans (List.getElem?_eq_getElem (by omega))⟩
                obtain ⟨l', hl'⟩ := qryRow_first (l := l) (by omega) y
                have HST := Lib.hid (show (wn.setCell ⟨g, 0, none⟩ (.int .i64 y)).ownsRow w.heap.size 28 2 _ n (qryRow l') from by
                  rw [← hl']; exact (HON.out.stored 0 (.int .i64 y)).1)
                clear hl'
                go_wp2_with fail
                go_returns
                exact ⟨_, n, l', p' + 1 + 1, rfl, OwnQy.of HST.out (Nat.le_refl _) (g_set9 HGN.out hg0).size, by omega, by omega, by omega, rd_set9 HRN.out (by omega) (by omega), g_set9 HGN.out hg0⟩
              · go_wp2_with fail
                go_returns
                exact ⟨_, n, l, p' + 1, rfl, OwnQy.of HOP.out (Nat.le_refl _) HGP.out.size, by omega, by omega, by omega, HRP.out, HGP.out⟩
            · go_simp
              have HLIT0 := cell_two_newQ (w4.drew.alloc (.cells #[] 28)) x0 y0 28
              rw [hsz] at HLIT0
              have HLIT := Lib.hid HLIT0
              have hsz2 : ((w4.drew.alloc (.cells #[] 28)).alloc (.cells #[.int .i64 x0, .int .i64 y0] 28)).heap.size = w4.heap.size + 1 + 1 := by simp
              have HE := Lib.hid (HE.out.alloc (.cells #[.int .i64 x0, .int .i64 y0] 28))
              have HT := Lib.hid (HT.out.alloc HT.out.size (.cells #[.int .i64 x0, .int .i64 y0] 28))
              clear HLIT0
              (try dsimp only)
              refine hK.out _ _ (by exact HCS.out _ HT.out) (fun hHeld => ?_)
              clear hK K
              (try simp only [Act.put, List.setIfInBounds_toArray, List.set_cons_zero, List.set_cons_succ, List.getElem_toArray, List.getElem_cons_zero, List.getElem_cons_succ])
              refine wpAnyH_ready (rs := [2]) (by kernel_rfl) (by simp) ?_
              refine AllReadyH.cons rfl (fun K hK => ?_) AllReadyH.nil
              go_must (refine step_append_own (by rfl) (.tmp 32) (.tmp 33) 23 (by rfl) w4.heap.size 28 i0 (.agg #[.int .i64 0, .int .i64 0]) 2 16 Try.underlying23 hi0 hz0 hz1 hz2 rfl (by decide) (.slice (some ⟨w4.heap.size, 0, none⟩) 0 0) 0 (qryRow []) (by rfl) HE.out ⟨g, 0, none⟩ n c1 (qryRow l) (by rfl) (by rw [qryRow_length, hll]) (HNW.out _ HT.out) (qryRow_oneCell _) (by unfold maxLen; omega) (by omega) HT.out.size ?_)
              intro v1 u1 hown1 hgrow1 hnil1
              have HO := Lib.hid (show u1.ownsRow w4.heap.size 28 2 v1 n (qryRow l) from by simpa [qryRow] using hown1)
              have HLIT := Lib.hid (lit_kept HLIT.out hgrow1 (by omega) (by simp [Value.ownBlock]))
              have HT := Lib.hid (HT.out.grown hgrow1 HT.out.size (fun k hk => by simp [Value.ownBlock] at hk; omega))
              clear hown1 hgrow1 hnil1
              (try dsimp only)
              refine hK.out _ _ (by exact HCS.out _ HT.out) (fun hHeld => ?_)
              clear hK K
              (try simp only [Act.put, List.setIfInBounds_toArray, List.set_cons_zero, List.set_cons_succ, List.getElem_toArray, List.getElem_cons_zero, List.getElem_cons_succ])
              refine wpAnyH_ready (rs := [7]) (by kernel_rfl) (by simp) ?_
              refine AllReadyH.cons rfl (fun K hK => ?_) AllReadyH.nil
              go_must (refine step_append_own (by rfl) (.tmp 34) (.tmp 38) 23 (by rfl) w4.heap.size 28 i0 (.agg #[.int .i64 0, .int .i64 0]) 2 16 Try.underlying23 hi0 hz0 hz1 hz2 rfl (by decide) _ n (qryRow l) (by rfl) HO.out ⟨w4.heap.size + 1, 0, none⟩ 1 1 [.int .i64 x0, .int .i64 y0] (by rfl) (by rfl) HLIT.out (two_oneCellQ _ _) (by unfold maxLen; omega) (by omega) HT.out.size ?_)
              intro v2 w2 hown2 hgrow2 hnil2
              have HO2 := Lib.hid hown2
              have HT := Lib.hid (HT.out.grown hgrow2 HT.out.size (fun k hk => (HO.out.lt k hk).1))
              clear hown2 hgrow2 hnil2
              (try dsimp only)
              refine hK.out _ _ (by exact HCS.out _ HT.out) (fun hHeld => ?_)
              clear hK K
              (try simp only [Act.put, List.setIfInBounds_toArray, List.set_cons_zero, List.set_cons_succ, List.getElem_toArray, List.getElem_cons_zero, List.getElem_cons_succ])
              first | (refine wpAnyH_take (i := 8) (v := ?_) rfl (by kernel_rfl) (by kernel_rfl) (by kernel_rfl) (fun _ _ _ h => h) (Or.inl ⟨by rfl, ?_⟩) (by assumption) ?_; rotate_left; (intro X hSw; (try dsimp only at hSw); go_simp; (try with_reducible rfl)); (try simp only [Act.put, List.setIfInBounds_toArray, List.set_cons_zero, List.set_cons_succ, List.getElem_toArray, List.getElem_cons_zero, List.getElem_cons_succ])) | fail "take 8"
              refine wpAnyH_done (by kernel_rfl) ?_ _
              have hTs := HT.out.size
              obtain ⟨n, l, p', hn0, hn9, hpa, hpb, HOT, HRT, HGT⟩ : ∃ (m : Nat) (L : List (Int × Int)) (pt : Int), m ≠ 0 ∧ m ≤ 9 ∧ p ≤ pt ∧ pt ≤ p + 20 ∧ Hid (w2.ownsRow w.heap.size 28 2 v2 m (qryRow L)) ∧ Hid (Rd w2 B c pt) ∧ Hid (w.grownBy w2 (some c)) :=
                ⟨n + 1, l ++ [(x0, y0)], p' + 1, by omega, by omega, by omega, by omega, Lib.hid (by rw [qryRow_snoc]; exact owns_lower HO2.out HG4.out.size), Lib.hid (HR4.out.kept (Below.grownNone HT.out none)), Lib.hid (grown_new HG4.out (Below.grownNone HT.out none) (fun j hj => by simp at hj))⟩
              obtain ⟨a1, c1, rfl⟩ := qrow_slice HOT.out
              have hnp : (0 : Int) < (n : Int) := by omega
              obtain ⟨g, rfl, hg0, hg1⟩ := qrow_addr HOT.out hn0
              go_wp2_with fail
              refine (pick_any _ B c p' _ HRT.out (by omega) (by omega)).mono ?_
              rintro e wp ⟨x, rfl, hx0, hx1, -, hrp, hgp⟩
              have HRP := Lib.hid hrp
              have HGP := Lib.hid (grown_trans HGT.out hgp)
              have HOP := Lib.hid (HOT.out.kept hgp (.inr (fun e => by have := (HOT.out.lt c e).1; omega)))
              clear hx1 hrp hgp HRT HGT HOT
              by_cases hx : x = 0
              · subst hx
                go_wp2_with fail
                refine (num_any wp.heap.size 2 [0, 61] B c (p' + 1) _ (HRP.out.kept (World.grownBy_alloc _ _ _)) (by omega) (ListAt.new wp [0, 61] _) (by have := HRP.out.2.1; omega) (by decide) (by decide)).mono ?_
                rintro e wn ⟨y, rfl, -, hrn, hgn⟩
                have HRN := Lib.hid hrn
                have HON := Lib.hid ((HOP.out.alloc _).kept hgn (.inr (fun e => by have := (HOP.out.lt c e).1; omega)))
                have HGN := Lib.hid (grown_trans (grown_alloc HGP.out _) hgn)
                clear hrn hgn HRP HGP HOP
                have hll : l.length = n := by have := HON.out.1; rw [qryRow_length] at this; omega
                have hfr := HON.out.frozenAt 0
                have hln : (qryRow l).length = l.length * 2 := qryRow_length l
                obtain ⟨y0, hcd⟩ : ∃ y, wn.cell? ⟨g, 0, none⟩ = some y := ⟨_, (HON.out.cellAt 0 (by omega)).trans (List.getElem?_eq_getElem (by omega))⟩
                obtain ⟨l', hl'⟩ := qryRow_first (l := l) (by omega) y
                have HST := Lib.hid (show (wn.setCell ⟨g, 0, none⟩ (.int .i64 y)).ownsRow w.heap.size 28 2 _ n (qryRow l') from by
                  rw [← hl']; exact (HON.out.stored 0 (.int .i64 y)).1)
                clear hl'
                go_wp2_with fail
                go_returns
                exact ⟨_, n, l', p' + 1 + 1, rfl, OwnQy.of HST.out (Nat.le_refl _) (g_set9 HGN.out hg0).size, by omega, by omega, by omega, rd_set9 HRN.out (by omega) (by omega), g_set9 HGN.out hg0⟩
              · go_wp2_with fail
                go_returns
                exact ⟨_, n, l, p' + 1, rfl, OwnQy.of HOP.out (Nat.le_refl _) HGP.out.size, by omega, by omega, by omega, HRP.out, HGP.out⟩
          · go_simp
            have HLIT := Lib.hid (show ∀ j u, [Value.int .i64 x0, Value.int .i64 y0][j]? = some u → (w4.drew.alloc (.cells #[.int .i64 x0, .int .i64 y0] 28)).cell? ((⟨w4.heap.size, 0, none⟩ : Addr).add j) = some u from cell_two_newQ w4.drew x0 y0 28)
            have HT := Lib.hid (show Below w4.heap.size w4 (w4.drew.alloc (.cells #[.int .i64 x0, .int .i64 y0] 28)) from HT.out.alloc (Nat.le_refl _) _)
            have hsz : (w4.drew.alloc (.cells #[.int .i64 x0, .int .i64 y0] 28)).heap.size = w4.heap.size + 1 := by simp
            (try dsimp only)
            refine hK.out _ _ (by exact HCS.out _ HT.out) (fun hHeld => ?_)
            clear hK K
            (try simp only [Act.put, List.setIfInBounds_toArray, List.set_cons_zero, List.set_cons_succ, List.getElem_toArray, List.getElem_cons_zero, List.getElem_cons_succ])
            refine wpAnyH_ready (rs := [0]) (by kernel_rfl) (by simp) ?_
            refine AllReadyH.cons rfl (fun K hK => ?_) AllReadyH.nil
            go_simp
            have HE0 := own_emptyQ_new (w4.drew.alloc (.cells #[.int .i64 x0, .int .i64 y0] 28))
            rw [hsz] at HE0
            have HE := Lib.hid (owns_lower HE0 (show w4.heap.size ≤ w4.heap.size + 1 by omega))
            have HLIT := Lib.hid (lit_kept HLIT.out (World.grownBy_alloc _ (.cells #[] 28) none) (by omega) (by simp))
            have HT := Lib.hid (HT.out.alloc HT.out.size (.cells #[] 28))
            have hsz2 : ((w4.drew.alloc (.cells #[.int .i64 x0, .int .i64 y0] 28)).alloc (.cells #[] 28)).heap.size = w4.heap.size + 1 + 1 := by simp
            clear HE0
            (try dsimp only)
            refine hK.out _ _ (by exact HCS.out _ HT.out) (fun hHeld => ?_)
            clear hK K
            (try simp only [Act.put, List.setIfInBounds_toArray, List.set_cons_zero, List.set_cons_succ, List.getElem_toArray, List.getElem_cons_zero, List.getElem_cons_succ])
            refine wpAnyH_ready (rs := [2]) (by kernel_rfl) (by simp) ?_
            refine AllReadyH.cons rfl (fun K hK => ?_) AllReadyH.nil
            go_must (refine step_append_own (by rfl) (.tmp 32) (.tmp 33) 23 (by rfl) w4.heap.size 28 i0 (.agg #[.int .i64 0, .int .i64 0]) 2 16 Try.underlying23 hi0 hz0 hz1 hz2 rfl (by decide) (.slice (some ⟨w4.heap.size + 1, 0, none⟩) 0 0) 0 (qryRow []) (by rfl) HE.out ⟨g, 0, none⟩ n c1 (qryRow l) (by rfl) (by rw [qryRow_length, hll]) (HNW.out _ HT.out) (qryRow_oneCell _) (by unfold maxLen; omega) (by omega) HT.out.size ?_)
            intro v1 u1 hown1 hgrow1 hnil1
            have HO := Lib.hid (show u1.ownsRow w4.heap.size 28 2 v1 n (qryRow l) from by simpa [qryRow] using hown1)
            have HLIT := Lib.hid (lit_kept HLIT.out hgrow1 (by omega) (by simp [Value.ownBlock]))
            have HT := Lib.hid (HT.out.grown hgrow1 HT.out.size (fun k hk => by simp [Value.ownBlock] at hk; omega))
            clear hown1 hgrow1 hnil1
            (try dsimp only)
            refine hK.out _ _ (by exact HCS.out _ HT.out) (fun hHeld => ?_)
            clear hK K
            (try simp only [Act.put, List.setIfInBounds_toArray, List.set_cons_zero, List.set_cons_succ, List.getElem_toArray, List.getElem_cons_zero, List.getElem_cons_succ])
            refine wpAnyH_ready (rs := [7]) (by kernel_rfl) (by simp) ?_
            refine AllReadyH.cons rfl (fun K hK => ?_) AllReadyH.nil
            go_must (refine step_append_own (by rfl) (.tmp 34) (.tmp 38) 23 (by rfl) w4.heap.size 28 i0 (.agg #[.int .i64 0, .int .i64 0]) 2 16 Try.underlying23 hi0 hz0 hz1 hz2 rfl (by decide) _ n (qryRow l) (by rfl) HO.out ⟨w4.heap.size, 0, none⟩ 1 1 [.int .i64 x0, .int .i64 y0] (by rfl) (by rfl) HLIT.out (two_oneCellQ _ _) (by unfold maxLen; omega) (by omega) HT.out.size ?_)
            intro v2 w2 hown2 hgrow2 hnil2
            have HO2 := Lib.hid hown2
            have HT := Lib.hid (HT.out.grown hgrow2 HT.out.size (fun k hk => (HO.out.lt k hk).1))
            clear hown2 hgrow2 hnil2
            (try dsimp only)
            refine hK.out _ _ (by exact HCS.out _ HT.out) (fun hHeld => ?_)
            clear hK K
            (try simp only [Act.put, List.setIfInBounds_toArray, List.set_cons_zero, List.set_cons_succ, List.getElem_toArray, List.getElem_cons_zero, List.getElem_cons_succ])
            first | (refine wpAnyH_take (i := 8) (v := ?_) rfl (by kernel_rfl) (by kernel_rfl) (by kernel_rfl) (fun _ _ _ h => h) (Or.inl ⟨by rfl, ?_⟩) (by assumption) ?_; rotate_left; (intro X hSw; (try dsimp only at hSw); go_simp; (try with_reducible rfl)); (try simp only [Act.put, List.setIfInBounds_toArray, List.set_cons_zero, List.set_cons_succ, List.getElem_toArray, List.getElem_cons_zero, List.getElem_cons_succ])) | fail "take 8"
            refine wpAnyH_done (by kernel_rfl) ?_ _
            have hTs := HT.out.size
            obtain ⟨n, l, p', hn0, hn9, hpa, hpb, HOT, HRT, HGT⟩ : ∃ (m : Nat) (L : List (Int × Int)) (pt : Int), m ≠ 0 ∧ m ≤ 9 ∧ p ≤ pt ∧ pt ≤ p + 20 ∧ Hid (w2.ownsRow w.heap.size 28 2 v2 m (qryRow L)) ∧ Hid (Rd w2 B c pt) ∧ Hid (w.grownBy w2 (some c)) :=
              ⟨n + 1, l ++ [(x0, y0)], p' + 1, by omega, by omega, by omega, by omega, Lib.hid (by rw [qryRow_snoc]; exact owns_lower HO2.out HG4.out.size), Lib.hid (HR4.out.kept (Below.grownNone HT.out none)), Lib.hid (grown_new HG4.out (Below.grownNone HT.out none) (fun j hj => by simp at hj))⟩
            obtain ⟨a1, c1, rfl⟩ := qrow_slice HOT.out
            have hnp : (0 : Int) < (n : Int) := by omega
            obtain ⟨g, rfl, hg0, hg1⟩ := qrow_addr HOT.out hn0
            go_wp2_with fail
            refine (pick_any _ B c p' _ HRT.out (by omega) (by omega)).mono ?_
            rintro e wp ⟨x, rfl, hx0, hx1, -, hrp, hgp⟩
            have HRP := Lib.hid hrp
            have HGP := Lib.hid (grown_trans HGT.out hgp)
            have HOP := Lib.hid (HOT.out.kept hgp (.inr (fun e => by have := (HOT.out.lt c e).1; omega)))
            clear hx1 hrp hgp HRT HGT HOT
            by_cases hx : x = 0
            · subst hx
              go_wp2_with fail
              refine (num_any wp.heap.size 2 [0, 61] B c (p' + 1) _ (HRP.out.kept (World.grownBy_alloc _ _ _)) (by omega) (ListAt.new wp [0, 61] _) (by have := HRP.out.2.1; omega) (by decide) (by decide)).mono ?_
              rintro e wn ⟨y, rfl, -, hrn, hgn⟩
              have HRN := Lib.hid hrn
              have HON := Lib.hid ((HOP.out.alloc _).kept hgn (.inr (fun e => by have := (HOP.out.lt c e).1; omega)))
              have HGN := Lib.hid (grown_trans (grown_alloc HGP.out _) hgn)
              clear hrn hgn HRP HGP HOP
              have hll : l.length = n := by have := HON.out.1; rw [qryRow_length] at this; omega
              have hfr := HON.out.frozenAt 0
              have hln : (qryRow l).length = l.length * 2 := qryRow_length l
              obtain ⟨y0, hcd⟩ : ∃ y, wn.cell? ⟨g, 0, none⟩ = some y := ⟨_, (HON.out.cellAt 0 (by omega)).trans (List.getElem?_eq_getElem (by omega))⟩
              obtain ⟨l', hl'⟩ := qryRow_first (l := l) (by omega) y
              have HST := Lib.hid (show (wn.setCell ⟨g, 0, none⟩ (.int .i64 y)).ownsRow w.heap.size 28 2 _ n (qryRow l') from by
                rw [← hl']; exact (HON.out.stored 0 (.int .i64 y)).1)
              clear hl'
              go_wp2_with fail
              go_returns
              exact ⟨_, n, l', p' + 1 + 1, rfl, OwnQy.of HST.out (Nat.le_refl _) (g_set9 HGN.out hg0).size, by omega, by omega, by omega, rd_set9 HRN.out (by omega) (by omega), g_set9 HGN.out hg0⟩
            · go_wp2_with fail
              go_returns
              exact ⟨_, n, l, p' + 1, rfl, OwnQy.of HOP.out (Nat.le_refl _) HGP.out.size, by omega, by omega, by omega, HRP.out, HGP.out⟩
        · have HOT := HO4
          obtain ⟨p', hpa, hpb, HRT⟩ : ∃ q, p ≤ q ∧ q ≤ p + 20 ∧ Hid (Rd w4 B c q) := ⟨p' + 1, by omega, by omega, HR4⟩
          have HGT := HG4
          have hn0 := hnz
          have hnp : (0 : Int) < (n : Int) := by omega
          obtain ⟨g, rfl, hg0, hg1⟩ := qrow_addr HOT.out hn0
          go_wp2_with fail
          refine (pick_any _ B c p' _ HRT.out (by omega) (by omega)).mono ?_
          rintro e wp ⟨x, rfl, hx0, hx1, -, hrp, hgp⟩
          have HRP := Lib.hid hrp
          have HGP := Lib.hid (grown_trans HGT.out hgp)
          have HOP := Lib.hid (HOT.out.kept hgp (.inr (fun e => by have := (HOT.out.lt c e).1; omega)))
          clear hx1 hrp hgp HRT HGT HOT
          by_cases hx : x = 0
          · subst hx
            go_wp2_with fail
            refine (num_any wp.heap.size 2 [0, 61] B c (p' + 1) _ (HRP.out.kept (World.grownBy_alloc _ _ _)) (by omega) (ListAt.new wp [0, 61] _) (by have := HRP.out.2.1; omega) (by decide) (by decide)).mono ?_
            rintro e wn ⟨y, rfl, -, hrn, hgn⟩
            have HRN := Lib.hid hrn
            have HON := Lib.hid ((HOP.out.alloc _).kept hgn (.inr (fun e => by have := (HOP.out.lt c e).1; omega)))
            have HGN := Lib.hid (grown_trans (grown_alloc HGP.out _) hgn)
            clear hrn hgn HRP HGP HOP
            have hll : l.length = n := by have := HON.out.1; rw [qryRow_length] at this; omega
            have hfr := HON.out.frozenAt 0
            have hln : (qryRow l).length = l.length * 2 := qryRow_length l
            obtain ⟨y0, hcd⟩ : ∃ y, wn.cell? ⟨g, 0, none⟩ = some y := ⟨_, (HON.out.cellAt 0 (by omega)).trans (List.getElem?_eq_getElem (by omega))⟩
            obtain ⟨l', hl'⟩ := qryRow_first (l := l) (by omega) y
            have HST := Lib.hid (show (wn.setCell ⟨g, 0, none⟩ (.int .i64 y)).ownsRow w.heap.size 28 2 _ n (qryRow l') from by
              rw [← hl']; exact (HON.out.stored 0 (.int .i64 y)).1)
            clear hl'
            go_wp2_with fail
            go_returns
            exact ⟨_, n, l', p' + 1 + 1, rfl, OwnQy.of HST.out (Nat.le_refl _) (g_set9 HGN.out hg0).size, by omega, by omega, by omega, rd_set9 HRN.out (by omega) (by omega), g_set9 HGN.out hg0⟩
          · go_wp2_with fail
            go_returns
            exact ⟨_, n, l, p' + 1, rfl, OwnQy.of HOP.out (Nat.le_refl _) HGP.out.size, by omega, by omega, by omega, HRP.out, HGP.out⟩
    · have hkp : (0 : Int) < (k : Int) := by omega
      obtain ⟨a1, c1, rfl, hq⟩ := (OwnQy.of (lo' := w.heap.size) ho.out (Nat.le_refl _) hg.out.size).ops
      have HQ := Lib.hid hq
      clear hq
      go_wp2_with fail
      refine (l9Query_any B c p' _ hr.out (by omega)).mono ?_
      rintro e w2 ⟨x, y, p2, rfl, hp1, hp2, hr2, hg2⟩
      have HR2 := Lib.hid hr2
      have HG2 := Lib.hid (grown_trans hg.out hg2)
      have HO2 := Lib.hid (ho.out.kept hg2 (.inr (fun e => by have := (ho.out.lt c e).1; omega)))
      clear hr2 hg2 hr ho HQ
      obtain ⟨a', c', hvv, hq⟩ := (OwnQy.of (lo' := w.heap.size) HO2.out (Nat.le_refl _) HG2.out.size).ops
      obtain ⟨rfl, -, rfl⟩ := Value.slice.inj hvv
      have HQ := Lib.hid hq
      clear hvv hq
      go_wp2_with fail
      refine (s_addQuery_any _ n _ l x y w2 HQ.out (by omega)).mono ?_
      rintro e w3 ⟨v, m, rfl, hov, hb3⟩
      have hlen := hov.len
      have hm8 := addOut_len l (x, y)
      have HOV := Lib.hid (owns_lower hov.1 HG2.out.size)
      have HO3 := Lib.hid (HO2.out.kept (Below.grownNone hb3 none) (Classical.em _))
      have HR3 := Lib.hid (HR2.out.kept (Below.grownNone hb3 none))
      have HG3 := Lib.hid (grown_new HG2.out (Below.grownNone hb3 none) (fun j hj => by simp at hj))
      obtain ⟨LO, hLO⟩ : ∃ LO, LO = Agg.addOut l (x, y) := ⟨_, rfl⟩
      rw [← hLO] at hlen hm8 HOV
      obtain ⟨b, hb⟩ : ∃ b, b = Agg.addOk l (x, y) := ⟨_, rfl⟩
      rw [← hb]
      clear hb hLO hov hb3 HR2 HG2 HO2 HQ hg
      cases b
      · go_wp2_with fail
        go_roundw
        case rel => exact ⟨k - 1, n, l, p2, by go_num, by omega, hn8, HO3, by omega, by omega, HR3, HG3⟩
        case measure => simp [intOf]; omega
      · go_wp2_with fail
        go_roundw
        case rel => exact ⟨k - 1, m, LO, p2, by go_num, by omega, by omega, HOV, by omega, by omega, HR3, HG3⟩
        case measure => simp [intOf]; omega
end Go.Proofs.Ytofpnmjadflebaa
