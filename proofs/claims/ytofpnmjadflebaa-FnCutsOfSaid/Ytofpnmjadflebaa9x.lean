/-
  Queries and a further one that the model draws.
-/
import Derived.Test.Ytofpnmjadflebaa9v
import Derived.Maps.AppendAt
namespace Go.Proofs.Ytofpnmjadflebaa
set_option linter.unusedSimpArgs false
set_option linter.unusedVariables false
open Go.RowKit
def sLen9 : Value → Nat
  | .slice _ n _ => n
  | _ => 0
theorem Box2h.other9 {w : World} {c d : Nat} {T : TypeId} {x y : Int} (h : Box2h w c T x y) (hd : c ≠ d) (o : Nat) (u : Value) : Box2h (w.setCell ⟨d, o, none⟩ u) c T x y := by
  unfold Box2h at *
  rw [Below.heap_setCell _ _ _ _ (by simpa using hd)]
  exact h
theorem Box2h.set0 {w : World} {c : Nat} {T : TypeId} {x y : Int} (h : Box2h w c T x y) (u : Int) : Box2h (w.setCell ⟨c, 0, none⟩ (.int .i64 u)) c T u y := by
  unfold Box2h at *
  simp only [World.setCell]
  rw [Array.getElem?_modify, if_pos rfl, h]
  simp
theorem Box2h.set1 {w : World} {c : Nat} {T : TypeId} {x y : Int} (h : Box2h w c T x y) (u : Int) : Box2h (w.setCell ⟨c, 1, none⟩ (.int .i64 u)) c T x u := by
  unfold Box2h at *
  simp only [World.setCell]
  rw [Array.getElem?_modify, if_pos rfl, h]
  simp
theorem own_setne {w : World} {base e size n g o : Nat} {v u : Value} {xs : List Value} (h : w.ownsRow base e size v n xs) (hne : v.ownBlock ≠ some g) : (w.setCell ⟨g, o, none⟩ u).ownsRow base e size v n xs :=
  h.kept (row := some g) ⟨rfl, rfl, rfl, by simp [World.setCell], fun k hk hkn => Below.heap_setCell _ _ _ _ (fun e => hkn (by rw [e]))⟩ (.inr hne)
/-- In the middle of the draw: the answer's variable r, the query's variable g, the row, the reader. -/
structure AddSt (w X : World) (B c base g : Nat) (v : Value) (n : Nat) (l : List (Int × Int)) (x y p : Int) : Prop where
  hp : Box2h X w.heap.size 28 0 0
  hq : Box2h X g 28 x y
  ow : X.ownsRow base 28 2 v n (qryRow l)
  ne : v.ownBlock ≠ some g
  rd : Rd X B c p
  be : Below w.heap.size w X
  s1 : w.heap.size < B ∧ B ≤ c ∧ c < base ∧ base ≤ g
theorem AddSt.read {w X X' : World} {B c base g n : Nat} {v : Value} {l : List (Int × Int)} {x y p p' : Int} (h : AddSt w X B c base g v n l x y p) (hg : X.grownBy X' (some c)) (hr : Rd X' B c p') : AddSt w X' B c base g v n l x y p' := by
  obtain ⟨a1, a2, a3, a4⟩ := h.s1
  exact ⟨h.hp.grown9 hg (fun e => by have := Option.some.inj e; omega), h.hq.grown9 hg (fun e => by have := Option.some.inj e; omega), h.ow.kept hg (.inr (fun e => by have := (h.ow.lt c e).1; omega)), h.ne, hr, h.be.grown hg h.be.size (fun k hk => by have := Option.some.inj hk; omega), h.s1⟩
theorem AddSt.alloc {w X : World} {B c base g n : Nat} {v : Value} {l : List (Int × Int)} {x y p : Int} (h : AddSt w X B c base g v n l x y p) (o : Obj) : AddSt w (X.alloc o) B c base g v n l x y p :=
  ⟨h.hp.alloc9 o, h.hq.alloc9 o, h.ow.alloc o, h.ne, h.rd.kept (World.grownBy_alloc _ _ _), h.be.alloc h.be.size o, h.s1⟩
theorem AddSt.setY {w X : World} {B c base g n : Nat} {v : Value} {l : List (Int × Int)} {x y p : Int} (h : AddSt w X B c base g v n l x y p) (u : Int) : AddSt w (X.setCell ⟨g, 1, none⟩ (.int .i64 u)) B c base g v n l x u p := by
  obtain ⟨a1, a2, a3, a4⟩ := h.s1
  exact ⟨h.hp.other9 (by omega) _ _, h.hq.set1 u, own_setne h.ow h.ne, h.ne, rd_set9 h.rd (by omega) (by omega), h.be.setCell (by show w.heap.size ≤ g; omega) _, h.s1⟩
theorem AddSt.setX {w X : World} {B c base g n : Nat} {v : Value} {l : List (Int × Int)} {x y p : Int} (h : AddSt w X B c base g v n l x y p) (u : Int) : AddSt w (X.setCell ⟨g, 0, none⟩ (.int .i64 u)) B c base g v n l u y p := by
  obtain ⟨a1, a2, a3, a4⟩ := h.s1
  exact ⟨h.hp.other9 (by omega) _ _, h.hq.set0 u, own_setne h.ow h.ne, h.ne, rd_set9 h.rd (by omega) (by omega), h.be.setCell (by show w.heap.size ≤ g; omega) _, h.s1⟩
theorem AddSt.app {w X X' : World} {B c base g n m : Nat} {v v' : Value} {l l' : List (Int × Int)} {x y p : Int} (h : AddSt w X B c base g v n l x y p) (ho : X'.ownsRow base 28 2 v' m (qryRow l')) (hg : X.grownBy X' v.ownBlock) (hat : v'.ownBlock = v.ownBlock ∨ v'.ownBlock = some X.heap.size) : AddSt w X' B c base g v' m l' x y p := by
  obtain ⟨a1, a2, a3, a4⟩ := h.s1
  have hlt : ∀ k, v.ownBlock = some k → base ≤ k := fun k hk => (h.ow.lt k hk).1
  refine ⟨h.hp.grown9 hg (fun e => by have := hlt _ e; omega), h.hq.grown9 hg h.ne, ho, ?_, h.rd.kept' hg (fun k hk => by have := hlt k hk; omega), h.be.grown hg h.be.size (fun k hk => by have := hlt k hk; omega), h.s1⟩
  rcases hat with e | e
  · rw [e]; exact h.ne
  · rw [e]
    intro e2
    have := Option.some.inj e2
    have := h.hq.lt
    omega
/-- Queries and a further one. -/
def AddDrawn (w : World) (e : Ending) (w' : World) : Prop :=
  ∃ (v : Value) (n : Nat) (l : List (Int × Int)) (x y : Int), e = .returned (.tuple #[v, .agg #[.int .i64 x, .int .i64 y]]) ∧ OwnQy w' w.heap.size w'.heap.size v n l ∧ n ≤ 9 ∧ Below w.heap.size w w'
set_option maxRecDepth 8000 in
set_option maxHeartbeats 4000000 in
theorem drawAddQuery_any (a : Option Addr) (n cap : Nat) (l : List Int) (w : World) (h : Bytes w a n cap l) :
    Calls Try.prog 12 #[.slice a n cap] w (AddDrawn w) := by
  obtain ⟨i0, hi0, hz0, hz1, hz2⟩ := info_parts infoQy
  obtain ⟨W, hW⟩ : ∃ W, W = w.alloc (.cells #[.int .i64 0, .int .i64 0] 28) := ⟨_, rfl⟩
  have HP := Lib.hid (show Box2h W w.heap.size 28 0 0 from by rw [hW]; exact Box2h.new _ _ _ _)
  have HW := Lib.hid (show Below w.heap.size w W from by rw [hW]; exact (Below.refl _ _).alloc (Nat.le_refl _) _)
  have hWs := HP.out.lt
  have HB := Lib.hid (show Bytes W a n cap l from by
    obtain ⟨h1, h2, h4⟩ := h
    refine ⟨h1, h2, ?_⟩
    rcases h4 with h4 | ⟨b, off, ha, hb, hc⟩
    · exact .inl h4
    · exact .inr ⟨b, off, ha, Nat.lt_of_lt_of_le hb HW.out.size, fun i hi => ⟨(HW.out.cell (p := ⟨b, off + i, none⟩) hb).trans (hc i hi).1, (hc i hi).2⟩⟩)
  clear h
  go_enter Try.func12, Try.ntmps12
  go_upto_region 1 with (fail)
  rw [← hW]
  clear hW
  go_wp2_with fail
  refine (open_any _ _ _ l _ HB.out).mono ?_
  rintro e w2 ⟨c, rfl, hr, hb⟩
  have hs2 := hb.size
  have hc1 := hr.1
  have hc2 := hr.2.1
  have HR := Lib.hid hr
  have HW2 := Lib.hid (HW.out.trans (hb.mono HW.out.size))
  have HP2 := Lib.hid (HP.out.call hb)
  clear hr hb HP HW HB
  go_wp2_with fail
  refine (l9Draw_any _ c _ _ HR.out (by omega)).mono ?_
  rintro e w3 ⟨v, n, l, p3, rfl, ho, hn9, hp3, hq3, hr3, hg3⟩
  have hs3 := hg3.size
  have HO3 := Lib.hid ho
  have HR3 := Lib.hid hr3
  have HG3 := Lib.hid hg3
  clear ho hr3 hg3
  go_wp2_with fail
  refine (l9Query_any _ c _ _ HR3.out (by omega)).mono ?_
  rintro e w4 ⟨x, y, p, rfl, hp4, hq4, hr4, hg4⟩
  have hs4 := hg4.size
  obtain ⟨W5, hW5⟩ : ∃ W5, W5 = w4.alloc (.cells #[.int .i64 x, .int .i64 y] 28) := ⟨_, rfl⟩
  obtain ⟨B, hBe⟩ : ∃ B, B = W.heap.size := ⟨_, rfl⟩
  obtain ⟨base, hba⟩ : ∃ base, base = w2.heap.size := ⟨_, rfl⟩
  obtain ⟨g, hgq⟩ : ∃ g, g = w4.heap.size := ⟨_, rfl⟩
  have HS := Lib.hid (show AddSt w W5 B c base g v n l x y p from by
    have hG := grown_trans HG3.out hg4
    refine ⟨?_, ?_, ?_, ?_, ?_, ?_, by omega⟩
    · rw [hW5]; exact (HP2.out.grown9 hG (fun e => by have := Option.some.inj e; omega)).alloc9 _
    · rw [hW5, hgq]; exact Box2h.new _ _ _ _
    · rw [hW5, hba]; exact (HO3.out.1.kept hg4 (.inr (fun e => by have := (HO3.out.1.lt c e).1; omega))).alloc _
    · intro e; have := HO3.out.2.2.2 _ e; omega
    · rw [hW5, hBe]; exact hr4.kept (World.grownBy_alloc _ _ _)
    · rw [hW5]; exact (HW2.out.grown hG HW2.out.size (fun k hk => by have := Option.some.inj hk; omega)).alloc (by have := HW2.out.size; omega) _)
  obtain ⟨a1, c1, rfl⟩ := qrow_slice HS.out.ow
  have hp0 : 0 ≤ p := by omega
  have hp1 : p ≤ 60 := by omega
  go_upto_region 4 with (fail)
  rw [← hW5, ← hgq]
  clear hW5 HO3 HR3 HG3 HP2 HW2 HR hr4 hg4 hBe hba hgq hs2 hs3 hs4 hp3 hq3 hp4 hq4 hc1 hc2 hWs
  by_cases hn0 : n = 0
  · subst hn0
    go_upto_region 6 with (fail)
    -- context: HS : AddSt at a world with x, y, p; n, l; the next is region 6
    go_wp2_with fail
    refine (pick_any _ B c p _ HS.out.rd (by omega) (by omega)).mono ?_
    rintro e w5 ⟨h5, rfl, hh0, hh1, -, hr5, hg5⟩
    have HS5 := Lib.hid (HS.out.read hg5 hr5)
    clear hh1 hr5 hg5 HS
    by_cases hh : h5 = 0
    · subst hh
      go_wp2_with fail
      refine (num_any w5.heap.size 2 [0, 61] B c (p + 1) _ (HS5.out.rd.kept (World.grownBy_alloc _ _ _)) (by omega) (ListAt.new w5 [0, 61] _) (by have := HS5.out.rd.2.1; omega) (by decide) (by decide)).mono ?_
      rintro e w6 ⟨y, rfl, -, hr6, hg6⟩
      have HS6 := Lib.hid ((HS5.out.alloc _).read hg6 hr6)
      clear hr6 hg6 HS5
      obtain ⟨q0, q1⟩ := HS6.out.hq.cells
      have q2 := HS6.out.hq.free9
      have HS := Lib.hid (HS6.out.setY y)
      clear HS6
      go_upto_region 8 with (fail)
      clear q0 q1 q2
      go_loopw [5] (fun ov wr => ∃ (k : Nat) (l : List (Int × Int)) (p : Int), k ≤ 9 ∧ sLen9 ov = k ∧ 0 ≤ p ∧ p + 9 ≤ 200 + k ∧ Hid (AddSt w wr B c base g ov k l x y p)) (fun ov _ => 9 - sLen9 ov)
      case atStart => exact ⟨_, _, _, hn9, rfl, by omega, by omega, HS⟩
      case round =>
        obtain ⟨k, l, p, hk9, hsl, hp0, hp1, HS⟩ := hrel
        obtain ⟨a1, c1, rfl⟩ := qrow_slice HS.out.ow
        go_wp2_with fail
        refine (pick_any _ B c p _ HS.out.rd (by omega) (by omega)).mono ?_
        rintro e w7 ⟨z, rfl, hz0', hz1', -, hr7, hg7⟩
        have HS7 := Lib.hid (HS.out.read hg7 hr7)
        clear hz1' hr7 hg7 HS
        by_cases hz : z = 0 ∧ k < 8
        · obtain ⟨rfl, hk8⟩ := hz
          have hk8' : (k : Int) < 8 := by omega
          have hk00 : (0 : Int) ≤ (k : Int) := Int.natCast_nonneg _
          go_wp2_with (at_builtin; go_must (refine wpList_append_own_at _ rfl (.tmp 39) (.tmp 44) 23 rfl base 28 i0 (.agg #[.int .i64 0, .int .i64 0]) 2 16 Try.underlying23 hi0 hz0 hz1 hz2 rfl (by decide) _ _ _ rfl (HS7.out.ow.alloc _) ⟨w7.heap.size, 0, none⟩ 1 1 [.int .i64 (20 + (k : Int)), .int .i64 1] rfl rfl (cell_two_newQ _ _ _ _) (two_oneCellQ _ _) (by unfold maxLen; omega) (by omega) (by have := HS7.out.hq.lt; have := HS7.out.s1; simp; omega) ?_); intro v8 w8 hown8 hgrow8 hnil8 hat8)
          have HS8 := Lib.hid (AddSt.app (l' := l ++ [(20 + (k : Int), 1)]) (HS7.out.alloc _) (by rw [qryRow_snoc]; exact hown8) hgrow8 hat8)
          clear hown8 hgrow8 hnil8 hat8
          obtain ⟨a8, c8, rfl⟩ := qrow_slice HS8.out.ow
          go_wp2_with fail
          go_roundw
          case rel => first | exact ⟨k + 1, _, _, by omega, rfl, by omega, by omega, HS8⟩ | exact ⟨_, _, _, _, _, _, _, _, _, _, _, _, _, _, _, _, ⟨k + 1, _, _, by omega, rfl, by omega, by omega, HS8⟩, by first | rfl | rw [hhb] | (rw [hhb]; rfl) | (simp only [hhb]; rfl)⟩
          case measure => simp [sLen9]; omega
        · have HEND := True.intro
          have hzk : z = 0 → ¬ ((k : Int) < 8) := fun h h2 => hz ⟨h, by omega⟩
          by_cases hz2' : z = 0
          · have hk8 := hzk hz2'
            subst hz2'
            go_wp2_with fail
            obtain ⟨q0, q1⟩ := HS7.out.hq.cells
            refine wp_region_held_drew (S := (fun X => (X.cell? ⟨g, 0, none⟩ = some (.int .i64 x) ∧ X.cell? ⟨g, 1, none⟩ = some (.int .i64 y)))) (by kernel_rfl) (by exact ⟨q0, q1⟩) (fun hHeld => ?_)
            first | (refine wpAnyH_take (i := 0) (v := ?_) rfl (by kernel_rfl) (by kernel_rfl) (by kernel_rfl) (fun _ _ _ h => h) (Or.inl ⟨by rfl, ?_⟩) (by assumption) ?_; rotate_left; (intro X hSw; (try dsimp only at hSw); go_simp; (try with_reducible rfl)); (try simp only [Act.put, List.setIfInBounds_toArray, List.set_cons_zero, List.set_cons_succ, List.getElem_toArray, List.getElem_cons_zero, List.getElem_cons_succ])) | fail "take 0"
            first | (refine wpAnyH_take (i := 1) (v := ?_) rfl (by kernel_rfl) (by kernel_rfl) (by kernel_rfl) (fun _ _ _ h => h) (Or.inl ⟨by rfl, ?_⟩) (by assumption) ?_; rotate_left; (intro X hSw; (try dsimp only at hSw); go_simp; (try with_reducible rfl)); (try simp only [Act.put, List.setIfInBounds_toArray, List.set_cons_zero, List.set_cons_succ, List.getElem_toArray, List.getElem_cons_zero, List.getElem_cons_succ])) | fail "take 1"
            first | (refine wpAnyH_take (i := 2) (v := ?_) rfl (by kernel_rfl) (by kernel_rfl) (by kernel_rfl) (fun _ _ _ h => h) (Or.inl ⟨by rfl, ?_⟩) (by assumption) ?_; rotate_left; (intro X hSw; (try dsimp only at hSw); go_simp; (try with_reducible rfl)); (try simp only [Act.put, List.setIfInBounds_toArray, List.set_cons_zero, List.set_cons_succ, List.getElem_toArray, List.getElem_cons_zero, List.getElem_cons_succ])) | fail "take 2"
            refine wpAnyH_ready (rs := [3]) (by kernel_rfl) (by simp) ?_
            refine AllReadyH.cons rfl (fun K hK => ?_) AllReadyH.nil
            obtain ⟨r0, r1⟩ := HS7.out.hp.cells
            have r2 := HS7.out.hp.free9
            have hrg : w.heap.size ≠ g := by have := HS7.out.s1; omega
            have HQ9 := Lib.hid ((HS7.out.hq.other9 (Ne.symm hrg) 0 (.int .i64 x)).other9 (Ne.symm hrg) 1 (.int .i64 y))
            go_simp
            (try dsimp only)
            refine hK.out _ _ (by exact HQ9.out.cells) (fun hHeld => ?_)
            clear hK K
            (try simp only [Act.put, List.setIfInBounds_toArray, List.set_cons_zero, List.set_cons_succ, List.getElem_toArray, List.getElem_cons_zero, List.getElem_cons_succ])
            refine wpAnyH_done (by kernel_rfl) ?_ _
            have HOE := Lib.hid (show OwnQy ((w7.drew.setCell ⟨w.heap.size, 0, none⟩ (.int .i64 x)).setCell ⟨w.heap.size, 1, none⟩ (.int .i64 y)) w.heap.size _ _ k l from OwnQy.of (own_setne (own_setne (show w7.drew.ownsRow base 28 2 _ k (qryRow l) from HS7.out.ow) (fun e => by have := (HS7.out.ow.lt _ e).1; have := HS7.out.s1; omega)) (fun e => by have := (HS7.out.ow.lt _ e).1; have := HS7.out.s1; omega)) (by have := HS7.out.s1; omega) (by simpa [World.setCell] using HS7.out.be.size))
            have HBE := Lib.hid (show Below w.heap.size w ((w7.drew.setCell ⟨w.heap.size, 0, none⟩ (.int .i64 x)).setCell ⟨w.heap.size, 1, none⟩ (.int .i64 y)) from (HS7.out.be.drew.setCell (Nat.le_refl _) _).setCell (Nat.le_refl _) _)
            clear q0 q1
            go_wp2_with fail
            refine bodyPost_ret (by simp [results, Try.results12, go_sem, *]; try rfl) rfl ?_
            exact ⟨_, k, l, x, y, rfl, HOE.out, hk9, HBE.out⟩
          · go_wp2_with fail
            obtain ⟨q0, q1⟩ := HS7.out.hq.cells
            refine wp_region_held_drew (S := (fun X => (X.cell? ⟨g, 0, none⟩ = some (.int .i64 x) ∧ X.cell? ⟨g, 1, none⟩ = some (.int .i64 y)))) (by kernel_rfl) (by exact ⟨q0, q1⟩) (fun hHeld => ?_)
            first | (refine wpAnyH_take (i := 0) (v := ?_) rfl (by kernel_rfl) (by kernel_rfl) (by kernel_rfl) (fun _ _ _ h => h) (Or.inl ⟨by rfl, ?_⟩) (by assumption) ?_; rotate_left; (intro X hSw; (try dsimp only at hSw); go_simp; (try with_reducible rfl)); (try simp only [Act.put, List.setIfInBounds_toArray, List.set_cons_zero, List.set_cons_succ, List.getElem_toArray, List.getElem_cons_zero, List.getElem_cons_succ])) | fail "take 0"
            first | (refine wpAnyH_take (i := 1) (v := ?_) rfl (by kernel_rfl) (by kernel_rfl) (by kernel_rfl) (fun _ _ _ h => h) (Or.inl ⟨by rfl, ?_⟩) (by assumption) ?_; rotate_left; (intro X hSw; (try dsimp only at hSw); go_simp; (try with_reducible rfl)); (try simp only [Act.put, List.setIfInBounds_toArray, List.set_cons_zero, List.set_cons_succ, List.getElem_toArray, List.getElem_cons_zero, List.getElem_cons_succ])) | fail "take 1"
            first | (refine wpAnyH_take (i := 2) (v := ?_) rfl (by kernel_rfl) (by kernel_rfl) (by kernel_rfl) (fun _ _ _ h => h) (Or.inl ⟨by rfl, ?_⟩) (by assumption) ?_; rotate_left; (intro X hSw; (try dsimp only at hSw); go_simp; (try with_reducible rfl)); (try simp only [Act.put, List.setIfInBounds_toArray, List.set_cons_zero, List.set_cons_succ, List.getElem_toArray, List.getElem_cons_zero, List.getElem_cons_succ])) | fail "take 2"
            refine wpAnyH_ready (rs := [3]) (by kernel_rfl) (by simp) ?_
            refine AllReadyH.cons rfl (fun K hK => ?_) AllReadyH.nil
            obtain ⟨r0, r1⟩ := HS7.out.hp.cells
            have r2 := HS7.out.hp.free9
            have hrg : w.heap.size ≠ g := by have := HS7.out.s1; omega
            have HQ9 := Lib.hid ((HS7.out.hq.other9 (Ne.symm hrg) 0 (.int .i64 x)).other9 (Ne.symm hrg) 1 (.int .i64 y))
            go_simp
            (try dsimp only)
            refine hK.out _ _ (by exact HQ9.out.cells) (fun hHeld => ?_)
            clear hK K
            (try simp only [Act.put, List.setIfInBounds_toArray, List.set_cons_zero, List.set_cons_succ, List.getElem_toArray, List.getElem_cons_zero, List.getElem_cons_succ])
            refine wpAnyH_done (by kernel_rfl) ?_ _
            have HOE := Lib.hid (show OwnQy ((w7.drew.setCell ⟨w.heap.size, 0, none⟩ (.int .i64 x)).setCell ⟨w.heap.size, 1, none⟩ (.int .i64 y)) w.heap.size _ _ k l from OwnQy.of (own_setne (own_setne (show w7.drew.ownsRow base 28 2 _ k (qryRow l) from HS7.out.ow) (fun e => by have := (HS7.out.ow.lt _ e).1; have := HS7.out.s1; omega)) (fun e => by have := (HS7.out.ow.lt _ e).1; have := HS7.out.s1; omega)) (by have := HS7.out.s1; omega) (by simpa [World.setCell] using HS7.out.be.size))
            have HBE := Lib.hid (show Below w.heap.size w ((w7.drew.setCell ⟨w.heap.size, 0, none⟩ (.int .i64 x)).setCell ⟨w.heap.size, 1, none⟩ (.int .i64 y)) from (HS7.out.be.drew.setCell (Nat.le_refl _) _).setCell (Nat.le_refl _) _)
            clear q0 q1
            go_wp2_with fail
            refine bodyPost_ret (by simp [results, Try.results12, go_sem, *]; try rfl) rfl ?_
            exact ⟨_, k, l, x, y, rfl, HOE.out, hk9, HBE.out⟩
    · have HS := HS5
      clear HS5
      have hhb : (h5 == 0) = false := by simpa using hh
      go_upto_region 8 with (fail)
      go_loopw [5] (fun ov wr => ∃ (k : Nat) (l : List (Int × Int)) (p : Int), k ≤ 9 ∧ sLen9 ov = k ∧ 0 ≤ p ∧ p + 9 ≤ 200 + k ∧ Hid (AddSt w wr B c base g ov k l x y p)) (fun ov _ => 9 - sLen9 ov)
      case atStart => exact ⟨_, _, _, hn9, rfl, by omega, by omega, HS⟩
      case round =>
        obtain ⟨k, l, p, hk9, hsl, hp0, hp1, HS⟩ := hrel
        obtain ⟨a1, c1, rfl⟩ := qrow_slice HS.out.ow
        go_wp2_with fail
        refine (pick_any _ B c p _ HS.out.rd (by omega) (by omega)).mono ?_
        rintro e w7 ⟨z, rfl, hz0', hz1', -, hr7, hg7⟩
        have HS7 := Lib.hid (HS.out.read hg7 hr7)
        clear hz1' hr7 hg7 HS
        by_cases hz : z = 0 ∧ k < 8
        · obtain ⟨rfl, hk8⟩ := hz
          have hk8' : (k : Int) < 8 := by omega
          have hk00 : (0 : Int) ≤ (k : Int) := Int.natCast_nonneg _
          go_wp2_with (at_builtin; go_must (refine wpList_append_own_at _ rfl (.tmp 39) (.tmp 44) 23 rfl base 28 i0 (.agg #[.int .i64 0, .int .i64 0]) 2 16 Try.underlying23 hi0 hz0 hz1 hz2 rfl (by decide) _ _ _ rfl (HS7.out.ow.alloc _) ⟨w7.heap.size, 0, none⟩ 1 1 [.int .i64 (20 + (k : Int)), .int .i64 1] rfl rfl (cell_two_newQ _ _ _ _) (two_oneCellQ _ _) (by unfold maxLen; omega) (by omega) (by have := HS7.out.hq.lt; have := HS7.out.s1; simp; omega) ?_); intro v8 w8 hown8 hgrow8 hnil8 hat8)
          have HS8 := Lib.hid (AddSt.app (l' := l ++ [(20 + (k : Int), 1)]) (HS7.out.alloc _) (by rw [qryRow_snoc]; exact hown8) hgrow8 hat8)
          clear hown8 hgrow8 hnil8 hat8
          obtain ⟨a8, c8, rfl⟩ := qrow_slice HS8.out.ow
          go_wp2_with fail
          go_roundw
          case rel => first | exact ⟨k + 1, _, _, by omega, rfl, by omega, by omega, HS8⟩ | exact ⟨_, _, _, _, _, _, _, _, _, _, _, _, _, _, _, _, ⟨k + 1, _, _, by omega, rfl, by omega, by omega, HS8⟩, by first | rfl | rw [hhb] | (rw [hhb]; rfl) | (simp only [hhb]; rfl)⟩
          case measure => simp [sLen9]; omega
        · have HEND := True.intro
          have hzk : z = 0 → ¬ ((k : Int) < 8) := fun h h2 => hz ⟨h, by omega⟩
          by_cases hz2' : z = 0
          · have hk8 := hzk hz2'
            subst hz2'
            go_wp2_with fail
            obtain ⟨q0, q1⟩ := HS7.out.hq.cells
            refine wp_region_held_drew (S := (fun X => (X.cell? ⟨g, 0, none⟩ = some (.int .i64 x) ∧ X.cell? ⟨g, 1, none⟩ = some (.int .i64 y)))) (by kernel_rfl) (by exact ⟨q0, q1⟩) (fun hHeld => ?_)
            first | (refine wpAnyH_take (i := 0) (v := ?_) rfl (by kernel_rfl) (by kernel_rfl) (by kernel_rfl) (fun _ _ _ h => h) (Or.inl ⟨by rfl, ?_⟩) (by assumption) ?_; rotate_left; (intro X hSw; (try dsimp only at hSw); go_simp; (try with_reducible rfl)); (try simp only [Act.put, List.setIfInBounds_toArray, List.set_cons_zero, List.set_cons_succ, List.getElem_toArray, List.getElem_cons_zero, List.getElem_cons_succ])) | fail "take 0"
            first | (refine wpAnyH_take (i := 1) (v := ?_) rfl (by kernel_rfl) (by kernel_rfl) (by kernel_rfl) (fun _ _ _ h => h) (Or.inl ⟨by rfl, ?_⟩) (by assumption) ?_; rotate_left; (intro X hSw; (try dsimp only at hSw); go_simp; (try with_reducible rfl)); (try simp only [Act.put, List.setIfInBounds_toArray, List.set_cons_zero, List.set_cons_succ, List.getElem_toArray, List.getElem_cons_zero, List.getElem_cons_succ])) | fail "take 1"
            first | (refine wpAnyH_take (i := 2) (v := ?_) rfl (by kernel_rfl) (by kernel_rfl) (by kernel_rfl) (fun _ _ _ h => h) (Or.inl ⟨by rfl, ?_⟩) (by assumption) ?_; rotate_left; (intro X hSw; (try dsimp only at hSw); go_simp; (try with_reducible rfl)); (try simp only [Act.put, List.setIfInBounds_toArray, List.set_cons_zero, List.set_cons_succ, List.getElem_toArray, List.getElem_cons_zero, List.getElem_cons_succ])) | fail "take 2"
            refine wpAnyH_ready (rs := [3]) (by kernel_rfl) (by simp) ?_
            refine AllReadyH.cons rfl (fun K hK => ?_) AllReadyH.nil
            obtain ⟨r0, r1⟩ := HS7.out.hp.cells
            have r2 := HS7.out.hp.free9
            have hrg : w.heap.size ≠ g := by have := HS7.out.s1; omega
            have HQ9 := Lib.hid ((HS7.out.hq.other9 (Ne.symm hrg) 0 (.int .i64 x)).other9 (Ne.symm hrg) 1 (.int .i64 y))
            go_simp
            (try dsimp only)
            refine hK.out _ _ (by exact HQ9.out.cells) (fun hHeld => ?_)
            clear hK K
            (try simp only [Act.put, List.setIfInBounds_toArray, List.set_cons_zero, List.set_cons_succ, List.getElem_toArray, List.getElem_cons_zero, List.getElem_cons_succ])
            refine wpAnyH_done (by kernel_rfl) ?_ _
            have HOE := Lib.hid (show OwnQy ((w7.drew.setCell ⟨w.heap.size, 0, none⟩ (.int .i64 x)).setCell ⟨w.heap.size, 1, none⟩ (.int .i64 y)) w.heap.size _ _ k l from OwnQy.of (own_setne (own_setne (show w7.drew.ownsRow base 28 2 _ k (qryRow l) from HS7.out.ow) (fun e => by have := (HS7.out.ow.lt _ e).1; have := HS7.out.s1; omega)) (fun e => by have := (HS7.out.ow.lt _ e).1; have := HS7.out.s1; omega)) (by have := HS7.out.s1; omega) (by simpa [World.setCell] using HS7.out.be.size))
            have HBE := Lib.hid (show Below w.heap.size w ((w7.drew.setCell ⟨w.heap.size, 0, none⟩ (.int .i64 x)).setCell ⟨w.heap.size, 1, none⟩ (.int .i64 y)) from (HS7.out.be.drew.setCell (Nat.le_refl _) _).setCell (Nat.le_refl _) _)
            clear q0 q1
            go_wp2_with fail
            refine bodyPost_ret (by simp [results, Try.results12, go_sem, *]; try rfl) rfl ?_
            exact ⟨_, k, l, x, y, rfl, HOE.out, hk9, HBE.out⟩
          · go_wp2_with fail
            obtain ⟨q0, q1⟩ := HS7.out.hq.cells
            refine wp_region_held_drew (S := (fun X => (X.cell? ⟨g, 0, none⟩ = some (.int .i64 x) ∧ X.cell? ⟨g, 1, none⟩ = some (.int .i64 y)))) (by kernel_rfl) (by exact ⟨q0, q1⟩) (fun hHeld => ?_)
            first | (refine wpAnyH_take (i := 0) (v := ?_) rfl (by kernel_rfl) (by kernel_rfl) (by kernel_rfl) (fun _ _ _ h => h) (Or.inl ⟨by rfl, ?_⟩) (by assumption) ?_; rotate_left; (intro X hSw; (try dsimp only at hSw); go_simp; (try with_reducible rfl)); (try simp only [Act.put, List.setIfInBounds_toArray, List.set_cons_zero, List.set_cons_succ, List.getElem_toArray, List.getElem_cons_zero, List.getElem_cons_succ])) | fail "take 0"
            first | (refine wpAnyH_take (i := 1) (v := ?_) rfl (by kernel_rfl) (by kernel_rfl) (by kernel_rfl) (fun _ _ _ h => h) (Or.inl ⟨by rfl, ?_⟩) (by assumption) ?_; rotate_left; (intro X hSw; (try dsimp only at hSw); go_simp; (try with_reducible rfl)); (try simp only [Act.put, List.setIfInBounds_toArray, List.set_cons_zero, List.set_cons_succ, List.getElem_toArray, List.getElem_cons_zero, List.getElem_cons_succ])) | fail "take 1"
            first | (refine wpAnyH_take (i := 2) (v := ?_) rfl (by kernel_rfl) (by kernel_rfl) (by kernel_rfl) (fun _ _ _ h => h) (Or.inl ⟨by rfl, ?_⟩) (by assumption) ?_; rotate_left; (intro X hSw; (try dsimp only at hSw); go_simp; (try with_reducible rfl)); (try simp only [Act.put, List.setIfInBounds_toArray, List.set_cons_zero, List.set_cons_succ, List.getElem_toArray, List.getElem_cons_zero, List.getElem_cons_succ])) | fail "take 2"
            refine wpAnyH_ready (rs := [3]) (by kernel_rfl) (by simp) ?_
            refine AllReadyH.cons rfl (fun K hK => ?_) AllReadyH.nil
            obtain ⟨r0, r1⟩ := HS7.out.hp.cells
            have r2 := HS7.out.hp.free9
            have hrg : w.heap.size ≠ g := by have := HS7.out.s1; omega
            have HQ9 := Lib.hid ((HS7.out.hq.other9 (Ne.symm hrg) 0 (.int .i64 x)).other9 (Ne.symm hrg) 1 (.int .i64 y))
            go_simp
            (try dsimp only)
            refine hK.out _ _ (by exact HQ9.out.cells) (fun hHeld => ?_)
            clear hK K
            (try simp only [Act.put, List.setIfInBounds_toArray, List.set_cons_zero, List.set_cons_succ, List.getElem_toArray, List.getElem_cons_zero, List.getElem_cons_succ])
            refine wpAnyH_done (by kernel_rfl) ?_ _
            have HOE := Lib.hid (show OwnQy ((w7.drew.setCell ⟨w.heap.size, 0, none⟩ (.int .i64 x)).setCell ⟨w.heap.size, 1, none⟩ (.int .i64 y)) w.heap.size _ _ k l from OwnQy.of (own_setne (own_setne (show w7.drew.ownsRow base 28 2 _ k (qryRow l) from HS7.out.ow) (fun e => by have := (HS7.out.ow.lt _ e).1; have := HS7.out.s1; omega)) (fun e => by have := (HS7.out.ow.lt _ e).1; have := HS7.out.s1; omega)) (by have := HS7.out.s1; omega) (by simpa [World.setCell] using HS7.out.be.size))
            have HBE := Lib.hid (show Below w.heap.size w ((w7.drew.setCell ⟨w.heap.size, 0, none⟩ (.int .i64 x)).setCell ⟨w.heap.size, 1, none⟩ (.int .i64 y)) from (HS7.out.be.drew.setCell (Nat.le_refl _) _).setCell (Nat.le_refl _) _)
            clear q0 q1
            go_wp2_with fail
            refine bodyPost_ret (by simp [results, Try.results12, go_sem, *]; try rfl) rfl ?_
            exact ⟨_, k, l, x, y, rfl, HOE.out, hk9, HBE.out⟩
  · have hnp : (0 : Int) < (n : Int) := by omega
    go_wp2_with fail
    refine (pick_any _ B c p _ HS.out.rd (by omega) (by omega)).mono ?_
    rintro e w9 ⟨z, rfl, hz0', hz1', -, hr9, hg9⟩
    have HS9 := Lib.hid (HS.out.read hg9 hr9)
    clear hz1' hr9 hg9 HS
    by_cases hz : z = 0
    · subst hz
      obtain ⟨gl, rfl, -, -⟩ := qrow_addr HS9.out.ow hn0
      obtain ⟨a', c', hvv, hq⟩ := (OwnQy.of (lo' := base) HS9.out.ow (Nat.le_refl _) (by have := HS9.out.hq.lt; have := HS9.out.s1; omega)).ops
      obtain ⟨rfl, -, rfl⟩ := Value.slice.inj hvv
      obtain ⟨x, y, hx0, hy0⟩ : ∃ x0 y0, w9.cell? ⟨gl, 0, none⟩ = some (.int .i64 x0) ∧ w9.cell? ⟨gl, 1, none⟩ = some (.int .i64 y0) := by
        rcases hq.2.2.2 with h0 | ⟨b, off, hb, hbl, hcs⟩
        · omega
        · injection hb with hb
          injection hb with hb1 hb2 hb3
          subst hb1 hb2
          have := hcs 0 (by omega)
          simp only [Nat.zero_mul, Nat.zero_add] at this
          exact ⟨_, _, this.1, this.2⟩
      clear hvv hq
      obtain ⟨q0, q1⟩ := HS9.out.hq.cells
      have q2 := HS9.out.hq.free9
      obtain ⟨p, hp0, hp1, HS⟩ : ∃ p', 0 ≤ p' ∧ p' ≤ 100 ∧ Hid (AddSt w ((w9.setCell ⟨g, 0, none⟩ (.int .i64 x)).setCell ⟨g, 1, none⟩ (.int .i64 y)) B c base g _ n l x y p') := ⟨p + 1, by omega, by omega, Lib.hid ((HS9.out.setX x).setY y)⟩
      go_upto_region 6 with (fail)
      clear q0 q1 q2 HS9
      -- context: HS : AddSt at a world with x, y, p; n, l; the next is region 6
      go_wp2_with fail
      refine (pick_any _ B c p _ HS.out.rd (by omega) (by omega)).mono ?_
      rintro e w5 ⟨h5, rfl, hh0, hh1, -, hr5, hg5⟩
      have HS5 := Lib.hid (HS.out.read hg5 hr5)
      clear hh1 hr5 hg5 HS
      by_cases hh : h5 = 0
      · subst hh
        go_wp2_with fail
        refine (num_any w5.heap.size 2 [0, 61] B c (p + 1) _ (HS5.out.rd.kept (World.grownBy_alloc _ _ _)) (by omega) (ListAt.new w5 [0, 61] _) (by have := HS5.out.rd.2.1; omega) (by decide) (by decide)).mono ?_
        rintro e w6 ⟨y, rfl, -, hr6, hg6⟩
        have HS6 := Lib.hid ((HS5.out.alloc _).read hg6 hr6)
        clear hr6 hg6 HS5
        obtain ⟨q0, q1⟩ := HS6.out.hq.cells
        have q2 := HS6.out.hq.free9
        have HS := Lib.hid (HS6.out.setY y)
        clear HS6
        go_upto_region 8 with (fail)
        clear q0 q1 q2
        go_loopw [5] (fun ov wr => ∃ (k : Nat) (l : List (Int × Int)) (p : Int), k ≤ 9 ∧ sLen9 ov = k ∧ 0 ≤ p ∧ p + 9 ≤ 200 + k ∧ Hid (AddSt w wr B c base g ov k l x y p)) (fun ov _ => 9 - sLen9 ov)
        case atStart => exact ⟨_, _, _, hn9, rfl, by omega, by omega, HS⟩
        case round =>
          obtain ⟨k, l, p, hk9, hsl, hp0, hp1, HS⟩ := hrel
          obtain ⟨a1, c1, rfl⟩ := qrow_slice HS.out.ow
          go_wp2_with fail
          refine (pick_any _ B c p _ HS.out.rd (by omega) (by omega)).mono ?_
          rintro e w7 ⟨z, rfl, hz0', hz1', -, hr7, hg7⟩
          have HS7 := Lib.hid (HS.out.read hg7 hr7)
          clear hz1' hr7 hg7 HS
          by_cases hz : z = 0 ∧ k < 8
          · obtain ⟨rfl, hk8⟩ := hz
            have hk8' : (k : Int) < 8 := by omega
            have hk00 : (0 : Int) ≤ (k : Int) := Int.natCast_nonneg _
            go_wp2_with (at_builtin; go_must (refine wpList_append_own_at _ rfl (.tmp 39) (.tmp 44) 23 rfl base 28 i0 (.agg #[.int .i64 0, .int .i64 0]) 2 16 Try.underlying23 hi0 hz0 hz1 hz2 rfl (by decide) _ _ _ rfl (HS7.out.ow.alloc _) ⟨w7.heap.size, 0, none⟩ 1 1 [.int .i64 (20 + (k : Int)), .int .i64 1] rfl rfl (cell_two_newQ _ _ _ _) (two_oneCellQ _ _) (by unfold maxLen; omega) (by omega) (by have := HS7.out.hq.lt; have := HS7.out.s1; simp; omega) ?_); intro v8 w8 hown8 hgrow8 hnil8 hat8)
            have HS8 := Lib.hid (AddSt.app (l' := l ++ [(20 + (k : Int), 1)]) (HS7.out.alloc _) (by rw [qryRow_snoc]; exact hown8) hgrow8 hat8)
            clear hown8 hgrow8 hnil8 hat8
            obtain ⟨a8, c8, rfl⟩ := qrow_slice HS8.out.ow
            go_wp2_with fail
            go_roundw
            case rel => first | exact ⟨k + 1, _, _, by omega, rfl, by omega, by omega, HS8⟩ | exact ⟨_, _, _, _, _, _, _, _, _, _, _, _, _, _, _, _, ⟨k + 1, _, _, by omega, rfl, by omega, by omega, HS8⟩, by first | rfl | rw [hhb] | (rw [hhb]; rfl) | (simp only [hhb]; rfl)⟩
            case measure => simp [sLen9]; omega
          · have HEND := True.intro
            have hzk : z = 0 → ¬ ((k : Int) < 8) := fun h h2 => hz ⟨h, by omega⟩
            by_cases hz2' : z = 0
            · have hk8 := hzk hz2'
              subst hz2'
              go_wp2_with fail
              obtain ⟨q0, q1⟩ := HS7.out.hq.cells
              refine wp_region_held_drew (S := (fun X => (X.cell? ⟨g, 0, none⟩ = some (.int .i64 x) ∧ X.cell? ⟨g, 1, none⟩ = some (.int .i64 y)))) (by kernel_rfl) (by exact ⟨q0, q1⟩) (fun hHeld => ?_)
              first | (refine wpAnyH_take (i := 0) (v := ?_) rfl (by kernel_rfl) (by kernel_rfl) (by kernel_rfl) (fun _ _ _ h => h) (Or.inl ⟨by rfl, ?_⟩) (by assumption) ?_; rotate_left; (intro X hSw; (try dsimp only at hSw); go_simp; (try with_reducible rfl)); (try simp only [Act.put, List.setIfInBounds_toArray, List.set_cons_zero, List.set_cons_succ, List.getElem_toArray, List.getElem_cons_zero, List.getElem_cons_succ])) | fail "take 0"
              first | (refine wpAnyH_take (i := 1) (v := ?_) rfl (by kernel_rfl) (by kernel_rfl) (by kernel_rfl) (fun _ _ _ h => h) (Or.inl ⟨by rfl, ?_⟩) (by assumption) ?_; rotate_left; (intro X hSw; (try dsimp only at hSw); go_simp; (try with_reducible rfl)); (try simp only [Act.put, List.setIfInBounds_toArray, List.set_cons_zero, List.set_cons_succ, List.getElem_toArray, List.getElem_cons_zero, List.getElem_cons_succ])) | fail "take 1"
              first | (refine wpAnyH_take (i := 2) (v := ?_) rfl (by kernel_rfl) (by kernel_rfl) (by kernel_rfl) (fun _ _ _ h => h) (Or.inl ⟨by rfl, ?_⟩) (by assumption) ?_; rotate_left; (intro X hSw; (try dsimp only at hSw); go_simp; (try with_reducible rfl)); (try simp only [Act.put, List.setIfInBounds_toArray, List.set_cons_zero, List.set_cons_succ, List.getElem_toArray, List.getElem_cons_zero, List.getElem_cons_succ])) | fail "take 2"
              refine wpAnyH_ready (rs := [3]) (by kernel_rfl) (by simp) ?_
              refine AllReadyH.cons rfl (fun K hK => ?_) AllReadyH.nil
              obtain ⟨r0, r1⟩ := HS7.out.hp.cells
              have r2 := HS7.out.hp.free9
              have hrg : w.heap.size ≠ g := by have := HS7.out.s1; omega
              have HQ9 := Lib.hid ((HS7.out.hq.other9 (Ne.symm hrg) 0 (.int .i64 x)).other9 (Ne.symm hrg) 1 (.int .i64 y))
              go_simp
              (try dsimp only)
              refine hK.out _ _ (by exact HQ9.out.cells) (fun hHeld => ?_)
              clear hK K
              (try simp only [Act.put, List.setIfInBounds_toArray, List.set_cons_zero, List.set_cons_succ, List.getElem_toArray, List.getElem_cons_zero, List.getElem_cons_succ])
              refine wpAnyH_done (by kernel_rfl) ?_ _
              have HOE := Lib.hid (show OwnQy ((w7.drew.setCell ⟨w.heap.size, 0, none⟩ (.int .i64 x)).setCell ⟨w.heap.size, 1, none⟩ (.int .i64 y)) w.heap.size _ _ k l from OwnQy.of (own_setne (own_setne (show w7.drew.ownsRow base 28 2 _ k (qryRow l) from HS7.out.ow) (fun e => by have := (HS7.out.ow.lt _ e).1; have := HS7.out.s1; omega)) (fun e => by have := (HS7.out.ow.lt _ e).1; have := HS7.out.s1; omega)) (by have := HS7.out.s1; omega) (by simpa [World.setCell] using HS7.out.be.size))
              have HBE := Lib.hid (show Below w.heap.size w ((w7.drew.setCell ⟨w.heap.size, 0, none⟩ (.int .i64 x)).setCell ⟨w.heap.size, 1, none⟩ (.int .i64 y)) from (HS7.out.be.drew.setCell (Nat.le_refl _) _).setCell (Nat.le_refl _) _)
              clear q0 q1
              go_wp2_with fail
              refine bodyPost_ret (by simp [results, Try.results12, go_sem, *]; try rfl) rfl ?_
              exact ⟨_, k, l, x, y, rfl, HOE.out, hk9, HBE.out⟩
            · go_wp2_with fail
              obtain ⟨q0, q1⟩ := HS7.out.hq.cells
              refine wp_region_held_drew (S := (fun X => (X.cell? ⟨g, 0, none⟩ = some (.int .i64 x) ∧ X.cell? ⟨g, 1, none⟩ = some (.int .i64 y)))) (by kernel_rfl) (by exact ⟨q0, q1⟩) (fun hHeld => ?_)
              first | (refine wpAnyH_take (i := 0) (v := ?_) rfl (by kernel_rfl) (by kernel_rfl) (by kernel_rfl) (fun _ _ _ h => h) (Or.inl ⟨by rfl, ?_⟩) (by assumption) ?_; rotate_left; (intro X hSw; (try dsimp only at hSw); go_simp; (try with_reducible rfl)); (try simp only [Act.put, List.setIfInBounds_toArray, List.set_cons_zero, List.set_cons_succ, List.getElem_toArray, List.getElem_cons_zero, List.getElem_cons_succ])) | fail "take 0"
              first | (refine wpAnyH_take (i := 1) (v := ?_) rfl (by kernel_rfl) (by kernel_rfl) (by kernel_rfl) (fun _ _ _ h => h) (Or.inl ⟨by rfl, ?_⟩) (by assumption) ?_; rotate_left; (intro X hSw; (try dsimp only at hSw); go_simp; (try with_reducible rfl)); (try simp only [Act.put, List.setIfInBounds_toArray, List.set_cons_zero, List.set_cons_succ, List.getElem_toArray, List.getElem_cons_zero, List.getElem_cons_succ])) | fail "take 1"
              first | (refine wpAnyH_take (i := 2) (v := ?_) rfl (by kernel_rfl) (by kernel_rfl) (by kernel_rfl) (fun _ _ _ h => h) (Or.inl ⟨by rfl, ?_⟩) (by assumption) ?_; rotate_left; (intro X hSw; (try dsimp only at hSw); go_simp; (try with_reducible rfl)); (try simp only [Act.put, List.setIfInBounds_toArray, List.set_cons_zero, List.set_cons_succ, List.getElem_toArray, List.getElem_cons_zero, List.getElem_cons_succ])) | fail "take 2"
              refine wpAnyH_ready (rs := [3]) (by kernel_rfl) (by simp) ?_
              refine AllReadyH.cons rfl (fun K hK => ?_) AllReadyH.nil
              obtain ⟨r0, r1⟩ := HS7.out.hp.cells
              have r2 := HS7.out.hp.free9
              have hrg : w.heap.size ≠ g := by have := HS7.out.s1; omega
              have HQ9 := Lib.hid ((HS7.out.hq.other9 (Ne.symm hrg) 0 (.int .i64 x)).other9 (Ne.symm hrg) 1 (.int .i64 y))
              go_simp
              (try dsimp only)
              refine hK.out _ _ (by exact HQ9.out.cells) (fun hHeld => ?_)
              clear hK K
              (try simp only [Act.put, List.setIfInBounds_toArray, List.set_cons_zero, List.set_cons_succ, List.getElem_toArray, List.getElem_cons_zero, List.getElem_cons_succ])
              refine wpAnyH_done (by kernel_rfl) ?_ _
              have HOE := Lib.hid (show OwnQy ((w7.drew.setCell ⟨w.heap.size, 0, none⟩ (.int .i64 x)).setCell ⟨w.heap.size, 1, none⟩ (.int .i64 y)) w.heap.size _ _ k l from OwnQy.of (own_setne (own_setne (show w7.drew.ownsRow base 28 2 _ k (qryRow l) from HS7.out.ow) (fun e => by have := (HS7.out.ow.lt _ e).1; have := HS7.out.s1; omega)) (fun e => by have := (HS7.out.ow.lt _ e).1; have := HS7.out.s1; omega)) (by have := HS7.out.s1; omega) (by simpa [World.setCell] using HS7.out.be.size))
              have HBE := Lib.hid (show Below w.heap.size w ((w7.drew.setCell ⟨w.heap.size, 0, none⟩ (.int .i64 x)).setCell ⟨w.heap.size, 1, none⟩ (.int .i64 y)) from (HS7.out.be.drew.setCell (Nat.le_refl _) _).setCell (Nat.le_refl _) _)
              clear q0 q1
              go_wp2_with fail
              refine bodyPost_ret (by simp [results, Try.results12, go_sem, *]; try rfl) rfl ?_
              exact ⟨_, k, l, x, y, rfl, HOE.out, hk9, HBE.out⟩
      · have HS := HS5
        clear HS5
        have hhb : (h5 == 0) = false := by simpa using hh
        go_upto_region 8 with (fail)
        go_loopw [5] (fun ov wr => ∃ (k : Nat) (l : List (Int × Int)) (p : Int), k ≤ 9 ∧ sLen9 ov = k ∧ 0 ≤ p ∧ p + 9 ≤ 200 + k ∧ Hid (AddSt w wr B c base g ov k l x y p)) (fun ov _ => 9 - sLen9 ov)
        case atStart => exact ⟨_, _, _, hn9, rfl, by omega, by omega, HS⟩
        case round =>
          obtain ⟨k, l, p, hk9, hsl, hp0, hp1, HS⟩ := hrel
          obtain ⟨a1, c1, rfl⟩ := qrow_slice HS.out.ow
          go_wp2_with fail
          refine (pick_any _ B c p _ HS.out.rd (by omega) (by omega)).mono ?_
          rintro e w7 ⟨z, rfl, hz0', hz1', -, hr7, hg7⟩
          have HS7 := Lib.hid (HS.out.read hg7 hr7)
          clear hz1' hr7 hg7 HS
          by_cases hz : z = 0 ∧ k < 8
          · obtain ⟨rfl, hk8⟩ := hz
            have hk8' : (k : Int) < 8 := by omega
            have hk00 : (0 : Int) ≤ (k : Int) := Int.natCast_nonneg _
            go_wp2_with (at_builtin; go_must (refine wpList_append_own_at _ rfl (.tmp 39) (.tmp 44) 23 rfl base 28 i0 (.agg #[.int .i64 0, .int .i64 0]) 2 16 Try.underlying23 hi0 hz0 hz1 hz2 rfl (by decide) _ _ _ rfl (HS7.out.ow.alloc _) ⟨w7.heap.size, 0, none⟩ 1 1 [.int .i64 (20 + (k : Int)), .int .i64 1] rfl rfl (cell_two_newQ _ _ _ _) (two_oneCellQ _ _) (by unfold maxLen; omega) (by omega) (by have := HS7.out.hq.lt; have := HS7.out.s1; simp; omega) ?_); intro v8 w8 hown8 hgrow8 hnil8 hat8)
            have HS8 := Lib.hid (AddSt.app (l' := l ++ [(20 + (k : Int), 1)]) (HS7.out.alloc _) (by rw [qryRow_snoc]; exact hown8) hgrow8 hat8)
            clear hown8 hgrow8 hnil8 hat8
            obtain ⟨a8, c8, rfl⟩ := qrow_slice HS8.out.ow
            go_wp2_with fail
            go_roundw
            case rel => first | exact ⟨k + 1, _, _, by omega, rfl, by omega, by omega, HS8⟩ | exact ⟨_, _, _, _, _, _, _, _, _, _, _, _, _, _, _, _, ⟨k + 1, _, _, by omega, rfl, by omega, by omega, HS8⟩, by first | rfl | rw [hhb] | (rw [hhb]; rfl) | (simp only [hhb]; rfl)⟩
            case measure => simp [sLen9]; omega
          · have HEND := True.intro
            have hzk : z = 0 → ¬ ((k : Int) < 8) := fun h h2 => hz ⟨h, by omega⟩
            by_cases hz2' : z = 0
            · have hk8 := hzk hz2'
              subst hz2'
              go_wp2_with fail
              obtain ⟨q0, q1⟩ := HS7.out.hq.cells
              refine wp_region_held_drew (S := (fun X => (X.cell? ⟨g, 0, none⟩ = some (.int .i64 x) ∧ X.cell? ⟨g, 1, none⟩ = some (.int .i64 y)))) (by kernel_rfl) (by exact ⟨q0, q1⟩) (fun hHeld => ?_)
              first | (refine wpAnyH_take (i := 0) (v := ?_) rfl (by kernel_rfl) (by kernel_rfl) (by kernel_rfl) (fun _ _ _ h => h) (Or.inl ⟨by rfl, ?_⟩) (by assumption) ?_; rotate_left; (intro X hSw; (try dsimp only at hSw); go_simp; (try with_reducible rfl)); (try simp only [Act.put, List.setIfInBounds_toArray, List.set_cons_zero, List.set_cons_succ, List.getElem_toArray, List.getElem_cons_zero, List.getElem_cons_succ])) | fail "take 0"
              first | (refine wpAnyH_take (i := 1) (v := ?_) rfl (by kernel_rfl) (by kernel_rfl) (by kernel_rfl) (fun _ _ _ h => h) (Or.inl ⟨by rfl, ?_⟩) (by assumption) ?_; rotate_left; (intro X hSw; (try dsimp only at hSw); go_simp; (try with_reducible rfl)); (try simp only [Act.put, List.setIfInBounds_toArray, List.set_cons_zero, List.set_cons_succ, List.getElem_toArray, List.getElem_cons_zero, List.getElem_cons_succ])) | fail "take 1"
              first | (refine wpAnyH_take (i := 2) (v := ?_) rfl (by kernel_rfl) (by kernel_rfl) (by kernel_rfl) (fun _ _ _ h => h) (Or.inl ⟨by rfl, ?_⟩) (by assumption) ?_; rotate_left; (intro X hSw; (try dsimp only at hSw); go_simp; (try with_reducible rfl)); (try simp only [Act.put, List.setIfInBounds_toArray, List.set_cons_zero, List.set_cons_succ, List.getElem_toArray, List.getElem_cons_zero, List.getElem_cons_succ])) | fail "take 2"
              refine wpAnyH_ready (rs := [3]) (by kernel_rfl) (by simp) ?_
              refine AllReadyH.cons rfl (fun K hK => ?_) AllReadyH.nil
              obtain ⟨r0, r1⟩ := HS7.out.hp.cells
              have r2 := HS7.out.hp.free9
              have hrg : w.heap.size ≠ g := by have := HS7.out.s1; omega
              have HQ9 := Lib.hid ((HS7.out.hq.other9 (Ne.symm hrg) 0 (.int .i64 x)).other9 (Ne.symm hrg) 1 (.int .i64 y))
              go_simp
              (try dsimp only)
              refine hK.out _ _ (by exact HQ9.out.cells) (fun hHeld => ?_)
              clear hK K
              (try simp only [Act.put, List.setIfInBounds_toArray, List.set_cons_zero, List.set_cons_succ, List.getElem_toArray, List.getElem_cons_zero, List.getElem_cons_succ])
              refine wpAnyH_done (by kernel_rfl) ?_ _
              have HOE := Lib.hid (show OwnQy ((w7.drew.setCell ⟨w.heap.size, 0, none⟩ (.int .i64 x)).setCell ⟨w.heap.size, 1, none⟩ (.int .i64 y)) w.heap.size _ _ k l from OwnQy.of (own_setne (own_setne (show w7.drew.ownsRow base 28 2 _ k (qryRow l) from HS7.out.ow) (fun e => by have := (HS7.out.ow.lt _ e).1; have := HS7.out.s1; omega)) (fun e => by have := (HS7.out.ow.lt _ e).1; have := HS7.out.s1; omega)) (by have := HS7.out.s1; omega) (by simpa [World.setCell] using HS7.out.be.size))
              have HBE := Lib.hid (show Below w.heap.size w ((w7.drew.setCell ⟨w.heap.size, 0, none⟩ (.int .i64 x)).setCell ⟨w.heap.size, 1, none⟩ (.int .i64 y)) from (HS7.out.be.drew.setCell (Nat.le_refl _) _).setCell (Nat.le_refl _) _)
              clear q0 q1
              go_wp2_with fail
              refine bodyPost_ret (by simp [results, Try.results12, go_sem, *]; try rfl) rfl ?_
              exact ⟨_, k, l, x, y, rfl, HOE.out, hk9, HBE.out⟩
            · go_wp2_with fail
              obtain ⟨q0, q1⟩ := HS7.out.hq.cells
              refine wp_region_held_drew (S := (fun X => (X.cell? ⟨g, 0, none⟩ = some (.int .i64 x) ∧ X.cell? ⟨g, 1, none⟩ = some (.int .i64 y)))) (by kernel_rfl) (by exact ⟨q0, q1⟩) (fun hHeld => ?_)
              first | (refine wpAnyH_take (i := 0) (v := ?_) rfl (by kernel_rfl) (by kernel_rfl) (by kernel_rfl) (fun _ _ _ h => h) (Or.inl ⟨by rfl, ?_⟩) (by assumption) ?_; rotate_left; (intro X hSw; (try dsimp only at hSw); go_simp; (try with_reducible rfl)); (try simp only [Act.put, List.setIfInBounds_toArray, List.set_cons_zero, List.set_cons_succ, List.getElem_toArray, List.getElem_cons_zero, List.getElem_cons_succ])) | fail "take 0"
              first | (refine wpAnyH_take (i := 1) (v := ?_) rfl (by kernel_rfl) (by kernel_rfl) (by kernel_rfl) (fun _ _ _ h => h) (Or.inl ⟨by rfl, ?_⟩) (by assumption) ?_; rotate_left; (intro X hSw; (try dsimp only at hSw); go_simp; (try with_reducible rfl)); (try simp only [Act.put, List.setIfInBounds_toArray, List.set_cons_zero, List.set_cons_succ, List.getElem_toArray, List.getElem_cons_zero, List.getElem_cons_succ])) | fail "take 1"
              first | (refine wpAnyH_take (i := 2) (v := ?_) rfl (by kernel_rfl) (by kernel_rfl) (by kernel_rfl) (fun _ _ _ h => h) (Or.inl ⟨by rfl, ?_⟩) (by assumption) ?_; rotate_left; (intro X hSw; (try dsimp only at hSw); go_simp; (try with_reducible rfl)); (try simp only [Act.put, List.setIfInBounds_toArray, List.set_cons_zero, List.set_cons_succ, List.getElem_toArray, List.getElem_cons_zero, List.getElem_cons_succ])) | fail "take 2"
              refine wpAnyH_ready (rs := [3]) (by kernel_rfl) (by simp) ?_
              refine AllReadyH.cons rfl (fun K hK => ?_) AllReadyH.nil
              obtain ⟨r0, r1⟩ := HS7.out.hp.cells
              have r2 := HS7.out.hp.free9
              have hrg : w.heap.size ≠ g := by have := HS7.out.s1; omega
              have HQ9 := Lib.hid ((HS7.out.hq.other9 (Ne.symm hrg) 0 (.int .i64 x)).other9 (Ne.symm hrg) 1 (.int .i64 y))
              go_simp
              (try dsimp only)
              refine hK.out _ _ (by exact HQ9.out.cells) (fun hHeld => ?_)
              clear hK K
              (try simp only [Act.put, List.setIfInBounds_toArray, List.set_cons_zero, List.set_cons_succ, List.getElem_toArray, List.getElem_cons_zero, List.getElem_cons_succ])
              refine wpAnyH_done (by kernel_rfl) ?_ _
              have HOE := Lib.hid (show OwnQy ((w7.drew.setCell ⟨w.heap.size, 0, none⟩ (.int .i64 x)).setCell ⟨w.heap.size, 1, none⟩ (.int .i64 y)) w.heap.size _ _ k l from OwnQy.of (own_setne (own_setne (show w7.drew.ownsRow base 28 2 _ k (qryRow l) from HS7.out.ow) (fun e => by have := (HS7.out.ow.lt _ e).1; have := HS7.out.s1; omega)) (fun e => by have := (HS7.out.ow.lt _ e).1; have := HS7.out.s1; omega)) (by have := HS7.out.s1; omega) (by simpa [World.setCell] using HS7.out.be.size))
              have HBE := Lib.hid (show Below w.heap.size w ((w7.drew.setCell ⟨w.heap.size, 0, none⟩ (.int .i64 x)).setCell ⟨w.heap.size, 1, none⟩ (.int .i64 y)) from (HS7.out.be.drew.setCell (Nat.le_refl _) _).setCell (Nat.le_refl _) _)
              clear q0 q1
              go_wp2_with fail
              refine bodyPost_ret (by simp [results, Try.results12, go_sem, *]; try rfl) rfl ?_
              exact ⟨_, k, l, x, y, rfl, HOE.out, hk9, HBE.out⟩
    · obtain ⟨p, hp0, hp1, HS⟩ : ∃ p', 0 ≤ p' ∧ p' ≤ 100 ∧ Hid (AddSt w w9 B c base g _ n l x y p') := ⟨p + 1, by omega, by omega, HS9⟩
      clear HS9
      go_upto_region 6 with (fail)
      -- context: HS : AddSt at a world with x, y, p; n, l; the next is region 6
      go_wp2_with fail
      refine (pick_any _ B c p _ HS.out.rd (by omega) (by omega)).mono ?_
      rintro e w5 ⟨h5, rfl, hh0, hh1, -, hr5, hg5⟩
      have HS5 := Lib.hid (HS.out.read hg5 hr5)
      clear hh1 hr5 hg5 HS
      by_cases hh : h5 = 0
      · subst hh
        go_wp2_with fail
        refine (num_any w5.heap.size 2 [0, 61] B c (p + 1) _ (HS5.out.rd.kept (World.grownBy_alloc _ _ _)) (by omega) (ListAt.new w5 [0, 61] _) (by have := HS5.out.rd.2.1; omega) (by decide) (by decide)).mono ?_
        rintro e w6 ⟨y, rfl, -, hr6, hg6⟩
        have HS6 := Lib.hid ((HS5.out.alloc _).read hg6 hr6)
        clear hr6 hg6 HS5
        obtain ⟨q0, q1⟩ := HS6.out.hq.cells
        have q2 := HS6.out.hq.free9
        have HS := Lib.hid (HS6.out.setY y)
        clear HS6
        go_upto_region 8 with (fail)
        clear q0 q1 q2
        go_loopw [5] (fun ov wr => ∃ (k : Nat) (l : List (Int × Int)) (p : Int), k ≤ 9 ∧ sLen9 ov = k ∧ 0 ≤ p ∧ p + 9 ≤ 200 + k ∧ Hid (AddSt w wr B c base g ov k l x y p)) (fun ov _ => 9 - sLen9 ov)
        case atStart => exact ⟨_, _, _, hn9, rfl, by omega, by omega, HS⟩
        case round =>
          obtain ⟨k, l, p, hk9, hsl, hp0, hp1, HS⟩ := hrel
          obtain ⟨a1, c1, rfl⟩ := qrow_slice HS.out.ow
          go_wp2_with fail
          refine (pick_any _ B c p _ HS.out.rd (by omega) (by omega)).mono ?_
          rintro e w7 ⟨z, rfl, hz0', hz1', -, hr7, hg7⟩
          have HS7 := Lib.hid (HS.out.read hg7 hr7)
          clear hz1' hr7 hg7 HS
          by_cases hz : z = 0 ∧ k < 8
          · obtain ⟨rfl, hk8⟩ := hz
            have hk8' : (k : Int) < 8 := by omega
            have hk00 : (0 : Int) ≤ (k : Int) := Int.natCast_nonneg _
            go_wp2_with (at_builtin; go_must (refine wpList_append_own_at _ rfl (.tmp 39) (.tmp 44) 23 rfl base 28 i0 (.agg #[.int .i64 0, .int .i64 0]) 2 16 Try.underlying23 hi0 hz0 hz1 hz2 rfl (by decide) _ _ _ rfl (HS7.out.ow.alloc _) ⟨w7.heap.size, 0, none⟩ 1 1 [.int .i64 (20 + (k : Int)), .int .i64 1] rfl rfl (cell_two_newQ _ _ _ _) (two_oneCellQ _ _) (by unfold maxLen; omega) (by omega) (by have := HS7.out.hq.lt; have := HS7.out.s1; simp; omega) ?_); intro v8 w8 hown8 hgrow8 hnil8 hat8)
            have HS8 := Lib.hid (AddSt.app (l' := l ++ [(20 + (k : Int), 1)]) (HS7.out.alloc _) (by rw [qryRow_snoc]; exact hown8) hgrow8 hat8)
            clear hown8 hgrow8 hnil8 hat8
            obtain ⟨a8, c8, rfl⟩ := qrow_slice HS8.out.ow
            go_wp2_with fail
            go_roundw
            case rel => first | exact ⟨k + 1, _, _, by omega, rfl, by omega, by omega, HS8⟩ | exact ⟨_, _, _, _, _, _, _, _, _, _, _, _, _, _, _, _, ⟨k + 1, _, _, by omega, rfl, by omega, by omega, HS8⟩, by first | rfl | rw [hhb] | (rw [hhb]; rfl) | (simp only [hhb]; rfl)⟩
            case measure => simp [sLen9]; omega
          · have HEND := True.intro
            have hzk : z = 0 → ¬ ((k : Int) < 8) := fun h h2 => hz ⟨h, by omega⟩
            by_cases hz2' : z = 0
            · have hk8 := hzk hz2'
              subst hz2'
              go_wp2_with fail
              obtain ⟨q0, q1⟩ := HS7.out.hq.cells
              refine wp_region_held_drew (S := (fun X => (X.cell? ⟨g, 0, none⟩ = some (.int .i64 x) ∧ X.cell? ⟨g, 1, none⟩ = some (.int .i64 y)))) (by kernel_rfl) (by exact ⟨q0, q1⟩) (fun hHeld => ?_)
              first | (refine wpAnyH_take (i := 0) (v := ?_) rfl (by kernel_rfl) (by kernel_rfl) (by kernel_rfl) (fun _ _ _ h => h) (Or.inl ⟨by rfl, ?_⟩) (by assumption) ?_; rotate_left; (intro X hSw; (try dsimp only at hSw); go_simp; (try with_reducible rfl)); (try simp only [Act.put, List.setIfInBounds_toArray, List.set_cons_zero, List.set_cons_succ, List.getElem_toArray, List.getElem_cons_zero, List.getElem_cons_succ])) | fail "take 0"
              first | (refine wpAnyH_take (i := 1) (v := ?_) rfl (by kernel_rfl) (by kernel_rfl) (by kernel_rfl) (fun _ _ _ h => h) (Or.inl ⟨by rfl, ?_⟩) (by assumption) ?_; rotate_left; (intro X hSw; (try dsimp only at hSw); go_simp; (try with_reducible rfl)); (try simp only [Act.put, List.setIfInBounds_toArray, List.set_cons_zero, List.set_cons_succ, List.getElem_toArray, List.getElem_cons_zero, List.getElem_cons_succ])) | fail "take 1"
              first | (refine wpAnyH_take (i := 2) (v := ?_) rfl (by kernel_rfl) (by kernel_rfl) (by kernel_rfl) (fun _ _ _ h => h) (Or.inl ⟨by rfl, ?_⟩) (by assumption) ?_; rotate_left; (intro X hSw; (try dsimp only at hSw); go_simp; (try with_reducible rfl)); (try simp only [Act.put, List.setIfInBounds_toArray, List.set_cons_zero, List.set_cons_succ, List.getElem_toArray, List.getElem_cons_zero, List.getElem_cons_succ])) | fail "take 2"
              refine wpAnyH_ready (rs := [3]) (by kernel_rfl) (by simp) ?_
              refine AllReadyH.cons rfl (fun K hK => ?_) AllReadyH.nil
              obtain ⟨r0, r1⟩ := HS7.out.hp.cells
              have r2 := HS7.out.hp.free9
              have hrg : w.heap.size ≠ g := by have := HS7.out.s1; omega
              have HQ9 := Lib.hid ((HS7.out.hq.other9 (Ne.symm hrg) 0 (.int .i64 x)).other9 (Ne.symm hrg) 1 (.int .i64 y))
              go_simp
              (try dsimp only)
              refine hK.out _ _ (by exact HQ9.out.cells) (fun hHeld => ?_)
              clear hK K
              (try simp only [Act.put, List.setIfInBounds_toArray, List.set_cons_zero, List.set_cons_succ, List.getElem_toArray, List.getElem_cons_zero, List.getElem_cons_succ])
              refine wpAnyH_done (by kernel_rfl) ?_ _
              have HOE := Lib.hid (show OwnQy ((w7.drew.setCell ⟨w.heap.size, 0, none⟩ (.int .i64 x)).setCell ⟨w.heap.size, 1, none⟩ (.int .i64 y)) w.heap.size _ _ k l from OwnQy.of (own_setne (own_setne (show w7.drew.ownsRow base 28 2 _ k (qryRow l) from HS7.out.ow) (fun e => by have := (HS7.out.ow.lt _ e).1; have := HS7.out.s1; omega)) (fun e => by have := (HS7.out.ow.lt _ e).1; have := HS7.out.s1; omega)) (by have := HS7.out.s1; omega) (by simpa [World.setCell] using HS7.out.be.size))
              have HBE := Lib.hid (show Below w.heap.size w ((w7.drew.setCell ⟨w.heap.size, 0, none⟩ (.int .i64 x)).setCell ⟨w.heap.size, 1, none⟩ (.int .i64 y)) from (HS7.out.be.drew.setCell (Nat.le_refl _) _).setCell (Nat.le_refl _) _)
              clear q0 q1
              go_wp2_with fail
              refine bodyPost_ret (by simp [results, Try.results12, go_sem, *]; try rfl) rfl ?_
              exact ⟨_, k, l, x, y, rfl, HOE.out, hk9, HBE.out⟩
            · go_wp2_with fail
              obtain ⟨q0, q1⟩ := HS7.out.hq.cells
              refine wp_region_held_drew (S := (fun X => (X.cell? ⟨g, 0, none⟩ = some (.int .i64 x) ∧ X.cell? ⟨g, 1, none⟩ = some (.int .i64 y)))) (by kernel_rfl) (by exact ⟨q0, q1⟩) (fun hHeld => ?_)
              first | (refine wpAnyH_take (i := 0) (v := ?_) rfl (by kernel_rfl) (by kernel_rfl) (by kernel_rfl) (fun _ _ _ h => h) (Or.inl ⟨by rfl, ?_⟩) (by assumption) ?_; rotate_left; (intro X hSw; (try dsimp only at hSw); go_simp; (try with_reducible rfl)); (try simp only [Act.put, List.setIfInBounds_toArray, List.set_cons_zero, List.set_cons_succ, List.getElem_toArray, List.getElem_cons_zero, List.getElem_cons_succ])) | fail "take 0"
              first | (refine wpAnyH_take (i := 1) (v := ?_) rfl (by kernel_rfl) (by kernel_rfl) (by kernel_rfl) (fun _ _ _ h => h) (Or.inl ⟨by rfl, ?_⟩) (by assumption) ?_; rotate_left; (intro X hSw; (try dsimp only at hSw); go_simp; (try with_reducible rfl)); (try simp only [Act.put, List.setIfInBounds_toArray, List.set_cons_zero, List.set_cons_succ, List.getElem_toArray, List.getElem_cons_zero, List.getElem_cons_succ])) | fail "take 1"
              first | (refine wpAnyH_take (i := 2) (v := ?_) rfl (by kernel_rfl) (by kernel_rfl) (by kernel_rfl) (fun _ _ _ h => h) (Or.inl ⟨by rfl, ?_⟩) (by assumption) ?_; rotate_left; (intro X hSw; (try dsimp only at hSw); go_simp; (try with_reducible rfl)); (try simp only [Act.put, List.setIfInBounds_toArray, List.set_cons_zero, List.set_cons_succ, List.getElem_toArray, List.getElem_cons_zero, List.getElem_cons_succ])) | fail "take 2"
              refine wpAnyH_ready (rs := [3]) (by kernel_rfl) (by simp) ?_
              refine AllReadyH.cons rfl (fun K hK => ?_) AllReadyH.nil
              obtain ⟨r0, r1⟩ := HS7.out.hp.cells
              have r2 := HS7.out.hp.free9
              have hrg : w.heap.size ≠ g := by have := HS7.out.s1; omega
              have HQ9 := Lib.hid ((HS7.out.hq.other9 (Ne.symm hrg) 0 (.int .i64 x)).other9 (Ne.symm hrg) 1 (.int .i64 y))
              go_simp
              (try dsimp only)
              refine hK.out _ _ (by exact HQ9.out.cells) (fun hHeld => ?_)
              clear hK K
              (try simp only [Act.put, List.setIfInBounds_toArray, List.set_cons_zero, List.set_cons_succ, List.getElem_toArray, List.getElem_cons_zero, List.getElem_cons_succ])
              refine wpAnyH_done (by kernel_rfl) ?_ _
              have HOE := Lib.hid (show OwnQy ((w7.drew.setCell ⟨w.heap.size, 0, none⟩ (.int .i64 x)).setCell ⟨w.heap.size, 1, none⟩ (.int .i64 y)) w.heap.size _ _ k l from OwnQy.of (own_setne (own_setne (show w7.drew.ownsRow base 28 2 _ k (qryRow l) from HS7.out.ow) (fun e => by have := (HS7.out.ow.lt _ e).1; have := HS7.out.s1; omega)) (fun e => by have := (HS7.out.ow.lt _ e).1; have := HS7.out.s1; omega)) (by have := HS7.out.s1; omega) (by simpa [World.setCell] using HS7.out.be.size))
              have HBE := Lib.hid (show Below w.heap.size w ((w7.drew.setCell ⟨w.heap.size, 0, none⟩ (.int .i64 x)).setCell ⟨w.heap.size, 1, none⟩ (.int .i64 y)) from (HS7.out.be.drew.setCell (Nat.le_refl _) _).setCell (Nat.le_refl _) _)
              clear q0 q1
              go_wp2_with fail
              refine bodyPost_ret (by simp [results, Try.results12, go_sem, *]; try rfl) rfl ?_
              exact ⟨_, k, l, x, y, rfl, HOE.out, hk9, HBE.out⟩
      · have HS := HS5
        clear HS5
        have hhb : (h5 == 0) = false := by simpa using hh
        go_upto_region 8 with (fail)
        go_loopw [5] (fun ov wr => ∃ (k : Nat) (l : List (Int × Int)) (p : Int), k ≤ 9 ∧ sLen9 ov = k ∧ 0 ≤ p ∧ p + 9 ≤ 200 + k ∧ Hid (AddSt w wr B c base g ov k l x y p)) (fun ov _ => 9 - sLen9 ov)
        case atStart => exact ⟨_, _, _, hn9, rfl, by omega, by omega, HS⟩
        case round =>
          obtain ⟨k, l, p, hk9, hsl, hp0, hp1, HS⟩ := hrel
          obtain ⟨a1, c1, rfl⟩ := qrow_slice HS.out.ow
          go_wp2_with fail
          refine (pick_any _ B c p _ HS.out.rd (by omega) (by omega)).mono ?_
          rintro e w7 ⟨z, rfl, hz0', hz1', -, hr7, hg7⟩
          have HS7 := Lib.hid (HS.out.read hg7 hr7)
          clear hz1' hr7 hg7 HS
          by_cases hz : z = 0 ∧ k < 8
          · obtain ⟨rfl, hk8⟩ := hz
            have hk8' : (k : Int) < 8 := by omega
            have hk00 : (0 : Int) ≤ (k : Int) := Int.natCast_nonneg _
            go_wp2_with (at_builtin; go_must (refine wpList_append_own_at _ rfl (.tmp 39) (.tmp 44) 23 rfl base 28 i0 (.agg #[.int .i64 0, .int .i64 0]) 2 16 Try.underlying23 hi0 hz0 hz1 hz2 rfl (by decide) _ _ _ rfl (HS7.out.ow.alloc _) ⟨w7.heap.size, 0, none⟩ 1 1 [.int .i64 (20 + (k : Int)), .int .i64 1] rfl rfl (cell_two_newQ _ _ _ _) (two_oneCellQ _ _) (by unfold maxLen; omega) (by omega) (by have := HS7.out.hq.lt; have := HS7.out.s1; simp; omega) ?_); intro v8 w8 hown8 hgrow8 hnil8 hat8)
            have HS8 := Lib.hid (AddSt.app (l' := l ++ [(20 + (k : Int), 1)]) (HS7.out.alloc _) (by rw [qryRow_snoc]; exact hown8) hgrow8 hat8)
            clear hown8 hgrow8 hnil8 hat8
            obtain ⟨a8, c8, rfl⟩ := qrow_slice HS8.out.ow
            go_wp2_with fail
            go_roundw
            case rel => first | exact ⟨k + 1, _, _, by omega, rfl, by omega, by omega, HS8⟩ | exact ⟨_, _, _, _, _, _, _, _, _, _, _, _, _, _, _, _, ⟨k + 1, _, _, by omega, rfl, by omega, by omega, HS8⟩, by first | rfl | rw [hhb] | (rw [hhb]; rfl) | (simp only [hhb]; rfl)⟩
            case measure => simp [sLen9]; omega
          · have HEND := True.intro
            have hzk : z = 0 → ¬ ((k : Int) < 8) := fun h h2 => hz ⟨h, by omega⟩
            by_cases hz2' : z = 0
            · have hk8 := hzk hz2'
              subst hz2'
              go_wp2_with fail
              obtain ⟨q0, q1⟩ := HS7.out.hq.cells
              refine wp_region_held_drew (S := (fun X => (X.cell? ⟨g, 0, none⟩ = some (.int .i64 x) ∧ X.cell? ⟨g, 1, none⟩ = some (.int .i64 y)))) (by kernel_rfl) (by exact ⟨q0, q1⟩) (fun hHeld => ?_)
              first | (refine wpAnyH_take (i := 0) (v := ?_) rfl (by kernel_rfl) (by kernel_rfl) (by kernel_rfl) (fun _ _ _ h => h) (Or.inl ⟨by rfl, ?_⟩) (by assumption) ?_; rotate_left; (intro X hSw; (try dsimp only at hSw); go_simp; (try with_reducible rfl)); (try simp only [Act.put, List.setIfInBounds_toArray, List.set_cons_zero, List.set_cons_succ, List.getElem_toArray, List.getElem_cons_zero, List.getElem_cons_succ])) | fail "take 0"
              first | (refine wpAnyH_take (i := 1) (v := ?_) rfl (by kernel_rfl) (by kernel_rfl) (by kernel_rfl) (fun _ _ _ h => h) (Or.inl ⟨by rfl, ?_⟩) (by assumption) ?_; rotate_left; (intro X hSw; (try dsimp only at hSw); go_simp; (try with_reducible rfl)); (try simp only [Act.put, List.setIfInBounds_toArray, List.set_cons_zero, List.set_cons_succ, List.getElem_toArray, List.getElem_cons_zero, List.getElem_cons_succ])) | fail "take 1"
              first | (refine wpAnyH_take (i := 2) (v := ?_) rfl (by kernel_rfl) (by kernel_rfl) (by kernel_rfl) (fun _ _ _ h => h) (Or.inl ⟨by rfl, ?_⟩) (by assumption) ?_; rotate_left; (intro X hSw; (try dsimp only at hSw); go_simp; (try with_reducible rfl)); (try simp only [Act.put, List.setIfInBounds_toArray, List.set_cons_zero, List.set_cons_succ, List.getElem_toArray, List.getElem_cons_zero, List.getElem_cons_succ])) | fail "take 2"
              refine wpAnyH_ready (rs := [3]) (by kernel_rfl) (by simp) ?_
              refine AllReadyH.cons rfl (fun K hK => ?_) AllReadyH.nil
              obtain ⟨r0, r1⟩ := HS7.out.hp.cells
              have r2 := HS7.out.hp.free9
              have hrg : w.heap.size ≠ g := by have := HS7.out.s1; omega
              have HQ9 := Lib.hid ((HS7.out.hq.other9 (Ne.symm hrg) 0 (.int .i64 x)).other9 (Ne.symm hrg) 1 (.int .i64 y))
              go_simp
              (try dsimp only)
              refine hK.out _ _ (by exact HQ9.out.cells) (fun hHeld => ?_)
              clear hK K
              (try simp only [Act.put, List.setIfInBounds_toArray, List.set_cons_zero, List.set_cons_succ, List.getElem_toArray, List.getElem_cons_zero, List.getElem_cons_succ])
              refine wpAnyH_done (by kernel_rfl) ?_ _
              have HOE := Lib.hid (show OwnQy ((w7.drew.setCell ⟨w.heap.size, 0, none⟩ (.int .i64 x)).setCell ⟨w.heap.size, 1, none⟩ (.int .i64 y)) w.heap.size _ _ k l from OwnQy.of (own_setne (own_setne (show w7.drew.ownsRow base 28 2 _ k (qryRow l) from HS7.out.ow) (fun e => by have := (HS7.out.ow.lt _ e).1; have := HS7.out.s1; omega)) (fun e => by have := (HS7.out.ow.lt _ e).1; have := HS7.out.s1; omega)) (by have := HS7.out.s1; omega) (by simpa [World.setCell] using HS7.out.be.size))
              have HBE := Lib.hid (show Below w.heap.size w ((w7.drew.setCell ⟨w.heap.size, 0, none⟩ (.int .i64 x)).setCell ⟨w.heap.size, 1, none⟩ (.int .i64 y)) from (HS7.out.be.drew.setCell (Nat.le_refl _) _).setCell (Nat.le_refl _) _)
              clear q0 q1
              go_wp2_with fail
              refine bodyPost_ret (by simp [results, Try.results12, go_sem, *]; try rfl) rfl ?_
              exact ⟨_, k, l, x, y, rfl, HOE.out, hk9, HBE.out⟩
            · go_wp2_with fail
              obtain ⟨q0, q1⟩ := HS7.out.hq.cells
              refine wp_region_held_drew (S := (fun X => (X.cell? ⟨g, 0, none⟩ = some (.int .i64 x) ∧ X.cell? ⟨g, 1, none⟩ = some (.int .i64 y)))) (by kernel_rfl) (by exact ⟨q0, q1⟩) (fun hHeld => ?_)
              first | (refine wpAnyH_take (i := 0) (v := ?_) rfl (by kernel_rfl) (by kernel_rfl) (by kernel_rfl) (fun _ _ _ h => h) (Or.inl ⟨by rfl, ?_⟩) (by assumption) ?_; rotate_left; (intro X hSw; (try dsimp only at hSw); go_simp; (try with_reducible rfl)); (try simp only [Act.put, List.setIfInBounds_toArray, List.set_cons_zero, List.set_cons_succ, List.getElem_toArray, List.getElem_cons_zero, List.getElem_cons_succ])) | fail "take 0"
              first | (refine wpAnyH_take (i := 1) (v := ?_) rfl (by kernel_rfl) (by kernel_rfl) (by kernel_rfl) (fun _ _ _ h => h) (Or.inl ⟨by rfl, ?_⟩) (by assumption) ?_; rotate_left; (intro X hSw; (try dsimp only at hSw); go_simp; (try with_reducible rfl)); (try simp only [Act.put, List.setIfInBounds_toArray, List.set_cons_zero, List.set_cons_succ, List.getElem_toArray, List.getElem_cons_zero, List.getElem_cons_succ])) | fail "take 1"
              first | (refine wpAnyH_take (i := 2) (v := ?_) rfl (by kernel_rfl) (by kernel_rfl) (by kernel_rfl) (fun _ _ _ h => h) (Or.inl ⟨by rfl, ?_⟩) (by assumption) ?_; rotate_left; (intro X hSw; (try dsimp only at hSw); go_simp; (try with_reducible rfl)); (try simp only [Act.put, List.setIfInBounds_toArray, List.set_cons_zero, List.set_cons_succ, List.getElem_toArray, List.getElem_cons_zero, List.getElem_cons_succ])) | fail "take 2"
              refine wpAnyH_ready (rs := [3]) (by kernel_rfl) (by simp) ?_
              refine AllReadyH.cons rfl (fun K hK => ?_) AllReadyH.nil
              obtain ⟨r0, r1⟩ := HS7.out.hp.cells
              have r2 := HS7.out.hp.free9
              have hrg : w.heap.size ≠ g := by have := HS7.out.s1; omega
              have HQ9 := Lib.hid ((HS7.out.hq.other9 (Ne.symm hrg) 0 (.int .i64 x)).other9 (Ne.symm hrg) 1 (.int .i64 y))
              go_simp
              (try dsimp only)
              refine hK.out _ _ (by exact HQ9.out.cells) (fun hHeld => ?_)
              clear hK K
              (try simp only [Act.put, List.setIfInBounds_toArray, List.set_cons_zero, List.set_cons_succ, List.getElem_toArray, List.getElem_cons_zero, List.getElem_cons_succ])
              refine wpAnyH_done (by kernel_rfl) ?_ _
              have HOE := Lib.hid (show OwnQy ((w7.drew.setCell ⟨w.heap.size, 0, none⟩ (.int .i64 x)).setCell ⟨w.heap.size, 1, none⟩ (.int .i64 y)) w.heap.size _ _ k l from OwnQy.of (own_setne (own_setne (show w7.drew.ownsRow base 28 2 _ k (qryRow l) from HS7.out.ow) (fun e => by have := (HS7.out.ow.lt _ e).1; have := HS7.out.s1; omega)) (fun e => by have := (HS7.out.ow.lt _ e).1; have := HS7.out.s1; omega)) (by have := HS7.out.s1; omega) (by simpa [World.setCell] using HS7.out.be.size))
              have HBE := Lib.hid (show Below w.heap.size w ((w7.drew.setCell ⟨w.heap.size, 0, none⟩ (.int .i64 x)).setCell ⟨w.heap.size, 1, none⟩ (.int .i64 y)) from (HS7.out.be.drew.setCell (Nat.le_refl _) _).setCell (Nat.le_refl _) _)
              clear q0 q1
              go_wp2_with fail
              refine bodyPost_ret (by simp [results, Try.results12, go_sem, *]; try rfl) rfl ?_
              exact ⟨_, k, l, x, y, rfl, HOE.out, hk9, HBE.out⟩
end Go.Proofs.Ytofpnmjadflebaa
