/-
  Valid queries, in the program and in the model.
-/
import Derived.Test.Ytofpnmjadflebaa9m
import Derived.Deep.Cut
import Derived.Deep.DeepMust
namespace Go.Proofs.Ytofpnmjadflebaa
set_option linter.unusedSimpArgs false
set_option linter.unusedVariables false
open Go.RowKit
/-- A variable of two numbers: its block. -/
def Box2h (w : World) (c : Nat) (T : TypeId) (x y : Int) : Prop := w.heap[c]? = some (.cells #[.int .i64 x, .int .i64 y] T (0, 0))
section
variable {w w' : World} {c d : Nat} {T : TypeId} {x y : Int}
theorem Box2h.new (w : World) (T : TypeId) (x y : Int) : Box2h (w.alloc (.cells #[.int .i64 x, .int .i64 y] T)) w.heap.size T x y := heap_alloc_new w _
theorem Box2h.lt (h : Box2h w c T x y) : c < w.heap.size := (Array.getElem?_eq_some_iff.1 h).1
theorem Box2h.call (h : Box2h w c T x y) (hb : Below w.heap.size w w') : Box2h w' c T x y := (hb.block c h.lt).trans h
theorem Box2h.callD (h : Box2h w c T x y) (hb : Below w.drew.heap.size w.drew w') : Box2h w' c T x y := Box2h.call (w := w.drew) h hb
theorem Box2h.below {b : Nat} (h : Box2h w c T x y) (hb : Below b w w') (hc : c < b) : Box2h w' c T x y := (hb.block c hc).trans h
theorem Box2h.cells (h : Box2h w c T x y) : w.cell? ⟨c, 0, none⟩ = some (.int .i64 x) ∧ w.cell? ⟨c, 1, none⟩ = some (.int .i64 y) := by
  unfold Box2h at h
  constructor <;> simp [World.cell?, h]
end
theorem take_has {l : List (Int × Int)} {j : Nat} (hj : j < l.length) (v : Int × Int) : (l.take (j + 1)).contains v = ((l.take j).contains v || v == qryAt l j) := by
  have e : l.take (j + 1) = l.take j ++ [qryAt l j] := by
    rw [List.take_succ_eq_append_getElem hj]; simp [qryAt, hj]
  rw [e]
  by_cases hv : v = qryAt l j <;> simp [List.contains_eq_mem, hv]
/-- A number is not negative exactly if b holds. -/
def SignIs (r : Int) (b : Bool) : Prop := decide (0 ≤ r) = b
theorem Qrs.take {w : World} {b off n cap : Nat} {l : List (Int × Int)} (h : Qrs w (some ⟨b, off, none⟩) n cap l) {j : Nat} (hj : j ≤ n) : Qrs w (some ⟨b, off, none⟩) j cap (l.take j) := by
  obtain ⟨h1, h2, h3, h4⟩ := h
  refine ⟨by simp; omega, by omega, h3, ?_⟩
  rcases h4 with h4 | ⟨b', off', e, hb, hc⟩
  · exact .inl (by omega)
  · simp only [Option.some.injEq, Addr.mk.injEq, and_true] at e
    obtain ⟨rfl, rfl⟩ := e
    refine .inr ⟨b, off, rfl, hb, fun i hi => ?_⟩
    rw [List.getElem?_take, if_pos hi]
    exact hc i (by omega)
set_option maxRecDepth 4000 in
set_option maxHeartbeats 2000000 in
theorem indexQ_any (a : Option Addr) (n cap : Nat) (l : List (Int × Int)) (x y : Int) (w : World) (h : Qrs w a n cap l) :
    Calls Try.prog 42 #[.slice a n cap, .agg #[.int .i64 x, .int .i64 y]] w fun e w' => ∃ r : Int, e = .returned (.int .i64 r) ∧ SignIs r (l.contains (x, y)) ∧ Below w.heap.size w w' := by
  have hll : l.length = n := h.1
  have hnc : n ≤ cap := h.2.1
  have hcm : cap ≤ 9223372036854775807 := by have := h.2.2.1; unfold maxLen at this; omega
  obtain ⟨W, hW⟩ : ∃ W, W = w.alloc (.cells #[.int .i64 x, .int .i64 y] 28) := ⟨_, rfl⟩
  have HX := Lib.hid (show Box2h W w.heap.size 28 x y from by rw [hW]; exact Box2h.new _ _ _ _)
  have HB := Lib.hid (show Below w.heap.size w W from by rw [hW]; exact (Below.refl _ _).alloc (Nat.le_refl _) _)
  have H0 := Lib.hid h
  have HLL := Lib.hid hll
  clear h hll
  go_enter Try.func42, Try.ntmps42
  go_upto_region 1 with (fail)
  rw [← hW]
  clear hW
  go_wp2_with fail
  go_loopw [8] (fun i wr => ∃ j : Nat, j ≤ n ∧ i = .int .i64 j ∧ (l.take j).contains (x, y) = false ∧ Hid (Box2h wr w.heap.size 28 x y) ∧ Hid (Below w.heap.size w wr)) (fun i _ => n - (intOf i).toNat)
  case atStart => exact ⟨0, Nat.zero_le _, rfl, by simp, HX, HB⟩
  case round =>
    obtain ⟨j, hj, rfl, hno, hx, hw⟩ := hrel
    clear HX HB
    have HNO := Lib.hid hno
    clear hno
    by_cases hlt : j < n
    · rcases H0.out.2.2.2 with h4 | ⟨b, off, rfl, hbl, hcs⟩
      · omega
      · have hck := (hw.out.cell (p := ⟨b, off + j * 2, none⟩) hbl).trans (hcs j hlt).1
        have hcl := (hw.out.cell (p := ⟨b, off + j * 2 + 1, none⟩) hbl).trans (hcs j hlt).2
        clear hcs
        have hth := take_has (l := l) (j := j) (by have := HLL.out; omega) (x, y)
        rw [HNO.out, Bool.false_or] at hth
        simp only [qryAt] at hth
        obtain ⟨⟨p, q⟩, hpq⟩ : ∃ o, o = l[j]?.getD (0, 0) := ⟨_, rfl⟩
        rw [← hpq] at hck hcl hth
        have HTH := Lib.hid hth
        clear hpq hth
        obtain ⟨q0, q1⟩ := hx.out.cells
        have hk0 : (0 : Int) ≤ (j : Int) := Int.natCast_nonneg _
        have hkn : (j : Int) < (n : Int) := by omega
        by_cases hxp : x = p
        · subst hxp
          by_cases hyq : y = q
          · subst hyq
            have HYES := Lib.hid (show l.contains (x, y) = true from by
              have h1 := HTH.out
              simp only [BEq.rfl] at h1
              rw [List.contains_iff_mem] at h1 ⊢
              exact List.mem_of_mem_take h1)
            have HSY := Lib.hid (show SignIs (j : Int) (l.contains (x, y)) from by rw [HYES.out]; unfold SignIs; simp)
            go_wp2_with fail
            go_region
            all_goals (try go_wp2_with fail)
            all_goals
              go_returns
              exact ⟨(j : Int), rfl, HSY.out, by first | exact hw.out | exact below_drewN hw.out _⟩
          · have HNO2 := Lib.hid (show (l.take (j + 1)).contains (x, y) = false from by rw [HTH.out]; simp [hyq])
            go_wp2_with fail
            go_region
            all_goals (try go_wp2_with fail)
            all_goals (
              go_roundw
              case rel => exact ⟨j + 1, by omega, by go_num, HNO2.out, Lib.hid (hx.out), by first | exact hw | exact Lib.hid (below_drewN hw.out _)⟩
              case measure => simp [intOf]; omega)
        · have HNO2 := Lib.hid (show (l.take (j + 1)).contains (x, y) = false from by rw [HTH.out]; simp [hxp])
          go_wp2_with fail
          go_region
          all_goals (try go_wp2_with fail)
          all_goals (
            go_roundw
            case rel => exact ⟨j + 1, by omega, by go_num, HNO2.out, Lib.hid (hx.out), by first | exact hw | exact Lib.hid (below_drewN hw.out _)⟩
            case measure => simp [intOf]; omega)
    · have HALL := Lib.hid (show l.contains (x, y) = false from by
        have h1 := HNO.out
        rwa [List.take_of_length_le (by have := HLL.out; omega)] at h1)
      have hlt' : ¬ (j : Int) < (n : Int) := by omega
      have HSN := Lib.hid (show SignIs (-1) (l.contains (x, y)) from by rw [HALL.out]; rfl)
      go_wp2_with fail
      go_returns
      exact ⟨-1, rfl, by first | exact HSN.out | (have hh := HSN.out; simpa only [List.contains_eq_mem] using hh), hw.out⟩
theorem containsQ_any (a : Option Addr) (n cap : Nat) (l : List (Int × Int)) (x y : Int) (w : World) (h : Qrs w a n cap l) :
    Calls Try.prog 28 #[.slice a n cap, .agg #[.int .i64 x, .int .i64 y]] w fun e w' => e = .returned (.bool (l.contains (x, y))) ∧ Below w.heap.size w w' := by
  obtain ⟨W, hW⟩ : ∃ W, W = w.alloc (.cells #[.int .i64 x, .int .i64 y] 28) := ⟨_, rfl⟩
  have HX := Lib.hid (show Box2h W w.heap.size 28 x y from by rw [hW]; exact Box2h.new _ _ _ _)
  have HB := Lib.hid (show Below w.heap.size w W from by rw [hW]; exact (Below.refl _ _).alloc (Nat.le_refl _) _)
  have HI := Lib.hid (indexQ_any a n cap l x y W (h.below HB.out))
  clear h
  obtain ⟨q0, q1⟩ := HX.out.cells
  go_enter Try.func28, Try.ntmps28
  go_upto_region 1 with (fail)
  rw [← hW]
  clear hW
  go_wp2_with fail
  refine HI.out.mono ?_
  rintro e w1 ⟨r, rfl, hr, hb1⟩
  have HR := Lib.hid hr
  have HB1 := Lib.hid (HB.out.trans (hb1.mono HB.out.size))
  clear hr hb1
  go_wp2_with fail
  go_returns
  exact ⟨ret_bool HR.out, HB1.out⟩
set_option maxRecDepth 8000 in
set_option maxHeartbeats 2000000 in
theorem queriesValid_any (a : Option Addr) (n cap : Nat) (l : List (Int × Int)) (w : World) (h : Qrs w a n cap l) :
    Calls Try.prog 10 #[.slice a n cap] w fun e w' => e = .returned (.bool (Agg.qrysOk l)) ∧ Below w.heap.size w w' := by
  have hll : l.length = n := h.1
  have hnc : n ≤ cap := h.2.1
  have hcm : cap ≤ 9223372036854775807 := by have := h.2.2.1; unfold maxLen at this; omega
  obtain ⟨b, hb⟩ : ∃ b, b = Agg.qrysOk l := ⟨_, rfl⟩
  rw [← hb]
  have HBB := Lib.hid hb
  have H0 := Lib.hid h
  have HLL := Lib.hid hll
  clear h hll hb
  by_cases h8 : 8 < n
  · obtain rfl : b = false := by
      rw [HBB.out, Agg.qrysOk, decide_eq_false (by have := HLL.out; omega)]; rfl
    have h8' : (8 : Int) < (n : Int) := by omega
    go_enter Try.func10, Try.ntmps10
    go_wp2_with fail
    go_returns
    exact ⟨rfl, Below.refl _ _⟩
  · have h8' : ¬ (8 : Int) < (n : Int) := by omega
    have HNO := Lib.hid (fun (i : Nat) (hi : i ≤ n) (hf : Agg.qrysTo l i = false) => show b = false from by rw [HBB.out]; exact Agg.qrysOk_false (by have := HLL.out; omega) hf)
    go_enter Try.func10, Try.ntmps10
    go_wp2_with fail
    go_loopw [10] (fun i wr => ∃ j : Nat, j ≤ n ∧ i = .int .i64 j ∧ Hid (Agg.qrysTo l j = true) ∧ Hid (Below w.heap.size w wr)) (fun i _ => n - (intOf i).toNat)
    case atStart => exact ⟨0, Nat.zero_le _, rfl, Lib.hid rfl, Lib.hid (Below.refl _ _)⟩
    case round =>
      obtain ⟨j, hj, rfl, hto, hw⟩ := hrel
      by_cases hlt : j < n
      · rcases id H0.out.2.2.2 with h4 | ⟨bk, off, rfl, hbl, hcs⟩
        · omega
        · have hck := (hw.out.cell (p := ⟨bk, off + j * 2, none⟩) hbl).trans (hcs j hlt).1
          have hcl := (hw.out.cell (p := ⟨bk, off + j * 2 + 1, none⟩) hbl).trans (hcs j hlt).2
          clear hcs
          have hstep : Agg.qrysTo l (j + 1) = (Agg.qrysTo l j && (Agg.qryOk (qryAt l j) && !(l.take j).contains (qryAt l j))) := rfl
          rw [hto.out, Bool.true_and] at hstep
          simp only [qryAt] at hstep
          obtain ⟨⟨p, q⟩, hpq⟩ : ∃ o, o = l[j]?.getD (0, 0) := ⟨_, rfl⟩
          rw [← hpq] at hck hcl hstep
          obtain ⟨ok, hok⟩ : ∃ ok, ok = Agg.hopsOk p q := ⟨_, rfl⟩
          rw [show Agg.qryOk (p, q) = ok from hok.symm] at hstep
          have HV := Lib.hid (fun w => hopsValid_any p q w)
          rw [← hok] at HV
          obtain ⟨has, hhas⟩ : ∃ has, has = (l.take j).contains (p, q) := ⟨_, rfl⟩
          rw [← hhas] at hstep
          obtain ⟨W5, hW5⟩ : ∃ W5, W5 = wr.alloc (.cells #[.int .i64 p, .int .i64 q] 28) := ⟨_, rfl⟩
          have hbn : Below wr.heap.size wr W5 := by rw [hW5]; exact (Below.refl _ _).alloc (Nat.le_refl _) _
          have HX5 := Lib.hid (show Box2h W5 wr.heap.size 28 p q from by rw [hW5]; exact Box2h.new _ _ _ _)
          have HB5 := Lib.hid (hw.out.trans (hbn.mono hw.out.size))
          have HC := Lib.hid (fun X (hX : Below w.heap.size w X) => containsQ_any (some ⟨bk, off, none⟩) j cap (l.take j) p q X ((H0.out.below hX).take hj))
          rw [← hhas] at HC
          have HST := Lib.hid hstep
          have hk0 : (0 : Int) ≤ (j : Int) := Int.natCast_nonneg _
          have hkn : (j : Int) < (n : Int) := by omega
          have hkc : (j : Int) ≤ (cap : Int) := by omega
          have hw5 : w.heap.size ≤ wr.heap.size := hw.out.size
          clear hbn hstep hok hhas hpq
          go_upto_region 6 with (fail)
          rw [← hW5]
          clear hW5 hck hcl
          obtain ⟨q0, q1⟩ := HX5.out.cells
          cases ok
          · obtain rfl : b = false := HNO.out (j + 1) (by omega) (by rw [HST.out]; rfl)
            refine wp_region_held_drew (S := (fun X => X.cell? ⟨wr.heap.size, 0, none⟩ = some (.int .i64 p) ∧ X.cell? ⟨wr.heap.size, 1, none⟩ = some (.int .i64 q))) (by kernel_rfl) (by exact ⟨by assumption, by assumption⟩) (fun hHeld => ?_)
            first | (refine wpAnyH_take (i := 0) (v := ?_) rfl (by kernel_rfl) (by kernel_rfl) (by kernel_rfl) (fun _ _ _ h => h) (Or.inl ⟨by rfl, ?_⟩) (by assumption) ?_; rotate_left; (intro X hSw; (try dsimp only at hSw); go_simp; (try with_reducible rfl)); (try simp only [Act.put, List.setIfInBounds_toArray, List.set_cons_zero, List.set_cons_succ, List.getElem_toArray, List.getElem_cons_zero, List.getElem_cons_succ])) | fail "take 0"
            first | (refine wpAnyH_take (i := 1) (v := ?_) rfl (by kernel_rfl) (by kernel_rfl) (by kernel_rfl) (fun _ _ _ h => h) (Or.inl ⟨by rfl, ?_⟩) (by assumption) ?_; rotate_left; (intro X hSw; (try dsimp only at hSw); go_simp; (try with_reducible rfl)); (try simp only [Act.put, List.setIfInBounds_toArray, List.set_cons_zero, List.set_cons_succ, List.getElem_toArray, List.getElem_cons_zero, List.getElem_cons_succ])) | fail "take 1"
            first | (refine wpAnyH_take (i := 2) (v := ?_) rfl (by kernel_rfl) (by kernel_rfl) (by kernel_rfl) (fun _ _ _ h => h) (Or.inl ⟨by rfl, ?_⟩) (by assumption) ?_; rotate_left; (intro X hSw; (try dsimp only at hSw); go_simp; (try with_reducible rfl)); (try simp only [Act.put, List.setIfInBounds_toArray, List.set_cons_zero, List.set_cons_succ, List.getElem_toArray, List.getElem_cons_zero, List.getElem_cons_succ])) | fail "take 2"
            first | (refine wpAnyH_take (i := 3) (v := ?_) rfl (by kernel_rfl) (by kernel_rfl) (by kernel_rfl) (fun _ _ _ h => h) (Or.inl ⟨by rfl, ?_⟩) (by assumption) ?_; rotate_left; (intro X hSw; (try dsimp only at hSw); go_simp; (try with_reducible rfl)); (try simp only [Act.put, List.setIfInBounds_toArray, List.set_cons_zero, List.set_cons_succ, List.getElem_toArray, List.getElem_cons_zero, List.getElem_cons_succ])) | fail "take 3"
            refine wpAnyH_ready (rs := [4]) (by kernel_rfl) (by simp) ?_
            refine AllReadyH.cons rfl (fun K hK => ?_) AllReadyH.nil
            go_simp
            refine (HV.out _).mono ?_
            rintro e w6 ⟨rfl, rfl⟩
            (try dsimp only)
            refine hK.out _ _ (by exact ⟨by assumption, by assumption⟩) (fun hHeld => ?_)
            clear hK K
            (try simp only [Act.put, List.setIfInBounds_toArray, List.set_cons_zero, List.set_cons_succ, List.getElem_toArray, List.getElem_cons_zero, List.getElem_cons_succ])
            first | (refine wpAnyH_take (i := 5) (v := ?_) rfl (by kernel_rfl) (by kernel_rfl) (by kernel_rfl) (fun _ _ _ h => h) (Or.inl ⟨by rfl, ?_⟩) (by assumption) ?_; rotate_left; (intro X hSw; (try dsimp only at hSw); go_simp; (try with_reducible rfl)); (try simp only [Act.put, List.setIfInBounds_toArray, List.set_cons_zero, List.set_cons_succ, List.getElem_toArray, List.getElem_cons_zero, List.getElem_cons_succ])) | fail "take 5"
            first | (refine wpAnyH_take (i := 6) (v := ?_) rfl (by kernel_rfl) (by kernel_rfl) (by kernel_rfl) (fun _ _ _ h => h) (Or.inl ⟨by rfl, ?_⟩) (by assumption) ?_; rotate_left; (intro X hSw; (try dsimp only at hSw); go_simp; (try with_reducible rfl)); (try simp only [Act.put, List.setIfInBounds_toArray, List.set_cons_zero, List.set_cons_succ, List.getElem_toArray, List.getElem_cons_zero, List.getElem_cons_succ])) | fail "take 6"
            first | (refine wpAnyH_take (i := 7) (v := undef) rfl (by kernel_rfl) (by kernel_rfl) (by kernel_rfl) (fun _ _ _ h => h) (Or.inr ⟨by rfl, rfl⟩) (by assumption) ?_; (try simp only [Act.put, List.setIfInBounds_toArray, List.set_cons_zero, List.set_cons_succ, List.getElem_toArray, List.getElem_cons_zero, List.getElem_cons_succ])) | fail "skip 7"
            first | (refine wpAnyH_take (i := 8) (v := undef) rfl (by kernel_rfl) (by kernel_rfl) (by kernel_rfl) (fun _ _ _ h => h) (Or.inr ⟨by rfl, rfl⟩) (by assumption) ?_; (try simp only [Act.put, List.setIfInBounds_toArray, List.set_cons_zero, List.set_cons_succ, List.getElem_toArray, List.getElem_cons_zero, List.getElem_cons_succ])) | fail "skip 8"
            first | (refine wpAnyH_take (i := 9) (v := undef) rfl (by kernel_rfl) (by kernel_rfl) (by kernel_rfl) (fun _ _ _ h => h) (Or.inr ⟨by rfl, rfl⟩) (by assumption) ?_; (try simp only [Act.put, List.setIfInBounds_toArray, List.set_cons_zero, List.set_cons_succ, List.getElem_toArray, List.getElem_cons_zero, List.getElem_cons_succ])) | fail "skip 9"
            first | (refine wpAnyH_take (i := 10) (v := undef) rfl (by kernel_rfl) (by kernel_rfl) (by kernel_rfl) (fun _ _ _ h => h) (Or.inr ⟨by rfl, rfl⟩) (by assumption) ?_; (try simp only [Act.put, List.setIfInBounds_toArray, List.set_cons_zero, List.set_cons_succ, List.getElem_toArray, List.getElem_cons_zero, List.getElem_cons_succ])) | fail "skip 10"
            first | (refine wpAnyH_take (i := 11) (v := undef) rfl (by kernel_rfl) (by kernel_rfl) (by kernel_rfl) (fun _ _ _ h => h) (Or.inr ⟨by rfl, rfl⟩) (by assumption) ?_; (try simp only [Act.put, List.setIfInBounds_toArray, List.set_cons_zero, List.set_cons_succ, List.getElem_toArray, List.getElem_cons_zero, List.getElem_cons_succ])) | fail "skip 11"
            first | (refine wpAnyH_take (i := 12) (v := ?_) rfl (by kernel_rfl) (by kernel_rfl) (by kernel_rfl) (fun _ _ _ h => h) (Or.inl ⟨by rfl, ?_⟩) (by assumption) ?_; rotate_left; (intro X hSw; (try dsimp only at hSw); go_simp; (try with_reducible rfl)); (try simp only [Act.put, List.setIfInBounds_toArray, List.set_cons_zero, List.set_cons_succ, List.getElem_toArray, List.getElem_cons_zero, List.getElem_cons_succ])) | fail "take 12"
            refine wpAnyH_done (by kernel_rfl) ?_ _
            go_wp2_with fail
            go_returns
            exact ⟨rfl, HB5.out.drew⟩
          · skip
            refine wp_region_held_drew (S := (fun X => X.cell? ⟨wr.heap.size, 0, none⟩ = some (.int .i64 p) ∧ X.cell? ⟨wr.heap.size, 1, none⟩ = some (.int .i64 q))) (by kernel_rfl) (by exact ⟨by assumption, by assumption⟩) (fun hHeld => ?_)
            first | (refine wpAnyH_take (i := 0) (v := ?_) rfl (by kernel_rfl) (by kernel_rfl) (by kernel_rfl) (fun _ _ _ h => h) (Or.inl ⟨by rfl, ?_⟩) (by assumption) ?_; rotate_left; (intro X hSw; (try dsimp only at hSw); go_simp; (try with_reducible rfl)); (try simp only [Act.put, List.setIfInBounds_toArray, List.set_cons_zero, List.set_cons_succ, List.getElem_toArray, List.getElem_cons_zero, List.getElem_cons_succ])) | fail "take 0"
            first | (refine wpAnyH_take (i := 1) (v := ?_) rfl (by kernel_rfl) (by kernel_rfl) (by kernel_rfl) (fun _ _ _ h => h) (Or.inl ⟨by rfl, ?_⟩) (by assumption) ?_; rotate_left; (intro X hSw; (try dsimp only at hSw); go_simp; (try with_reducible rfl)); (try simp only [Act.put, List.setIfInBounds_toArray, List.set_cons_zero, List.set_cons_succ, List.getElem_toArray, List.getElem_cons_zero, List.getElem_cons_succ])) | fail "take 1"
            first | (refine wpAnyH_take (i := 2) (v := ?_) rfl (by kernel_rfl) (by kernel_rfl) (by kernel_rfl) (fun _ _ _ h => h) (Or.inl ⟨by rfl, ?_⟩) (by assumption) ?_; rotate_left; (intro X hSw; (try dsimp only at hSw); go_simp; (try with_reducible rfl)); (try simp only [Act.put, List.setIfInBounds_toArray, List.set_cons_zero, List.set_cons_succ, List.getElem_toArray, List.getElem_cons_zero, List.getElem_cons_succ])) | fail "take 2"
            first | (refine wpAnyH_take (i := 3) (v := ?_) rfl (by kernel_rfl) (by kernel_rfl) (by kernel_rfl) (fun _ _ _ h => h) (Or.inl ⟨by rfl, ?_⟩) (by assumption) ?_; rotate_left; (intro X hSw; (try dsimp only at hSw); go_simp; (try with_reducible rfl)); (try simp only [Act.put, List.setIfInBounds_toArray, List.set_cons_zero, List.set_cons_succ, List.getElem_toArray, List.getElem_cons_zero, List.getElem_cons_succ])) | fail "take 3"
            refine wpAnyH_ready (rs := [4]) (by kernel_rfl) (by simp) ?_
            refine AllReadyH.cons rfl (fun K hK => ?_) AllReadyH.nil
            go_simp
            refine (HV.out _).mono ?_
            rintro e w6 ⟨rfl, rfl⟩
            (try dsimp only)
            refine hK.out _ _ (by exact ⟨by assumption, by assumption⟩) (fun hHeld => ?_)
            clear hK K
            (try simp only [Act.put, List.setIfInBounds_toArray, List.set_cons_zero, List.set_cons_succ, List.getElem_toArray, List.getElem_cons_zero, List.getElem_cons_succ])
            first | (refine wpAnyH_take (i := 5) (v := ?_) rfl (by kernel_rfl) (by kernel_rfl) (by kernel_rfl) (fun _ _ _ h => h) (Or.inl ⟨by rfl, ?_⟩) (by assumption) ?_; rotate_left; (intro X hSw; (try dsimp only at hSw); go_simp; (try with_reducible rfl)); (try simp only [Act.put, List.setIfInBounds_toArray, List.set_cons_zero, List.set_cons_succ, List.getElem_toArray, List.getElem_cons_zero, List.getElem_cons_succ])) | fail "take 5"
            first | (refine wpAnyH_take (i := 6) (v := ?_) rfl (by kernel_rfl) (by kernel_rfl) (by kernel_rfl) (fun _ _ _ h => h) (Or.inl ⟨by rfl, ?_⟩) (by assumption) ?_; rotate_left; (intro X hSw; (try dsimp only at hSw); go_simp; (try with_reducible rfl)); (try simp only [Act.put, List.setIfInBounds_toArray, List.set_cons_zero, List.set_cons_succ, List.getElem_toArray, List.getElem_cons_zero, List.getElem_cons_succ])) | fail "take 6"
            first | (refine wpAnyH_take (i := 7) (v := ?_) rfl (by kernel_rfl) (by kernel_rfl) (by kernel_rfl) (fun _ _ _ h => h) (Or.inl ⟨by rfl, ?_⟩) (by assumption) ?_; rotate_left; (intro X hSw; (try dsimp only at hSw); go_simp; (try with_reducible rfl)); (try simp only [Act.put, List.setIfInBounds_toArray, List.set_cons_zero, List.set_cons_succ, List.getElem_toArray, List.getElem_cons_zero, List.getElem_cons_succ])) | fail "take 7"
            first | (refine wpAnyH_take (i := 8) (v := ?_) rfl (by kernel_rfl) (by kernel_rfl) (by kernel_rfl) (fun _ _ _ h => h) (Or.inl ⟨by rfl, ?_⟩) (by assumption) ?_; rotate_left; (intro X hSw; (try dsimp only at hSw); go_simp; (try with_reducible rfl)); (try simp only [Act.put, List.setIfInBounds_toArray, List.set_cons_zero, List.set_cons_succ, List.getElem_toArray, List.getElem_cons_zero, List.getElem_cons_succ])) | fail "take 8"
            first | (refine wpAnyH_take (i := 9) (v := ?_) rfl (by kernel_rfl) (by kernel_rfl) (by kernel_rfl) (fun _ _ _ h => h) (Or.inl ⟨by rfl, ?_⟩) (by assumption) ?_; rotate_left; (intro X hSw; (try dsimp only at hSw); go_simp; (try with_reducible rfl)); (try simp only [Act.put, List.setIfInBounds_toArray, List.set_cons_zero, List.set_cons_succ, List.getElem_toArray, List.getElem_cons_zero, List.getElem_cons_succ])) | fail "take 9"
            first | (refine wpAnyH_take (i := 10) (v := ?_) rfl (by kernel_rfl) (by kernel_rfl) (by kernel_rfl) (fun _ _ _ h => h) (Or.inl ⟨by rfl, ?_⟩) (by assumption) ?_; rotate_left; (intro X hSw; (try dsimp only at hSw); go_simp; (try with_reducible rfl)); (try simp only [Act.put, List.setIfInBounds_toArray, List.set_cons_zero, List.set_cons_succ, List.getElem_toArray, List.getElem_cons_zero, List.getElem_cons_succ])) | fail "take 10"
            refine wpAnyH_ready (rs := [11]) (by kernel_rfl) (by simp) ?_
            refine AllReadyH.cons rfl (fun K hK => ?_) AllReadyH.nil
            go_simp
            refine (HC.out _ HB5.out.drew).mono ?_
            rintro e w7 ⟨rfl, hb7⟩
            have HX7 := Lib.hid (HX5.out.callD hb7)
            have HB7 := Lib.hid (below_callD HB5.out hb7)
            clear hb7 q0 q1
            obtain ⟨q0, q1⟩ := HX7.out.cells
            (try dsimp only)
            refine hK.out _ _ (by exact ⟨by assumption, by assumption⟩) (fun hHeld => ?_)
            clear hK K
            (try simp only [Act.put, List.setIfInBounds_toArray, List.set_cons_zero, List.set_cons_succ, List.getElem_toArray, List.getElem_cons_zero, List.getElem_cons_succ])
            first | (refine wpAnyH_take (i := 12) (v := ?_) rfl (by kernel_rfl) (by kernel_rfl) (by kernel_rfl) (fun _ _ _ h => h) (Or.inl ⟨by rfl, ?_⟩) (by assumption) ?_; rotate_left; (intro X hSw; (try dsimp only at hSw); go_simp; (try with_reducible rfl)); (try simp only [Act.put, List.setIfInBounds_toArray, List.set_cons_zero, List.set_cons_succ, List.getElem_toArray, List.getElem_cons_zero, List.getElem_cons_succ])) | fail "take 12"
            refine wpAnyH_done (by kernel_rfl) ?_ _
            cases has
            · go_wp2_with fail
              go_roundw
              case rel => exact ⟨j + 1, by omega, by go_num, Lib.hid (by rw [HST.out]; rfl), HB7⟩
              case measure => simp [intOf]; omega
            · obtain rfl : b = false := HNO.out (j + 1) (by omega) (by rw [HST.out]; rfl)
              go_wp2_with fail
              go_returns
              exact ⟨rfl, HB7.out⟩
      · obtain rfl : j = n := by omega
        obtain rfl : b = true := by
          rw [HBB.out, Agg.qrysOk, HLL.out, hto.out, decide_eq_true (by omega)]; rfl
        have hlt' : ¬ (j : Int) < (j : Int) := by omega
        go_wp2_with fail
        go_returns
        exact ⟨rfl, hw.out⟩
theorem s_l5Sizes_9 (s h : Int) (w : World) :
    Calls Try.prog 29 #[.int .i64 s, .int .i64 h] w fun e w' => e = .returned (.bool (Agg.hopsOk s h)) ∧ w = w' := by
  cases hok : Agg.hopsOk s h
  · have hn : ¬ (1 ≤ s ∧ s ≤ 60 ∧ 1 ≤ h ∧ h ≤ 60) := by simp [Agg.hopsOk] at hok; omega
    clear hok
    go_enter Try.func29, Try.ntmps29
    go_wp2
    all_goals first
      | (exfalso; omega)
      | (go_returns; exact ⟨ret_bool (by simp <;> omega), rfl⟩)
  · have hn : 1 ≤ s ∧ s ≤ 60 ∧ 1 ≤ h ∧ h ≤ 60 := by simp [Agg.hopsOk] at hok; omega
    obtain ⟨h1, h2, h3, h4⟩ := hn
    clear hok
    go_enter Try.func29, Try.ntmps29
    go_wp2
    all_goals first
      | (exfalso; omega)
      | (go_returns; exact ⟨ret_bool (by simp <;> omega), rfl⟩)
end Go.Proofs.Ytofpnmjadflebaa
