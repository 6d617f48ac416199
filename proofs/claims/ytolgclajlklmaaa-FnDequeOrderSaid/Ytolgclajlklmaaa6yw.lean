/-
  DequeStep in the program: a push onto a deque that keeps nothing.
-/
import Derived.Test.Ytolgclajlklmaaa6yc
namespace Go.Proofs.Ytolgclajlklmaaa
set_option linter.unusedSimpArgs false
set_option linter.unusedVariables false
open Go.RowKit
theorem po_fin0 {k : Int} {b1 b2 : Nat} {fi nx dr x : Int} {w Y : World} {a5 a8 : Option Addr} {c5 c8 : Nat} (hb : b1 ≤ b2)
    (hd : (Value.slice a5 1 c5).ownBlock = none ∨ (Value.slice a5 1 c5).ownBlock ≠ (Value.slice a8 1 c8).ownBlock)
    (h5 : ∀ g, (Value.slice a5 1 c5).ownBlock = some g → g ≠ w.heap.size + 1) (h8 : ∀ g, (Value.slice a8 1 c8).ownBlock = some g → g ≠ w.heap.size + 1)
    (a1 : Y.ownsRow b1 3 1 (.slice a5 1 c5) 1 [.int .i64 x]) (a2 : Y.ownsRow b2 3 1 (.slice a8 1 c8) 1 [.int .i64 nx]) (a3 : Touch b1 w.heap.size w Y) (hbY : b1 ≤ Y.heap.size) (hYs : w.heap.size + 1 < Y.heap.size) (u0 u1 u2 u3 u4 : Value) :
    PoFin b1 (Agg.pushD k ⟨[], [], fi, nx, dr⟩ x) w (.returned (.agg #[.slice a5 1 c5, .slice a8 1 c8, .int .i64 fi, .int .i64 (nx + 1), .int .i64 dr]))
      (((((Y.setCell ⟨w.heap.size + 1, 0, none⟩ u0).setCell ⟨w.heap.size + 1, 1, none⟩ u1).setCell ⟨w.heap.size + 1, 2, none⟩ u2).setCell ⟨w.heap.size + 1, 3, none⟩ u3).setCell ⟨w.heap.size + 1, 4, none⟩ u4) := by
  have h := po_fin (k := k) (n := 0) (t := 0) (I := []) (P := []) (fi := fi) (nx := nx) (dr := dr) (x := x) hb hd h5 h8 rfl rfl rfl a1 a2 a3 hbY hYs u0 u1 u2 u3 u4
  have e : dr + (((0 : Nat) : Int) - ((0 : Nat) : Int)) = dr := by simp
  rw [e] at h
  exact h
set_option maxRecDepth 8000 in
set_option maxHeartbeats 4000000 in
theorem pushOver_nn {k : Int} {T fl : Nat} (O : OrdAt k T fl) (b1 b2 g1 ic g2 pc : Nat) (fi nx dr x : Int) (w : World)
    (hI : w.ownsRow b1 3 1 (.slice none 0 0) 0 []) (hP : w.ownsRow b2 3 1 (.slice none 0 0) 0 []) (hlt : ∀ g, (Value.slice none 0 0).ownBlock = some g → g < b2) (hb : b1 ≤ b2) (hb2 : b2 ≤ w.heap.size)
    (hx0 : 0 ≤ nx) (hx1 : nx ≤ 900000) :
    Calls Try.prog 68 #[.iface T (.agg #[]), .agg #[.slice none 0 0, .slice none 0 0, .int .i64 fi, .int .i64 nx, .int .i64 dr], .int .i64 x] w (PoFin b1 (Agg.pushD k ⟨[], [], fi, nx, dr⟩ x) w) := by
  obtain ⟨i0, hi0, hz0, hz1, hz2⟩ := info_parts infoInt
  have HFB := Lib.hid (show (∀ g, (Value.slice none 0 0).ownBlock = some g → b1 ≤ g ∧ g < b2) ∧ (∀ g, (Value.slice none 0 0).ownBlock = some g → b2 ≤ g ∧ g < w.heap.size) from ⟨fun g hg => ⟨(hI.lt g hg).1, hlt g hg⟩, fun g hg => hP.lt g hg⟩)
  have HI := Lib.hid hI
  have HP := Lib.hid hP
  have HLT := Lib.hid hlt
  obtain ⟨W, hW⟩ : ∃ W, W = (w.alloc (.cells #[.slice none 0 0, .slice none 0 0, .int .i64 fi, .int .i64 nx, .int .i64 dr] 26)).alloc (.cells #[.slice none 0 0, .slice none 0 0, .int .i64 0, .int .i64 0, .int .i64 0] 26) := ⟨_, rfl⟩
  have HS := Lib.hid (show Box5 W w.heap.size 26 (.slice none 0 0) (.slice none 0 0) (.int .i64 fi) (.int .i64 nx) (.int .i64 dr) from by rw [hW]; exact (Box5.new w _ _ _ _ _ _).alloc _)
  have HR := Lib.hid (show Box5 W (w.heap.size + 1) 26 (.slice none 0 0) (.slice none 0 0) (.int .i64 0) (.int .i64 0) (.int .i64 0) from by rw [hW]; exact Box5.new1 _ _ _ _ _ _ (by simp))
  have HB := Lib.hid (show Below w.heap.size w W from by rw [hW]; exact ((Below.refl _ _).alloc (Nat.le_refl _) _).alloc (by simp) _)
  clear hI hP hlt O
  go_enter Try.func68, Try.ntmps68
  go_upto_region 1 with (fail)
  rw [← hW]
  clear hW
  obtain ⟨q0, q1, q2, q3, q4⟩ := HS.out.cells
  go_wp2_with fail
  clear q0 q1 q2 q3 q4
  go_loopw [7] (fun kv wr => kv = .int .i64 0 ∧ Hid (Box5 wr w.heap.size 26 (.slice none 0 0) (.slice none 0 0) (.int .i64 fi) (.int .i64 nx) (.int .i64 dr)) ∧ Hid (Box5 wr (w.heap.size + 1) 26 (.slice none 0 0) (.slice none 0 0) (.int .i64 0) (.int .i64 0) (.int .i64 0)) ∧ Hid (Below w.heap.size w wr)) (fun kv _ => 0)
  case atStart => exact ⟨rfl, HS, HR, HB⟩
  case round =>
    obtain ⟨rfl, hs, hr, hw⟩ := hrel
    clear HS HR HB
    obtain ⟨q0, q1, q2, q3, q4⟩ := hs.out.cells
    go_wp2_with fail
    refine wp_region_held_drew (S := (fun X => X.cell? ⟨w.heap.size, 0, none⟩ = some (.slice none 0 0))) (by kernel_rfl) (by assumption) (fun hHeld => ?_)
    first | (refine wpAnyH_take (i := 0) (v := ?_) rfl (by kernel_rfl) (by kernel_rfl) (by kernel_rfl) (fun _ _ _ h => h) (Or.inl ⟨by rfl, ?_⟩) (by assumption) ?_; rotate_left; (intro X hSw; (try dsimp only at hSw); go_simp; (try with_reducible rfl)); (try simp only [Act.put, List.setIfInBounds_toArray, List.set_cons_zero, List.set_cons_succ, List.getElem_toArray, List.getElem_cons_zero, List.getElem_cons_succ])) | fail "take 0"
    first | (refine wpAnyH_take (i := 1) (v := ?_) rfl (by kernel_rfl) (by kernel_rfl) (by kernel_rfl) (fun _ _ _ h => h) (Or.inl ⟨by rfl, ?_⟩) (by assumption) ?_; rotate_left; (intro X hSw; (try dsimp only at hSw); go_simp; (try with_reducible rfl)); (try simp only [Act.put, List.setIfInBounds_toArray, List.set_cons_zero, List.set_cons_succ, List.getElem_toArray, List.getElem_cons_zero, List.getElem_cons_succ])) | fail "take 1"
    first | (refine wpAnyH_take (i := 2) (v := ?_) rfl (by kernel_rfl) (by kernel_rfl) (by kernel_rfl) (fun _ _ _ h => h) (Or.inl ⟨by rfl, ?_⟩) (by assumption) ?_; rotate_left; (intro X hSw; (try dsimp only at hSw); go_simp; (try with_reducible rfl)); (try simp only [Act.put, List.setIfInBounds_toArray, List.set_cons_zero, List.set_cons_succ, List.getElem_toArray, List.getElem_cons_zero, List.getElem_cons_succ])) | fail "take 2"
    first | (refine wpAnyH_take (i := 3) (v := undef) rfl (by kernel_rfl) (by kernel_rfl) (by kernel_rfl) (fun _ _ _ h => h) (Or.inr ⟨by rfl, rfl⟩) (by assumption) ?_; (try simp only [Act.put, List.setIfInBounds_toArray, List.set_cons_zero, List.set_cons_succ, List.getElem_toArray, List.getElem_cons_zero, List.getElem_cons_succ])) | fail "skip 3"
    first | (refine wpAnyH_take (i := 4) (v := undef) rfl (by kernel_rfl) (by kernel_rfl) (by kernel_rfl) (fun _ _ _ h => h) (Or.inr ⟨by rfl, rfl⟩) (by assumption) ?_; (try simp only [Act.put, List.setIfInBounds_toArray, List.set_cons_zero, List.set_cons_succ, List.getElem_toArray, List.getElem_cons_zero, List.getElem_cons_succ])) | fail "skip 4"
    first | (refine wpAnyH_take (i := 5) (v := undef) rfl (by kernel_rfl) (by kernel_rfl) (by kernel_rfl) (fun _ _ _ h => h) (Or.inr ⟨by rfl, rfl⟩) (by assumption) ?_; (try simp only [Act.put, List.setIfInBounds_toArray, List.set_cons_zero, List.set_cons_succ, List.getElem_toArray, List.getElem_cons_zero, List.getElem_cons_succ])) | fail "skip 5"
    first | (refine wpAnyH_take (i := 6) (v := undef) rfl (by kernel_rfl) (by kernel_rfl) (by kernel_rfl) (fun _ _ _ h => h) (Or.inr ⟨by rfl, rfl⟩) (by assumption) ?_; (try simp only [Act.put, List.setIfInBounds_toArray, List.set_cons_zero, List.set_cons_succ, List.getElem_toArray, List.getElem_cons_zero, List.getElem_cons_succ])) | fail "skip 6"
    first | (refine wpAnyH_take (i := 7) (v := undef) rfl (by kernel_rfl) (by kernel_rfl) (by kernel_rfl) (fun _ _ _ h => h) (Or.inr ⟨by rfl, rfl⟩) (by assumption) ?_; (try simp only [Act.put, List.setIfInBounds_toArray, List.set_cons_zero, List.set_cons_succ, List.getElem_toArray, List.getElem_cons_zero, List.getElem_cons_succ])) | fail "skip 7"
    first | (refine wpAnyH_take (i := 8) (v := undef) rfl (by kernel_rfl) (by kernel_rfl) (by kernel_rfl) (fun _ _ _ h => h) (Or.inr ⟨by rfl, rfl⟩) (by assumption) ?_; (try simp only [Act.put, List.setIfInBounds_toArray, List.set_cons_zero, List.set_cons_succ, List.getElem_toArray, List.getElem_cons_zero, List.getElem_cons_succ])) | fail "skip 8"
    first | (refine wpAnyH_take (i := 9) (v := undef) rfl (by kernel_rfl) (by kernel_rfl) (by kernel_rfl) (fun _ _ _ h => h) (Or.inr ⟨by rfl, rfl⟩) (by assumption) ?_; (try simp only [Act.put, List.setIfInBounds_toArray, List.set_cons_zero, List.set_cons_succ, List.getElem_toArray, List.getElem_cons_zero, List.getElem_cons_succ])) | fail "skip 9"
    first | (refine wpAnyH_take (i := 10) (v := undef) rfl (by kernel_rfl) (by kernel_rfl) (by kernel_rfl) (fun _ _ _ h => h) (Or.inr ⟨by rfl, rfl⟩) (by assumption) ?_; (try simp only [Act.put, List.setIfInBounds_toArray, List.set_cons_zero, List.set_cons_succ, List.getElem_toArray, List.getElem_cons_zero, List.getElem_cons_succ])) | fail "skip 10"
    first | (refine wpAnyH_take (i := 11) (v := undef) rfl (by kernel_rfl) (by kernel_rfl) (by kernel_rfl) (fun _ _ _ h => h) (Or.inr ⟨by rfl, rfl⟩) (by assumption) ?_; (try simp only [Act.put, List.setIfInBounds_toArray, List.set_cons_zero, List.set_cons_succ, List.getElem_toArray, List.getElem_cons_zero, List.getElem_cons_succ])) | fail "skip 11"
    first | (refine wpAnyH_take (i := 12) (v := undef) rfl (by kernel_rfl) (by kernel_rfl) (by kernel_rfl) (fun _ _ _ h => h) (Or.inr ⟨by rfl, rfl⟩) (by assumption) ?_; (try simp only [Act.put, List.setIfInBounds_toArray, List.set_cons_zero, List.set_cons_succ, List.getElem_toArray, List.getElem_cons_zero, List.getElem_cons_succ])) | fail "skip 12"
    first | (refine wpAnyH_take (i := 13) (v := undef) rfl (by kernel_rfl) (by kernel_rfl) (by kernel_rfl) (fun _ _ _ h => h) (Or.inr ⟨by rfl, rfl⟩) (by assumption) ?_; (try simp only [Act.put, List.setIfInBounds_toArray, List.set_cons_zero, List.set_cons_succ, List.getElem_toArray, List.getElem_cons_zero, List.getElem_cons_succ])) | fail "skip 13"
    first | (refine wpAnyH_take (i := 14) (v := undef) rfl (by kernel_rfl) (by kernel_rfl) (by kernel_rfl) (fun _ _ _ h => h) (Or.inr ⟨by rfl, rfl⟩) (by assumption) ?_; (try simp only [Act.put, List.setIfInBounds_toArray, List.set_cons_zero, List.set_cons_succ, List.getElem_toArray, List.getElem_cons_zero, List.getElem_cons_succ])) | fail "skip 14"
    first | (refine wpAnyH_take (i := 15) (v := ?_) rfl (by kernel_rfl) (by kernel_rfl) (by kernel_rfl) (fun _ _ _ h => h) (Or.inl ⟨by rfl, ?_⟩) (by assumption) ?_; rotate_left; (intro X hSw; (try dsimp only at hSw); go_simp; (try with_reducible rfl)); (try simp only [Act.put, List.setIfInBounds_toArray, List.set_cons_zero, List.set_cons_succ, List.getElem_toArray, List.getElem_cons_zero, List.getElem_cons_succ])) | fail "take 15"
    refine wpAnyH_done (by kernel_rfl) ?_ _
    obtain ⟨X3, hX3⟩ : ∃ X3, X3 = wr.drew := ⟨_, rfl⟩
    have HS3 := Lib.hid (show Box5 X3 w.heap.size 26 (.slice none 0 0) (.slice none 0 0) (.int .i64 fi) (.int .i64 nx) (.int .i64 dr) from by rw [hX3]; exact hs.out)
    have HR3 := Lib.hid (show Box5 X3 (w.heap.size + 1) 26 (.slice none 0 0) (.slice none 0 0) (.int .i64 0) (.int .i64 0) (.int .i64 0) from by rw [hX3]; exact hr.out)
    have HB3 := Lib.hid (show Below w.heap.size w X3 from by rw [hX3]; exact hw.out.drew)
    rw [← hX3]
    clear hX3 hs hr hw q0 q1 q2 q3 q4 hHeld
    have hsx := HB3.out.size
    have hsl := HS3.out.lt
    have hrl := HR3.out.lt
    have HI3 := Lib.hid (HI.out.kept (Below.grownNone HB3.out none) (by cases hv : (Value.slice none 0 0).ownBlock <;> simp))
    have HP3 := Lib.hid (HP.out.kept (Below.grownNone HB3.out none) (by cases hv : (Value.slice none 0 0).ownBlock <;> simp))
    have HPG := Lib.hid (fun g (hg : (Value.slice none 0 0).ownBlock = some g) => HP.out.lt g hg)
    have HPI := Lib.hid (HI3.out)
    have HPP := Lib.hid (HP3.out)
    obtain ⟨q0, q1, q2, q3, q4⟩ := HS3.out.cells
    go_upto_region 6 with (
      at_builtin
      go_must (refine wpList_append_where rfl (.tmp 36) (.tmp 38) 24 rfl b1 3 i0 (.int .i64 0) 1 8 Try.underlying24 hi0 hz0 hz1 hz2 rfl (by decide) (.slice none 0 0) 0 [] rfl (HPI.out.alloc _) ⟨X3.heap.size, 0, none⟩ 1 1 [.int .i64 x] rfl rfl (cell_one_new _ _ _) (ints_oneCell .i64 [x]) (by unfold maxLen; omega) (by omega) (by simp; omega) ?_)
      go_loud (
        intro v5 w5 hown5 hgrow5 hwhere5
        obtain ⟨a5, c5, rfl⟩ := slice_own hown5
        have HO5 := Lib.hid hown5
        have HG5 := Lib.hid hgrow5
        have HW5 := Lib.hid hwhere5
        have HS5 := Lib.hid ((HS3.out.alloc (.cells #[.int .i64 x] 3)).grown hgrow5 (fun e => by first | (have := ob e; omega) | (simp [Value.ownBlock] at e; done)))
        have HR5 := Lib.hid ((HR3.out.alloc (.cells #[.int .i64 x] 3)).grown hgrow5 (fun e => by first | (have := ob e; omega) | (simp [Value.ownBlock] at e; done)))
        have HP5 := Lib.hid ((HPP.out.alloc (.cells #[.int .i64 x] 3)).kept hgrow5 (by cases hv : (Value.slice none 0 0).ownBlock with | none => exact .inl rfl | some g => exact .inr (fun e => by first | (have := ob e.symm; have := ob hv; omega) | (simp [Value.ownBlock] at hv; done) | (simp [Value.ownBlock] at e; done))))
        have f0 := HS5.out.free 0
        obtain ⟨q0, q1, q2, q3, q4⟩ := HS5.out.cells
        clear hown5 hgrow5 hwhere5))
    have hs5 : X3.heap.size + 1 ≤ w5.heap.size := by have := HG5.out.size; simpa using this
    have HN5 := Lib.hid (show ∀ g, (Value.slice a5 1 c5).ownBlock = some g → g < b2 ∨ X3.heap.size ≤ g from fun g hg => by
      rcases HW5.out with e | ⟨g', e, hle⟩
      · exact .inl (by rw [e] at hg; first | (have := ob hg; omega) | (simp [Value.ownBlock] at hg; done))
      · rw [e] at hg; obtain rfl := Option.some.inj hg; simp at hle; exact .inr (by omega))
    obtain ⟨X6, hX6⟩ : ∃ X6, X6 = w5.setCell ⟨w.heap.size, 0, none⟩ (.slice a5 1 c5) := ⟨_, rfl⟩
    have HS6 := Lib.hid (show Box5 X6 w.heap.size 26 (.slice a5 1 c5) (.slice none 0 0) (.int .i64 fi) (.int .i64 nx) (.int .i64 dr) from by rw [hX6]; exact HS5.out.set0 _)
    have HR6 := Lib.hid (show Box5 X6 (w.heap.size + 1) 26 (.slice none 0 0) (.slice none 0 0) (.int .i64 0) (.int .i64 0) (.int .i64 0) from by rw [hX6]; exact HR5.out.other (by omega) _ _)
    have HO6 := Lib.hid (show X6.ownsRow b1 3 1 (.slice a5 1 c5) 1 [.int .i64 x] from by
      rw [hX6]
      exact own_far HO5.out (fun g hg => by have := HN5.out g hg; omega))
    have HP6 := Lib.hid (show X6.ownsRow b2 3 1 (.slice none 0 0) 0 [] from by
      rw [hX6]
      exact own_far HP5.out (fun g hg => by first | (have := ob hg; omega) | (simp [Value.ownBlock] at hg; done)))
    have HT6 := Lib.hid (show Touch b1 w.heap.size w X6 from by
      rw [hX6]
      exact Touch.far ((((Touch.refl b1 w.heap.size w).call HB3.out).call ((Below.refl X3.heap.size X3).alloc (Nat.le_refl _) _)).trans (Touch.of HG5.out (fun g hg => by first | (have := ob hg; omega) | (simp [Value.ownBlock] at hg; done)))) (Nat.le_refl _))
    have hs6 : X3.heap.size + 1 ≤ X6.heap.size := by rw [hX6]; simpa [World.setCell] using hs5
    rw [← hX6]
    clear hX6 q0 q1 q2 q3 q4 f0 HS5 HR5 HP5 HO5 HG5 HW5 HPI HPP HI3 HP3 HS3 HR3 HB3
    obtain ⟨q0, q1, q2, q3, q4⟩ := HS6.out.cells
    have SQ := Lib.hid (show ∀ (X : World) (v : Value), Box5 X w.heap.size 26 (.slice a5 1 c5) v (.int .i64 fi) (.int .i64 nx) (.int .i64 dr) → X.cell? ⟨w.heap.size, 3, none⟩ = some (.int .i64 nx) from fun X v h => h.cells.2.2.2.1)
    refine wp_region_held_drew (S := (fun X => X.cell? ⟨w.heap.size, 3, none⟩ = some (.int .i64 nx))) (by kernel_rfl) (by exact q3) (fun hHeld => ?_)
    clear q0 q1 q2 q3 q4
    first | (refine wpAnyH_take (i := 0) (v := ?_) rfl (by kernel_rfl) (by kernel_rfl) (by kernel_rfl) (fun _ _ _ h => h) (Or.inl ⟨by rfl, ?_⟩) (by assumption) ?_; rotate_left; (intro X hSw; (try dsimp only at hSw); go_simp; (try with_reducible rfl)); (try simp only [Act.put, List.setIfInBounds_toArray, List.set_cons_zero, List.set_cons_succ, List.getElem_toArray, List.getElem_cons_zero, List.getElem_cons_succ])) | fail "take 0"
    first | (refine wpAnyH_take (i := 2) (v := ?_) rfl (by kernel_rfl) (by kernel_rfl) (by kernel_rfl) (fun _ _ _ h => h) (Or.inl ⟨by rfl, ?_⟩) (by assumption) ?_; rotate_left; (intro X hSw; (try dsimp only at hSw); go_simp; (try with_reducible rfl)); (try simp only [Act.put, List.setIfInBounds_toArray, List.set_cons_zero, List.set_cons_succ, List.getElem_toArray, List.getElem_cons_zero, List.getElem_cons_succ])) | fail "take 2"
    first | (refine wpAnyH_take (i := 4) (v := ?_) rfl (by kernel_rfl) (by kernel_rfl) (by kernel_rfl) (fun _ _ _ h => h) (Or.inl ⟨by rfl, ?_⟩) (by assumption) ?_; rotate_left; (intro X hSw; (try dsimp only at hSw); go_simp; (try with_reducible rfl)); (try simp only [Act.put, List.setIfInBounds_toArray, List.set_cons_zero, List.set_cons_succ, List.getElem_toArray, List.getElem_cons_zero, List.getElem_cons_succ])) | fail "take 4"
    first | (refine wpAnyH_take (i := 5) (v := ?_) rfl (by kernel_rfl) (by kernel_rfl) (by kernel_rfl) (fun _ _ _ h => h) (Or.inl ⟨by rfl, ?_⟩) (by assumption) ?_; rotate_left; (intro X hSw; (try dsimp only at hSw); go_simp; (try with_reducible rfl)); (try simp only [Act.put, List.setIfInBounds_toArray, List.set_cons_zero, List.set_cons_succ, List.getElem_toArray, List.getElem_cons_zero, List.getElem_cons_succ])) | fail "take 5"
    refine wpAnyH_ready (rs := [1, 6]) (by kernel_rfl) (by simp) ?_
    refine AllReadyH.cons rfl (fun K hK => ?_) (AllReadyH.cons rfl (fun K hK => ?_) AllReadyH.nil)

    · obtain ⟨q0, q1, q2, q3, q4⟩ := HS6.out.cells
      go_simp
      clear q0 q1 q2 q3 q4
      (try dsimp only)
      refine hK.out _ _ (by exact SQ.out _ _ HS6.out) (fun hHeld => ?_)
      clear hK K
      (try simp only [Act.put, List.setIfInBounds_toArray, List.set_cons_zero, List.set_cons_succ, List.getElem_toArray, List.getElem_cons_zero, List.getElem_cons_succ])
      first | (refine wpAnyH_take (i := 3) (v := ?_) rfl (by kernel_rfl) (by kernel_rfl) (by kernel_rfl) (fun _ _ _ h => h) (Or.inl ⟨by rfl, ?_⟩) (by assumption) ?_; rotate_left; (intro X hSw; (try dsimp only at hSw); go_simp; (try with_reducible rfl)); (try simp only [Act.put, List.setIfInBounds_toArray, List.set_cons_zero, List.set_cons_succ, List.getElem_toArray, List.getElem_cons_zero, List.getElem_cons_succ])) | fail "take 3"
      refine wpAnyH_ready (rs := [6]) (by kernel_rfl) (by simp) ?_
      refine AllReadyH.cons rfl (fun K hK => ?_) AllReadyH.nil
      go_simp
      obtain ⟨X7, hX7⟩ : ∃ X7, X7 = (X6.alloc (.cells #[.int .i64 nx] 3)).drew := ⟨_, rfl⟩
      have hbn : Below X6.heap.size X6 X7 := by rw [hX7]; exact ((Below.refl _ _).alloc (Nat.le_refl _) _).drew
      have hs7 : X7.heap.size = X6.heap.size + 1 := by rw [hX7]; simp [World.drew]
      have HS7 := Lib.hid (HS6.out.call hbn)
      have HR7 := Lib.hid (HR6.out.call hbn)
      have HO7 := Lib.hid (HO6.out.kept (Below.grownNone hbn none) (by cases hv : (Value.slice a5 1 c5).ownBlock <;> simp))
      have HP7 := Lib.hid (HP6.out.kept (Below.grownNone hbn none) (by cases hv : (Value.slice none 0 0).ownBlock <;> simp))
      have HT7 := Lib.hid (HT6.out.call hbn)
      have HLIT := Lib.hid (show ∀ j u, ([Value.int .i64 nx])[j]? = some u → X7.cell? ((⟨X6.heap.size, 0, none⟩ : Addr).add j) = some u from by rw [hX7]; exact cell_one_new X6 (.int .i64 nx) 3)
      rw [← hX7]
      clear hX7 hbn HS6 HR6 HO6 HP6 HT6
      (try dsimp only)
      refine hK.out _ _ (by exact SQ.out _ _ HS7.out) (fun hHeld => ?_)
      clear hK K
      (try simp only [Act.put, List.setIfInBounds_toArray, List.set_cons_zero, List.set_cons_succ, List.getElem_toArray, List.getElem_cons_zero, List.getElem_cons_succ])
      refine wpAnyH_ready (rs := [7]) (by kernel_rfl) (by simp) ?_
      refine AllReadyH.cons rfl (fun K hK => ?_) AllReadyH.nil
      go_must (refine step_append_whered (by rfl) (.tmp 44) (.tmp 47) 24 (by rfl) b2 3 i0 (.int .i64 0) 1 8 Try.underlying24 hi0 hz0 hz1 hz2 rfl (by decide) (.slice none 0 0) 0 [] (by rfl) HP7.out ⟨X6.heap.size, 0, none⟩ 1 1 [.int .i64 nx] (by rfl) (by rfl) HLIT.out (ints_oneCell .i64 [nx]) (by unfold maxLen; omega) (by omega) (by omega) ?_)
      intro v8 w8 hown8 hgrow8 hwhere8
      obtain ⟨a8, c8, rfl⟩ := slice_own hown8
      have hs8 := hgrow8.size
      have HO8 := Lib.hid hown8
      have HW8 := Lib.hid hwhere8
      have HS8 := Lib.hid (HS7.out.grown hgrow8 (fun e => by first | (have := ob e; omega) | (simp [Value.ownBlock] at e; done)))
      have HR8 := Lib.hid (HR7.out.grown hgrow8 (fun e => by first | (have := ob e; omega) | (simp [Value.ownBlock] at e; done)))
      have HI8 := Lib.hid (HO7.out.kept hgrow8 (by cases hv : (Value.slice a5 1 c5).ownBlock with | none => exact .inl rfl | some g => exact .inr (fun e => by have := HN5.out g hv; first | (have := ob e.symm; omega) | (simp [Value.ownBlock] at e; done))))
      have HT8 := Lib.hid (HT7.out.trans (show Touch b1 w.heap.size X7 w8 from Touch.of hgrow8 (fun g hg => by first | (have := ob hg; omega) | (simp [Value.ownBlock] at hg; done))))
      clear hown8 hgrow8 hwhere8
      (try dsimp only)
      refine hK.out _ _ (by exact SQ.out _ _ HS8.out) (fun hHeld => ?_)
      clear hK K
      (try simp only [Act.put, List.setIfInBounds_toArray, List.set_cons_zero, List.set_cons_succ, List.getElem_toArray, List.getElem_cons_zero, List.getElem_cons_succ])
      first | (refine wpAnyH_take (i := 8) (v := ?_) rfl (by kernel_rfl) (by kernel_rfl) (by kernel_rfl) (fun _ _ _ h => h) (Or.inl ⟨by rfl, ?_⟩) (by assumption) ?_; rotate_left; (intro X hSw; (try dsimp only at hSw); go_simp; (try with_reducible rfl)); (try simp only [Act.put, List.setIfInBounds_toArray, List.set_cons_zero, List.set_cons_succ, List.getElem_toArray, List.getElem_cons_zero, List.getElem_cons_succ])) | fail "take 8"
      refine wpAnyH_ready (rs := [9]) (by kernel_rfl) (by simp) ?_
      refine AllReadyH.cons rfl (fun K hK => ?_) AllReadyH.nil
      have f1 := HS8.out.free 1
      obtain ⟨q0, q1, q2, q3, q4⟩ := HS8.out.cells
      go_simp
      have HS9 := Lib.hid (HS8.out.set1 (.slice a8 1 c8))
      (try dsimp only)
      refine hK.out _ _ (by exact SQ.out _ _ HS9.out) (fun hHeld => ?_)
      clear hK K
      (try simp only [Act.put, List.setIfInBounds_toArray, List.set_cons_zero, List.set_cons_succ, List.getElem_toArray, List.getElem_cons_zero, List.getElem_cons_succ])
      refine wpAnyH_done (by kernel_rfl) ?_ _
      obtain ⟨X9, hX9⟩ : ∃ X9, X9 = w8.setCell ⟨w.heap.size, 1, none⟩ (.slice a8 1 c8) := ⟨_, rfl⟩
      have hn8 : ∀ g, (Value.slice a8 1 c8).ownBlock = some g → g ≠ w.heap.size := fun g hg => by
        rcases HW8.out with e | ⟨g', e, hle⟩
        · rw [e] at hg; first | (have := ob hg; omega) | (simp [Value.ownBlock] at hg; done)
        · rw [e] at hg; obtain rfl := Option.some.inj hg; omega
      have hn58 : (Value.slice a5 1 c5).ownBlock = none ∨ (Value.slice a5 1 c5).ownBlock ≠ (Value.slice a8 1 c8).ownBlock := by
        cases hv : (Value.slice a5 1 c5).ownBlock with
        | none => exact .inl rfl
        | some g =>
          refine .inr (fun e => ?_)
          have h5 := (HO7.out.lt g hv).2
          rcases HW8.out with e' | ⟨g', e', hle⟩
          · rw [e'] at e
            have := HN5.out g hv
            first | (have := ob e.symm; omega) | (simp [Value.ownBlock] at e; done)
          · rw [e'] at e; obtain rfl := Option.some.inj e; omega
      have HN58 := Lib.hid hn58
      have HRW := Lib.hid (show X9.ownsRow b1 3 1 (.slice a5 1 c5) 1 [.int .i64 x] from by rw [hX9]; exact own_far HI8.out (fun g hg => by have := HN5.out g hg; omega))
      have HPW := Lib.hid (show X9.ownsRow b2 3 1 (.slice a8 1 c8) 1 [.int .i64 nx] from by rw [hX9]; exact own_far HO8.out hn8)
      have HS9 := Lib.hid (show Box5 X9 w.heap.size 26 (.slice a5 1 c5) (.slice a8 1 c8) (.int .i64 fi) (.int .i64 nx) (.int .i64 dr) from by rw [hX9]; exact HS9.out)
      have HR9 := Lib.hid (show Box5 X9 (w.heap.size + 1) 26 (.slice none 0 0) (.slice none 0 0) (.int .i64 0) (.int .i64 0) (.int .i64 0) from by rw [hX9]; exact HR8.out.other (by omega) _ _)
      have HT9 := Lib.hid (show Touch b1 w.heap.size w X9 from by rw [hX9]; exact HT8.out.far (Nat.le_refl _))
      have HPN := Lib.hid (show ∀ g, (Value.slice a8 1 c8).ownBlock = some g → g ≠ w.heap.size ∧ g ≠ w.heap.size + 1 from fun g hg => by
        rcases HW8.out with e | ⟨g', e, hle⟩
        · rw [e] at hg; first | (have := ob hg; omega) | (simp [Value.ownBlock] at hg; done)
        · rw [e] at hg; obtain rfl := Option.some.inj hg; omega)
      rw [← hX9]
      clear hX9 q0 q1 q2 q3 q4 f1 HS7 HS8 HR7 HR8 HO7 HO8 HI8 HP7 HT7 HT8 HW8 hn8 hn58 SQ HLIT
      obtain ⟨q0, q1, q2, q3, q4⟩ := HS9.out.cells
      have f9 := HS9.out.free
      obtain ⟨e0, e1, e2, e3, e4⟩ := HR9.out.cells
      have g9 := HR9.out.free
      have hrl9 := HR9.out.lt
      have hww : IntKind.i64.wrap (nx + 1) = nx + 1 := IntWalk.i64_in _ ⟨by omega, by omega⟩
      go_wp2_with fail
      refine bodyPost_ret (by simp [results, Try.results68, go_sem, *]; try rfl) rfl ?_
      obtain ⟨Y, hY⟩ : ∃ Y, Y = X9.setCell ⟨w.heap.size, 3, none⟩ (.int .i64 (nx + 1)) := ⟨_, rfl⟩
      have a1 : Y.ownsRow b1 3 1 (.slice a5 1 c5) 1 [.int .i64 x] := by rw [hY]; exact own_far HRW.out (fun g hg => by have := HN5.out g hg; omega)
      have a2 : Y.ownsRow b2 3 1 (.slice a8 1 c8) 1 [.int .i64 nx] := by rw [hY]; exact own_far HPW.out (fun g hg => (HPN.out g hg).1)
      have a3 : Touch b1 w.heap.size w Y := by rw [hY]; exact HT9.out.far (Nat.le_refl _)
      have hYs : w.heap.size + 1 < Y.heap.size := by rw [hY]; simpa [World.setCell] using hrl9
      rw [← hY]
      exact po_fin0 hb HN58.out (fun g hg => by have := HN5.out g hg; omega) (fun g hg => (HPN.out g hg).2) a1 a2 a3 (by omega) hYs _ _ _ _ _
    · go_simp
      obtain ⟨X7, hX7⟩ : ∃ X7, X7 = (X6.alloc (.cells #[.int .i64 nx] 3)).drew := ⟨_, rfl⟩
      have hbn : Below X6.heap.size X6 X7 := by rw [hX7]; exact ((Below.refl _ _).alloc (Nat.le_refl _) _).drew
      have hs7 : X7.heap.size = X6.heap.size + 1 := by rw [hX7]; simp [World.drew]
      have HS7 := Lib.hid (HS6.out.call hbn)
      have HR7 := Lib.hid (HR6.out.call hbn)
      have HO7 := Lib.hid (HO6.out.kept (Below.grownNone hbn none) (by cases hv : (Value.slice a5 1 c5).ownBlock <;> simp))
      have HP7 := Lib.hid (HP6.out.kept (Below.grownNone hbn none) (by cases hv : (Value.slice none 0 0).ownBlock <;> simp))
      have HT7 := Lib.hid (HT6.out.call hbn)
      have HLIT := Lib.hid (show ∀ j u, ([Value.int .i64 nx])[j]? = some u → X7.cell? ((⟨X6.heap.size, 0, none⟩ : Addr).add j) = some u from by rw [hX7]; exact cell_one_new X6 (.int .i64 nx) 3)
      rw [← hX7]
      clear hX7 hbn HS6 HR6 HO6 HP6 HT6
      (try dsimp only)
      refine hK.out _ _ (by exact SQ.out _ _ HS7.out) (fun hHeld => ?_)
      clear hK K
      (try simp only [Act.put, List.setIfInBounds_toArray, List.set_cons_zero, List.set_cons_succ, List.getElem_toArray, List.getElem_cons_zero, List.getElem_cons_succ])
      refine wpAnyH_ready (rs := [1]) (by kernel_rfl) (by simp) ?_
      refine AllReadyH.cons rfl (fun K hK => ?_) AllReadyH.nil
      obtain ⟨q0, q1, q2, q3, q4⟩ := HS7.out.cells
      go_simp
      clear q0 q1 q2 q3 q4
      (try dsimp only)
      refine hK.out _ _ (by exact SQ.out _ _ HS7.out) (fun hHeld => ?_)
      clear hK K
      (try simp only [Act.put, List.setIfInBounds_toArray, List.set_cons_zero, List.set_cons_succ, List.getElem_toArray, List.getElem_cons_zero, List.getElem_cons_succ])
      first | (refine wpAnyH_take (i := 3) (v := ?_) rfl (by kernel_rfl) (by kernel_rfl) (by kernel_rfl) (fun _ _ _ h => h) (Or.inl ⟨by rfl, ?_⟩) (by assumption) ?_; rotate_left; (intro X hSw; (try dsimp only at hSw); go_simp; (try with_reducible rfl)); (try simp only [Act.put, List.setIfInBounds_toArray, List.set_cons_zero, List.set_cons_succ, List.getElem_toArray, List.getElem_cons_zero, List.getElem_cons_succ])) | fail "take 3"
      refine wpAnyH_ready (rs := [7]) (by kernel_rfl) (by simp) ?_
      refine AllReadyH.cons rfl (fun K hK => ?_) AllReadyH.nil
      go_must (refine step_append_whered (by rfl) (.tmp 44) (.tmp 47) 24 (by rfl) b2 3 i0 (.int .i64 0) 1 8 Try.underlying24 hi0 hz0 hz1 hz2 rfl (by decide) (.slice none 0 0) 0 [] (by rfl) HP7.out ⟨X6.heap.size, 0, none⟩ 1 1 [.int .i64 nx] (by rfl) (by rfl) HLIT.out (ints_oneCell .i64 [nx]) (by unfold maxLen; omega) (by omega) (by omega) ?_)
      intro v8 w8 hown8 hgrow8 hwhere8
      obtain ⟨a8, c8, rfl⟩ := slice_own hown8
      have hs8 := hgrow8.size
      have HO8 := Lib.hid hown8
      have HW8 := Lib.hid hwhere8
      have HS8 := Lib.hid (HS7.out.grown hgrow8 (fun e => by first | (have := ob e; omega) | (simp [Value.ownBlock] at e; done)))
      have HR8 := Lib.hid (HR7.out.grown hgrow8 (fun e => by first | (have := ob e; omega) | (simp [Value.ownBlock] at e; done)))
      have HI8 := Lib.hid (HO7.out.kept hgrow8 (by cases hv : (Value.slice a5 1 c5).ownBlock with | none => exact .inl rfl | some g => exact .inr (fun e => by have := HN5.out g hv; first | (have := ob e.symm; omega) | (simp [Value.ownBlock] at e; done))))
      have HT8 := Lib.hid (HT7.out.trans (show Touch b1 w.heap.size X7 w8 from Touch.of hgrow8 (fun g hg => by first | (have := ob hg; omega) | (simp [Value.ownBlock] at hg; done))))
      clear hown8 hgrow8 hwhere8
      (try dsimp only)
      refine hK.out _ _ (by exact SQ.out _ _ HS8.out) (fun hHeld => ?_)
      clear hK K
      (try simp only [Act.put, List.setIfInBounds_toArray, List.set_cons_zero, List.set_cons_succ, List.getElem_toArray, List.getElem_cons_zero, List.getElem_cons_succ])
      first | (refine wpAnyH_take (i := 8) (v := ?_) rfl (by kernel_rfl) (by kernel_rfl) (by kernel_rfl) (fun _ _ _ h => h) (Or.inl ⟨by rfl, ?_⟩) (by assumption) ?_; rotate_left; (intro X hSw; (try dsimp only at hSw); go_simp; (try with_reducible rfl)); (try simp only [Act.put, List.setIfInBounds_toArray, List.set_cons_zero, List.set_cons_succ, List.getElem_toArray, List.getElem_cons_zero, List.getElem_cons_succ])) | fail "take 8"
      refine wpAnyH_ready (rs := [9]) (by kernel_rfl) (by simp) ?_
      refine AllReadyH.cons rfl (fun K hK => ?_) AllReadyH.nil
      have f1 := HS8.out.free 1
      obtain ⟨q0, q1, q2, q3, q4⟩ := HS8.out.cells
      go_simp
      have HS9 := Lib.hid (HS8.out.set1 (.slice a8 1 c8))
      (try dsimp only)
      refine hK.out _ _ (by exact SQ.out _ _ HS9.out) (fun hHeld => ?_)
      clear hK K
      (try simp only [Act.put, List.setIfInBounds_toArray, List.set_cons_zero, List.set_cons_succ, List.getElem_toArray, List.getElem_cons_zero, List.getElem_cons_succ])
      refine wpAnyH_done (by kernel_rfl) ?_ _
      obtain ⟨X9, hX9⟩ : ∃ X9, X9 = w8.setCell ⟨w.heap.size, 1, none⟩ (.slice a8 1 c8) := ⟨_, rfl⟩
      have hn8 : ∀ g, (Value.slice a8 1 c8).ownBlock = some g → g ≠ w.heap.size := fun g hg => by
        rcases HW8.out with e | ⟨g', e, hle⟩
        · rw [e] at hg; first | (have := ob hg; omega) | (simp [Value.ownBlock] at hg; done)
        · rw [e] at hg; obtain rfl := Option.some.inj hg; omega
      have hn58 : (Value.slice a5 1 c5).ownBlock = none ∨ (Value.slice a5 1 c5).ownBlock ≠ (Value.slice a8 1 c8).ownBlock := by
        cases hv : (Value.slice a5 1 c5).ownBlock with
        | none => exact .inl rfl
        | some g =>
          refine .inr (fun e => ?_)
          have h5 := (HO7.out.lt g hv).2
          rcases HW8.out with e' | ⟨g', e', hle⟩
          · rw [e'] at e
            have := HN5.out g hv
            first | (have := ob e.symm; omega) | (simp [Value.ownBlock] at e; done)
          · rw [e'] at e; obtain rfl := Option.some.inj e; omega
      have HN58 := Lib.hid hn58
      have HRW := Lib.hid (show X9.ownsRow b1 3 1 (.slice a5 1 c5) 1 [.int .i64 x] from by rw [hX9]; exact own_far HI8.out (fun g hg => by have := HN5.out g hg; omega))
      have HPW := Lib.hid (show X9.ownsRow b2 3 1 (.slice a8 1 c8) 1 [.int .i64 nx] from by rw [hX9]; exact own_far HO8.out hn8)
      have HS9 := Lib.hid (show Box5 X9 w.heap.size 26 (.slice a5 1 c5) (.slice a8 1 c8) (.int .i64 fi) (.int .i64 nx) (.int .i64 dr) from by rw [hX9]; exact HS9.out)
      have HR9 := Lib.hid (show Box5 X9 (w.heap.size + 1) 26 (.slice none 0 0) (.slice none 0 0) (.int .i64 0) (.int .i64 0) (.int .i64 0) from by rw [hX9]; exact HR8.out.other (by omega) _ _)
      have HT9 := Lib.hid (show Touch b1 w.heap.size w X9 from by rw [hX9]; exact HT8.out.far (Nat.le_refl _))
      have HPN := Lib.hid (show ∀ g, (Value.slice a8 1 c8).ownBlock = some g → g ≠ w.heap.size ∧ g ≠ w.heap.size + 1 from fun g hg => by
        rcases HW8.out with e | ⟨g', e, hle⟩
        · rw [e] at hg; first | (have := ob hg; omega) | (simp [Value.ownBlock] at hg; done)
        · rw [e] at hg; obtain rfl := Option.some.inj hg; omega)
      rw [← hX9]
      clear hX9 q0 q1 q2 q3 q4 f1 HS7 HS8 HR7 HR8 HO7 HO8 HI8 HP7 HT7 HT8 HW8 hn8 hn58 SQ HLIT
      obtain ⟨q0, q1, q2, q3, q4⟩ := HS9.out.cells
      have f9 := HS9.out.free
      obtain ⟨e0, e1, e2, e3, e4⟩ := HR9.out.cells
      have g9 := HR9.out.free
      have hrl9 := HR9.out.lt
      have hww : IntKind.i64.wrap (nx + 1) = nx + 1 := IntWalk.i64_in _ ⟨by omega, by omega⟩
      go_wp2_with fail
      refine bodyPost_ret (by simp [results, Try.results68, go_sem, *]; try rfl) rfl ?_
      obtain ⟨Y, hY⟩ : ∃ Y, Y = X9.setCell ⟨w.heap.size, 3, none⟩ (.int .i64 (nx + 1)) := ⟨_, rfl⟩
      have a1 : Y.ownsRow b1 3 1 (.slice a5 1 c5) 1 [.int .i64 x] := by rw [hY]; exact own_far HRW.out (fun g hg => by have := HN5.out g hg; omega)
      have a2 : Y.ownsRow b2 3 1 (.slice a8 1 c8) 1 [.int .i64 nx] := by rw [hY]; exact own_far HPW.out (fun g hg => (HPN.out g hg).1)
      have a3 : Touch b1 w.heap.size w Y := by rw [hY]; exact HT9.out.far (Nat.le_refl _)
      have hYs : w.heap.size + 1 < Y.heap.size := by rw [hY]; simpa [World.setCell] using hrl9
      rw [← hY]
      exact po_fin0 hb HN58.out (fun g hg => by have := HN5.out g hg; omega) (fun g hg => (HPN.out g hg).2) a1 a2 a3 (by omega) hYs _ _ _ _ _

set_option maxRecDepth 8000 in
set_option maxHeartbeats 4000000 in
theorem pushOver_ns {k : Int} {T fl : Nat} (O : OrdAt k T fl) (b1 b2 g1 ic g2 pc : Nat) (fi nx dr x : Int) (w : World)
    (hI : w.ownsRow b1 3 1 (.slice none 0 0) 0 []) (hP : w.ownsRow b2 3 1 (.slice (some ⟨g2, 0, none⟩) 0 pc) 0 []) (hlt : ∀ g, (Value.slice none 0 0).ownBlock = some g → g < b2) (hb : b1 ≤ b2) (hb2 : b2 ≤ w.heap.size)
    (hx0 : 0 ≤ nx) (hx1 : nx ≤ 900000) :
    Calls Try.prog 68 #[.iface T (.agg #[]), .agg #[.slice none 0 0, .slice (some ⟨g2, 0, none⟩) 0 pc, .int .i64 fi, .int .i64 nx, .int .i64 dr], .int .i64 x] w (PoFin b1 (Agg.pushD k ⟨[], [], fi, nx, dr⟩ x) w) := by
  obtain ⟨i0, hi0, hz0, hz1, hz2⟩ := info_parts infoInt
  have HFB := Lib.hid (show (∀ g, (Value.slice none 0 0).ownBlock = some g → b1 ≤ g ∧ g < b2) ∧ (∀ g, (Value.slice (some ⟨g2, 0, none⟩) 0 pc).ownBlock = some g → b2 ≤ g ∧ g < w.heap.size) from ⟨fun g hg => ⟨(hI.lt g hg).1, hlt g hg⟩, fun g hg => hP.lt g hg⟩)
  obtain ⟨hb2g, hg2w⟩ := HFB.out.2 g2 rfl
  have HI := Lib.hid hI
  have HP := Lib.hid hP
  have HLT := Lib.hid hlt
  obtain ⟨W, hW⟩ : ∃ W, W = (w.alloc (.cells #[.slice none 0 0, .slice (some ⟨g2, 0, none⟩) 0 pc, .int .i64 fi, .int .i64 nx, .int .i64 dr] 26)).alloc (.cells #[.slice none 0 0, .slice none 0 0, .int .i64 0, .int .i64 0, .int .i64 0] 26) := ⟨_, rfl⟩
  have HS := Lib.hid (show Box5 W w.heap.size 26 (.slice none 0 0) (.slice (some ⟨g2, 0, none⟩) 0 pc) (.int .i64 fi) (.int .i64 nx) (.int .i64 dr) from by rw [hW]; exact (Box5.new w _ _ _ _ _ _).alloc _)
  have HR := Lib.hid (show Box5 W (w.heap.size + 1) 26 (.slice none 0 0) (.slice none 0 0) (.int .i64 0) (.int .i64 0) (.int .i64 0) from by rw [hW]; exact Box5.new1 _ _ _ _ _ _ (by simp))
  have HB := Lib.hid (show Below w.heap.size w W from by rw [hW]; exact ((Below.refl _ _).alloc (Nat.le_refl _) _).alloc (by simp) _)
  clear hI hP hlt O
  go_enter Try.func68, Try.ntmps68
  go_upto_region 1 with (fail)
  rw [← hW]
  clear hW
  obtain ⟨q0, q1, q2, q3, q4⟩ := HS.out.cells
  go_wp2_with fail
  clear q0 q1 q2 q3 q4
  go_loopw [7] (fun kv wr => kv = .int .i64 0 ∧ Hid (Box5 wr w.heap.size 26 (.slice none 0 0) (.slice (some ⟨g2, 0, none⟩) 0 pc) (.int .i64 fi) (.int .i64 nx) (.int .i64 dr)) ∧ Hid (Box5 wr (w.heap.size + 1) 26 (.slice none 0 0) (.slice none 0 0) (.int .i64 0) (.int .i64 0) (.int .i64 0)) ∧ Hid (Below w.heap.size w wr)) (fun kv _ => 0)
  case atStart => exact ⟨rfl, HS, HR, HB⟩
  case round =>
    obtain ⟨rfl, hs, hr, hw⟩ := hrel
    clear HS HR HB
    obtain ⟨q0, q1, q2, q3, q4⟩ := hs.out.cells
    go_wp2_with fail
    refine wp_region_held_drew (S := (fun X => X.cell? ⟨w.heap.size, 0, none⟩ = some (.slice none 0 0))) (by kernel_rfl) (by assumption) (fun hHeld => ?_)
    first | (refine wpAnyH_take (i := 0) (v := ?_) rfl (by kernel_rfl) (by kernel_rfl) (by kernel_rfl) (fun _ _ _ h => h) (Or.inl ⟨by rfl, ?_⟩) (by assumption) ?_; rotate_left; (intro X hSw; (try dsimp only at hSw); go_simp; (try with_reducible rfl)); (try simp only [Act.put, List.setIfInBounds_toArray, List.set_cons_zero, List.set_cons_succ, List.getElem_toArray, List.getElem_cons_zero, List.getElem_cons_succ])) | fail "take 0"
    first | (refine wpAnyH_take (i := 1) (v := ?_) rfl (by kernel_rfl) (by kernel_rfl) (by kernel_rfl) (fun _ _ _ h => h) (Or.inl ⟨by rfl, ?_⟩) (by assumption) ?_; rotate_left; (intro X hSw; (try dsimp only at hSw); go_simp; (try with_reducible rfl)); (try simp only [Act.put, List.setIfInBounds_toArray, List.set_cons_zero, List.set_cons_succ, List.getElem_toArray, List.getElem_cons_zero, List.getElem_cons_succ])) | fail "take 1"
    first | (refine wpAnyH_take (i := 2) (v := ?_) rfl (by kernel_rfl) (by kernel_rfl) (by kernel_rfl) (fun _ _ _ h => h) (Or.inl ⟨by rfl, ?_⟩) (by assumption) ?_; rotate_left; (intro X hSw; (try dsimp only at hSw); go_simp; (try with_reducible rfl)); (try simp only [Act.put, List.setIfInBounds_toArray, List.set_cons_zero, List.set_cons_succ, List.getElem_toArray, List.getElem_cons_zero, List.getElem_cons_succ])) | fail "take 2"
    first | (refine wpAnyH_take (i := 3) (v := undef) rfl (by kernel_rfl) (by kernel_rfl) (by kernel_rfl) (fun _ _ _ h => h) (Or.inr ⟨by rfl, rfl⟩) (by assumption) ?_; (try simp only [Act.put, List.setIfInBounds_toArray, List.set_cons_zero, List.set_cons_succ, List.getElem_toArray, List.getElem_cons_zero, List.getElem_cons_succ])) | fail "skip 3"
    first | (refine wpAnyH_take (i := 4) (v := undef) rfl (by kernel_rfl) (by kernel_rfl) (by kernel_rfl) (fun _ _ _ h => h) (Or.inr ⟨by rfl, rfl⟩) (by assumption) ?_; (try simp only [Act.put, List.setIfInBounds_toArray, List.set_cons_zero, List.set_cons_succ, List.getElem_toArray, List.getElem_cons_zero, List.getElem_cons_succ])) | fail "skip 4"
    first | (refine wpAnyH_take (i := 5) (v := undef) rfl (by kernel_rfl) (by kernel_rfl) (by kernel_rfl) (fun _ _ _ h => h) (Or.inr ⟨by rfl, rfl⟩) (by assumption) ?_; (try simp only [Act.put, List.setIfInBounds_toArray, List.set_cons_zero, List.set_cons_succ, List.getElem_toArray, List.getElem_cons_zero, List.getElem_cons_succ])) | fail "skip 5"
    first | (refine wpAnyH_take (i := 6) (v := undef) rfl (by kernel_rfl) (by kernel_rfl) (by kernel_rfl) (fun _ _ _ h => h) (Or.inr ⟨by rfl, rfl⟩) (by assumption) ?_; (try simp only [Act.put, List.setIfInBounds_toArray, List.set_cons_zero, List.set_cons_succ, List.getElem_toArray, List.getElem_cons_zero, List.getElem_cons_succ])) | fail "skip 6"
    first | (refine wpAnyH_take (i := 7) (v := undef) rfl (by kernel_rfl) (by kernel_rfl) (by kernel_rfl) (fun _ _ _ h => h) (Or.inr ⟨by rfl, rfl⟩) (by assumption) ?_; (try simp only [Act.put, List.setIfInBounds_toArray, List.set_cons_zero, List.set_cons_succ, List.getElem_toArray, List.getElem_cons_zero, List.getElem_cons_succ])) | fail "skip 7"
    first | (refine wpAnyH_take (i := 8) (v := undef) rfl (by kernel_rfl) (by kernel_rfl) (by kernel_rfl) (fun _ _ _ h => h) (Or.inr ⟨by rfl, rfl⟩) (by assumption) ?_; (try simp only [Act.put, List.setIfInBounds_toArray, List.set_cons_zero, List.set_cons_succ, List.getElem_toArray, List.getElem_cons_zero, List.getElem_cons_succ])) | fail "skip 8"
    first | (refine wpAnyH_take (i := 9) (v := undef) rfl (by kernel_rfl) (by kernel_rfl) (by kernel_rfl) (fun _ _ _ h => h) (Or.inr ⟨by rfl, rfl⟩) (by assumption) ?_; (try simp only [Act.put, List.setIfInBounds_toArray, List.set_cons_zero, List.set_cons_succ, List.getElem_toArray, List.getElem_cons_zero, List.getElem_cons_succ])) | fail "skip 9"
    first | (refine wpAnyH_take (i := 10) (v := undef) rfl (by kernel_rfl) (by kernel_rfl) (by kernel_rfl) (fun _ _ _ h => h) (Or.inr ⟨by rfl, rfl⟩) (by assumption) ?_; (try simp only [Act.put, List.setIfInBounds_toArray, List.set_cons_zero, List.set_cons_succ, List.getElem_toArray, List.getElem_cons_zero, List.getElem_cons_succ])) | fail "skip 10"
    first | (refine wpAnyH_take (i := 11) (v := undef) rfl (by kernel_rfl) (by kernel_rfl) (by kernel_rfl) (fun _ _ _ h => h) (Or.inr ⟨by rfl, rfl⟩) (by assumption) ?_; (try simp only [Act.put, List.setIfInBounds_toArray, List.set_cons_zero, List.set_cons_succ, List.getElem_toArray, List.getElem_cons_zero, List.getElem_cons_succ])) | fail "skip 11"
    first | (refine wpAnyH_take (i := 12) (v := undef) rfl (by kernel_rfl) (by kernel_rfl) (by kernel_rfl) (fun _ _ _ h => h) (Or.inr ⟨by rfl, rfl⟩) (by assumption) ?_; (try simp only [Act.put, List.setIfInBounds_toArray, List.set_cons_zero, List.set_cons_succ, List.getElem_toArray, List.getElem_cons_zero, List.getElem_cons_succ])) | fail "skip 12"
    first | (refine wpAnyH_take (i := 13) (v := undef) rfl (by kernel_rfl) (by kernel_rfl) (by kernel_rfl) (fun _ _ _ h => h) (Or.inr ⟨by rfl, rfl⟩) (by assumption) ?_; (try simp only [Act.put, List.setIfInBounds_toArray, List.set_cons_zero, List.set_cons_succ, List.getElem_toArray, List.getElem_cons_zero, List.getElem_cons_succ])) | fail "skip 13"
    first | (refine wpAnyH_take (i := 14) (v := undef) rfl (by kernel_rfl) (by kernel_rfl) (by kernel_rfl) (fun _ _ _ h => h) (Or.inr ⟨by rfl, rfl⟩) (by assumption) ?_; (try simp only [Act.put, List.setIfInBounds_toArray, List.set_cons_zero, List.set_cons_succ, List.getElem_toArray, List.getElem_cons_zero, List.getElem_cons_succ])) | fail "skip 14"
    first | (refine wpAnyH_take (i := 15) (v := ?_) rfl (by kernel_rfl) (by kernel_rfl) (by kernel_rfl) (fun _ _ _ h => h) (Or.inl ⟨by rfl, ?_⟩) (by assumption) ?_; rotate_left; (intro X hSw; (try dsimp only at hSw); go_simp; (try with_reducible rfl)); (try simp only [Act.put, List.setIfInBounds_toArray, List.set_cons_zero, List.set_cons_succ, List.getElem_toArray, List.getElem_cons_zero, List.getElem_cons_succ])) | fail "take 15"
    refine wpAnyH_done (by kernel_rfl) ?_ _
    obtain ⟨X3, hX3⟩ : ∃ X3, X3 = wr.drew := ⟨_, rfl⟩
    have HS3 := Lib.hid (show Box5 X3 w.heap.size 26 (.slice none 0 0) (.slice (some ⟨g2, 0, none⟩) 0 pc) (.int .i64 fi) (.int .i64 nx) (.int .i64 dr) from by rw [hX3]; exact hs.out)
    have HR3 := Lib.hid (show Box5 X3 (w.heap.size + 1) 26 (.slice none 0 0) (.slice none 0 0) (.int .i64 0) (.int .i64 0) (.int .i64 0) from by rw [hX3]; exact hr.out)
    have HB3 := Lib.hid (show Below w.heap.size w X3 from by rw [hX3]; exact hw.out.drew)
    rw [← hX3]
    clear hX3 hs hr hw q0 q1 q2 q3 q4 hHeld
    have hsx := HB3.out.size
    have hsl := HS3.out.lt
    have hrl := HR3.out.lt
    have HI3 := Lib.hid (HI.out.kept (Below.grownNone HB3.out none) (by cases hv : (Value.slice none 0 0).ownBlock <;> simp))
    have HP3 := Lib.hid (HP.out.kept (Below.grownNone HB3.out none) (by cases hv : (Value.slice (some ⟨g2, 0, none⟩) 0 pc).ownBlock <;> simp))
    have HPG := Lib.hid (fun g (hg : (Value.slice (some ⟨g2, 0, none⟩) 0 pc).ownBlock = some g) => HP.out.lt g hg)
    have HPI := Lib.hid (HI3.out)
    have HPP := Lib.hid (HP3.out)
    obtain ⟨q0, q1, q2, q3, q4⟩ := HS3.out.cells
    go_upto_region 6 with (
      at_builtin
      go_must (refine wpList_append_where rfl (.tmp 36) (.tmp 38) 24 rfl b1 3 i0 (.int .i64 0) 1 8 Try.underlying24 hi0 hz0 hz1 hz2 rfl (by decide) (.slice none 0 0) 0 [] rfl (HPI.out.alloc _) ⟨X3.heap.size, 0, none⟩ 1 1 [.int .i64 x] rfl rfl (cell_one_new _ _ _) (ints_oneCell .i64 [x]) (by unfold maxLen; omega) (by omega) (by simp; omega) ?_)
      go_loud (
        intro v5 w5 hown5 hgrow5 hwhere5
        obtain ⟨a5, c5, rfl⟩ := slice_own hown5
        have HO5 := Lib.hid hown5
        have HG5 := Lib.hid hgrow5
        have HW5 := Lib.hid hwhere5
        have HS5 := Lib.hid ((HS3.out.alloc (.cells #[.int .i64 x] 3)).grown hgrow5 (fun e => by first | (have := ob e; omega) | (simp [Value.ownBlock] at e; done)))
        have HR5 := Lib.hid ((HR3.out.alloc (.cells #[.int .i64 x] 3)).grown hgrow5 (fun e => by first | (have := ob e; omega) | (simp [Value.ownBlock] at e; done)))
        have HP5 := Lib.hid ((HPP.out.alloc (.cells #[.int .i64 x] 3)).kept hgrow5 (by cases hv : (Value.slice (some ⟨g2, 0, none⟩) 0 pc).ownBlock with | none => exact .inl rfl | some g => exact .inr (fun e => by first | (have := ob e.symm; have := ob hv; omega) | (simp [Value.ownBlock] at hv; done) | (simp [Value.ownBlock] at e; done))))
        have f0 := HS5.out.free 0
        obtain ⟨q0, q1, q2, q3, q4⟩ := HS5.out.cells
        clear hown5 hgrow5 hwhere5))
    have hs5 : X3.heap.size + 1 ≤ w5.heap.size := by have := HG5.out.size; simpa using this
    have HN5 := Lib.hid (show ∀ g, (Value.slice a5 1 c5).ownBlock = some g → g < b2 ∨ X3.heap.size ≤ g from fun g hg => by
      rcases HW5.out with e | ⟨g', e, hle⟩
      · exact .inl (by rw [e] at hg; first | (have := ob hg; omega) | (simp [Value.ownBlock] at hg; done))
      · rw [e] at hg; obtain rfl := Option.some.inj hg; simp at hle; exact .inr (by omega))
    obtain ⟨X6, hX6⟩ : ∃ X6, X6 = w5.setCell ⟨w.heap.size, 0, none⟩ (.slice a5 1 c5) := ⟨_, rfl⟩
    have HS6 := Lib.hid (show Box5 X6 w.heap.size 26 (.slice a5 1 c5) (.slice (some ⟨g2, 0, none⟩) 0 pc) (.int .i64 fi) (.int .i64 nx) (.int .i64 dr) from by rw [hX6]; exact HS5.out.set0 _)
    have HR6 := Lib.hid (show Box5 X6 (w.heap.size + 1) 26 (.slice none 0 0) (.slice none 0 0) (.int .i64 0) (.int .i64 0) (.int .i64 0) from by rw [hX6]; exact HR5.out.other (by omega) _ _)
    have HO6 := Lib.hid (show X6.ownsRow b1 3 1 (.slice a5 1 c5) 1 [.int .i64 x] from by
      rw [hX6]
      exact own_far HO5.out (fun g hg => by have := HN5.out g hg; omega))
    have HP6 := Lib.hid (show X6.ownsRow b2 3 1 (.slice (some ⟨g2, 0, none⟩) 0 pc) 0 [] from by
      rw [hX6]
      exact own_far HP5.out (fun g hg => by first | (have := ob hg; omega) | (simp [Value.ownBlock] at hg; done)))
    have HT6 := Lib.hid (show Touch b1 w.heap.size w X6 from by
      rw [hX6]
      exact Touch.far ((((Touch.refl b1 w.heap.size w).call HB3.out).call ((Below.refl X3.heap.size X3).alloc (Nat.le_refl _) _)).trans (Touch.of HG5.out (fun g hg => by first | (have := ob hg; omega) | (simp [Value.ownBlock] at hg; done)))) (Nat.le_refl _))
    have hs6 : X3.heap.size + 1 ≤ X6.heap.size := by rw [hX6]; simpa [World.setCell] using hs5
    rw [← hX6]
    clear hX6 q0 q1 q2 q3 q4 f0 HS5 HR5 HP5 HO5 HG5 HW5 HPI HPP HI3 HP3 HS3 HR3 HB3
    obtain ⟨q0, q1, q2, q3, q4⟩ := HS6.out.cells
    have SQ := Lib.hid (show ∀ (X : World) (v : Value), Box5 X w.heap.size 26 (.slice a5 1 c5) v (.int .i64 fi) (.int .i64 nx) (.int .i64 dr) → X.cell? ⟨w.heap.size, 3, none⟩ = some (.int .i64 nx) from fun X v h => h.cells.2.2.2.1)
    refine wp_region_held_drew (S := (fun X => X.cell? ⟨w.heap.size, 3, none⟩ = some (.int .i64 nx))) (by kernel_rfl) (by exact q3) (fun hHeld => ?_)
    clear q0 q1 q2 q3 q4
    first | (refine wpAnyH_take (i := 0) (v := ?_) rfl (by kernel_rfl) (by kernel_rfl) (by kernel_rfl) (fun _ _ _ h => h) (Or.inl ⟨by rfl, ?_⟩) (by assumption) ?_; rotate_left; (intro X hSw; (try dsimp only at hSw); go_simp; (try with_reducible rfl)); (try simp only [Act.put, List.setIfInBounds_toArray, List.set_cons_zero, List.set_cons_succ, List.getElem_toArray, List.getElem_cons_zero, List.getElem_cons_succ])) | fail "take 0"
    first | (refine wpAnyH_take (i := 2) (v := ?_) rfl (by kernel_rfl) (by kernel_rfl) (by kernel_rfl) (fun _ _ _ h => h) (Or.inl ⟨by rfl, ?_⟩) (by assumption) ?_; rotate_left; (intro X hSw; (try dsimp only at hSw); go_simp; (try with_reducible rfl)); (try simp only [Act.put, List.setIfInBounds_toArray, List.set_cons_zero, List.set_cons_succ, List.getElem_toArray, List.getElem_cons_zero, List.getElem_cons_succ])) | fail "take 2"
    first | (refine wpAnyH_take (i := 4) (v := ?_) rfl (by kernel_rfl) (by kernel_rfl) (by kernel_rfl) (fun _ _ _ h => h) (Or.inl ⟨by rfl, ?_⟩) (by assumption) ?_; rotate_left; (intro X hSw; (try dsimp only at hSw); go_simp; (try with_reducible rfl)); (try simp only [Act.put, List.setIfInBounds_toArray, List.set_cons_zero, List.set_cons_succ, List.getElem_toArray, List.getElem_cons_zero, List.getElem_cons_succ])) | fail "take 4"
    first | (refine wpAnyH_take (i := 5) (v := ?_) rfl (by kernel_rfl) (by kernel_rfl) (by kernel_rfl) (fun _ _ _ h => h) (Or.inl ⟨by rfl, ?_⟩) (by assumption) ?_; rotate_left; (intro X hSw; (try dsimp only at hSw); go_simp; (try with_reducible rfl)); (try simp only [Act.put, List.setIfInBounds_toArray, List.set_cons_zero, List.set_cons_succ, List.getElem_toArray, List.getElem_cons_zero, List.getElem_cons_succ])) | fail "take 5"
    refine wpAnyH_ready (rs := [1, 6]) (by kernel_rfl) (by simp) ?_
    refine AllReadyH.cons rfl (fun K hK => ?_) (AllReadyH.cons rfl (fun K hK => ?_) AllReadyH.nil)

    · obtain ⟨q0, q1, q2, q3, q4⟩ := HS6.out.cells
      go_simp
      clear q0 q1 q2 q3 q4
      (try dsimp only)
      refine hK.out _ _ (by exact SQ.out _ _ HS6.out) (fun hHeld => ?_)
      clear hK K
      (try simp only [Act.put, List.setIfInBounds_toArray, List.set_cons_zero, List.set_cons_succ, List.getElem_toArray, List.getElem_cons_zero, List.getElem_cons_succ])
      first | (refine wpAnyH_take (i := 3) (v := ?_) rfl (by kernel_rfl) (by kernel_rfl) (by kernel_rfl) (fun _ _ _ h => h) (Or.inl ⟨by rfl, ?_⟩) (by assumption) ?_; rotate_left; (intro X hSw; (try dsimp only at hSw); go_simp; (try with_reducible rfl)); (try simp only [Act.put, List.setIfInBounds_toArray, List.set_cons_zero, List.set_cons_succ, List.getElem_toArray, List.getElem_cons_zero, List.getElem_cons_succ])) | fail "take 3"
      refine wpAnyH_ready (rs := [6]) (by kernel_rfl) (by simp) ?_
      refine AllReadyH.cons rfl (fun K hK => ?_) AllReadyH.nil
      go_simp
      obtain ⟨X7, hX7⟩ : ∃ X7, X7 = (X6.alloc (.cells #[.int .i64 nx] 3)).drew := ⟨_, rfl⟩
      have hbn : Below X6.heap.size X6 X7 := by rw [hX7]; exact ((Below.refl _ _).alloc (Nat.le_refl _) _).drew
      have hs7 : X7.heap.size = X6.heap.size + 1 := by rw [hX7]; simp [World.drew]
      have HS7 := Lib.hid (HS6.out.call hbn)
      have HR7 := Lib.hid (HR6.out.call hbn)
      have HO7 := Lib.hid (HO6.out.kept (Below.grownNone hbn none) (by cases hv : (Value.slice a5 1 c5).ownBlock <;> simp))
      have HP7 := Lib.hid (HP6.out.kept (Below.grownNone hbn none) (by cases hv : (Value.slice (some ⟨g2, 0, none⟩) 0 pc).ownBlock <;> simp))
      have HT7 := Lib.hid (HT6.out.call hbn)
      have HLIT := Lib.hid (show ∀ j u, ([Value.int .i64 nx])[j]? = some u → X7.cell? ((⟨X6.heap.size, 0, none⟩ : Addr).add j) = some u from by rw [hX7]; exact cell_one_new X6 (.int .i64 nx) 3)
      rw [← hX7]
      clear hX7 hbn HS6 HR6 HO6 HP6 HT6
      (try dsimp only)
      refine hK.out _ _ (by exact SQ.out _ _ HS7.out) (fun hHeld => ?_)
      clear hK K
      (try simp only [Act.put, List.setIfInBounds_toArray, List.set_cons_zero, List.set_cons_succ, List.getElem_toArray, List.getElem_cons_zero, List.getElem_cons_succ])
      refine wpAnyH_ready (rs := [7]) (by kernel_rfl) (by simp) ?_
      refine AllReadyH.cons rfl (fun K hK => ?_) AllReadyH.nil
      go_must (refine step_append_whered (by rfl) (.tmp 44) (.tmp 47) 24 (by rfl) b2 3 i0 (.int .i64 0) 1 8 Try.underlying24 hi0 hz0 hz1 hz2 rfl (by decide) (.slice (some ⟨g2, 0, none⟩) 0 pc) 0 [] (by rfl) HP7.out ⟨X6.heap.size, 0, none⟩ 1 1 [.int .i64 nx] (by rfl) (by rfl) HLIT.out (ints_oneCell .i64 [nx]) (by unfold maxLen; omega) (by omega) (by omega) ?_)
      intro v8 w8 hown8 hgrow8 hwhere8
      obtain ⟨a8, c8, rfl⟩ := slice_own hown8
      have hs8 := hgrow8.size
      have HO8 := Lib.hid hown8
      have HW8 := Lib.hid hwhere8
      have HS8 := Lib.hid (HS7.out.grown hgrow8 (fun e => by first | (have := ob e; omega) | (simp [Value.ownBlock] at e; done)))
      have HR8 := Lib.hid (HR7.out.grown hgrow8 (fun e => by first | (have := ob e; omega) | (simp [Value.ownBlock] at e; done)))
      have HI8 := Lib.hid (HO7.out.kept hgrow8 (by cases hv : (Value.slice a5 1 c5).ownBlock with | none => exact .inl rfl | some g => exact .inr (fun e => by have := HN5.out g hv; first | (have := ob e.symm; omega) | (simp [Value.ownBlock] at e; done))))
      have HT8 := Lib.hid (HT7.out.trans (show Touch b1 w.heap.size X7 w8 from Touch.of hgrow8 (fun g hg => by first | (have := ob hg; omega) | (simp [Value.ownBlock] at hg; done))))
      clear hown8 hgrow8 hwhere8
      (try dsimp only)
      refine hK.out _ _ (by exact SQ.out _ _ HS8.out) (fun hHeld => ?_)
      clear hK K
      (try simp only [Act.put, List.setIfInBounds_toArray, List.set_cons_zero, List.set_cons_succ, List.getElem_toArray, List.getElem_cons_zero, List.getElem_cons_succ])
      first | (refine wpAnyH_take (i := 8) (v := ?_) rfl (by kernel_rfl) (by kernel_rfl) (by kernel_rfl) (fun _ _ _ h => h) (Or.inl ⟨by rfl, ?_⟩) (by assumption) ?_; rotate_left; (intro X hSw; (try dsimp only at hSw); go_simp; (try with_reducible rfl)); (try simp only [Act.put, List.setIfInBounds_toArray, List.set_cons_zero, List.set_cons_succ, List.getElem_toArray, List.getElem_cons_zero, List.getElem_cons_succ])) | fail "take 8"
      refine wpAnyH_ready (rs := [9]) (by kernel_rfl) (by simp) ?_
      refine AllReadyH.cons rfl (fun K hK => ?_) AllReadyH.nil
      have f1 := HS8.out.free 1
      obtain ⟨q0, q1, q2, q3, q4⟩ := HS8.out.cells
      go_simp
      have HS9 := Lib.hid (HS8.out.set1 (.slice a8 1 c8))
      (try dsimp only)
      refine hK.out _ _ (by exact SQ.out _ _ HS9.out) (fun hHeld => ?_)
      clear hK K
      (try simp only [Act.put, List.setIfInBounds_toArray, List.set_cons_zero, List.set_cons_succ, List.getElem_toArray, List.getElem_cons_zero, List.getElem_cons_succ])
      refine wpAnyH_done (by kernel_rfl) ?_ _
      obtain ⟨X9, hX9⟩ : ∃ X9, X9 = w8.setCell ⟨w.heap.size, 1, none⟩ (.slice a8 1 c8) := ⟨_, rfl⟩
      have hn8 : ∀ g, (Value.slice a8 1 c8).ownBlock = some g → g ≠ w.heap.size := fun g hg => by
        rcases HW8.out with e | ⟨g', e, hle⟩
        · rw [e] at hg; first | (have := ob hg; omega) | (simp [Value.ownBlock] at hg; done)
        · rw [e] at hg; obtain rfl := Option.some.inj hg; omega
      have hn58 : (Value.slice a5 1 c5).ownBlock = none ∨ (Value.slice a5 1 c5).ownBlock ≠ (Value.slice a8 1 c8).ownBlock := by
        cases hv : (Value.slice a5 1 c5).ownBlock with
        | none => exact .inl rfl
        | some g =>
          refine .inr (fun e => ?_)
          have h5 := (HO7.out.lt g hv).2
          rcases HW8.out with e' | ⟨g', e', hle⟩
          · rw [e'] at e
            have := HN5.out g hv
            first | (have := ob e.symm; omega) | (simp [Value.ownBlock] at e; done)
          · rw [e'] at e; obtain rfl := Option.some.inj e; omega
      have HN58 := Lib.hid hn58
      have HRW := Lib.hid (show X9.ownsRow b1 3 1 (.slice a5 1 c5) 1 [.int .i64 x] from by rw [hX9]; exact own_far HI8.out (fun g hg => by have := HN5.out g hg; omega))
      have HPW := Lib.hid (show X9.ownsRow b2 3 1 (.slice a8 1 c8) 1 [.int .i64 nx] from by rw [hX9]; exact own_far HO8.out hn8)
      have HS9 := Lib.hid (show Box5 X9 w.heap.size 26 (.slice a5 1 c5) (.slice a8 1 c8) (.int .i64 fi) (.int .i64 nx) (.int .i64 dr) from by rw [hX9]; exact HS9.out)
      have HR9 := Lib.hid (show Box5 X9 (w.heap.size + 1) 26 (.slice none 0 0) (.slice none 0 0) (.int .i64 0) (.int .i64 0) (.int .i64 0) from by rw [hX9]; exact HR8.out.other (by omega) _ _)
      have HT9 := Lib.hid (show Touch b1 w.heap.size w X9 from by rw [hX9]; exact HT8.out.far (Nat.le_refl _))
      have HPN := Lib.hid (show ∀ g, (Value.slice a8 1 c8).ownBlock = some g → g ≠ w.heap.size ∧ g ≠ w.heap.size + 1 from fun g hg => by
        rcases HW8.out with e | ⟨g', e, hle⟩
        · rw [e] at hg; first | (have := ob hg; omega) | (simp [Value.ownBlock] at hg; done)
        · rw [e] at hg; obtain rfl := Option.some.inj hg; omega)
      rw [← hX9]
      clear hX9 q0 q1 q2 q3 q4 f1 HS7 HS8 HR7 HR8 HO7 HO8 HI8 HP7 HT7 HT8 HW8 hn8 hn58 SQ HLIT
      obtain ⟨q0, q1, q2, q3, q4⟩ := HS9.out.cells
      have f9 := HS9.out.free
      obtain ⟨e0, e1, e2, e3, e4⟩ := HR9.out.cells
      have g9 := HR9.out.free
      have hrl9 := HR9.out.lt
      have hww : IntKind.i64.wrap (nx + 1) = nx + 1 := IntWalk.i64_in _ ⟨by omega, by omega⟩
      go_wp2_with fail
      refine bodyPost_ret (by simp [results, Try.results68, go_sem, *]; try rfl) rfl ?_
      obtain ⟨Y, hY⟩ : ∃ Y, Y = X9.setCell ⟨w.heap.size, 3, none⟩ (.int .i64 (nx + 1)) := ⟨_, rfl⟩
      have a1 : Y.ownsRow b1 3 1 (.slice a5 1 c5) 1 [.int .i64 x] := by rw [hY]; exact own_far HRW.out (fun g hg => by have := HN5.out g hg; omega)
      have a2 : Y.ownsRow b2 3 1 (.slice a8 1 c8) 1 [.int .i64 nx] := by rw [hY]; exact own_far HPW.out (fun g hg => (HPN.out g hg).1)
      have a3 : Touch b1 w.heap.size w Y := by rw [hY]; exact HT9.out.far (Nat.le_refl _)
      have hYs : w.heap.size + 1 < Y.heap.size := by rw [hY]; simpa [World.setCell] using hrl9
      rw [← hY]
      exact po_fin0 hb HN58.out (fun g hg => by have := HN5.out g hg; omega) (fun g hg => (HPN.out g hg).2) a1 a2 a3 (by omega) hYs _ _ _ _ _
    · go_simp
      obtain ⟨X7, hX7⟩ : ∃ X7, X7 = (X6.alloc (.cells #[.int .i64 nx] 3)).drew := ⟨_, rfl⟩
      have hbn : Below X6.heap.size X6 X7 := by rw [hX7]; exact ((Below.refl _ _).alloc (Nat.le_refl _) _).drew
      have hs7 : X7.heap.size = X6.heap.size + 1 := by rw [hX7]; simp [World.drew]
      have HS7 := Lib.hid (HS6.out.call hbn)
      have HR7 := Lib.hid (HR6.out.call hbn)
      have HO7 := Lib.hid (HO6.out.kept (Below.grownNone hbn none) (by cases hv : (Value.slice a5 1 c5).ownBlock <;> simp))
      have HP7 := Lib.hid (HP6.out.kept (Below.grownNone hbn none) (by cases hv : (Value.slice (some ⟨g2, 0, none⟩) 0 pc).ownBlock <;> simp))
      have HT7 := Lib.hid (HT6.out.call hbn)
      have HLIT := Lib.hid (show ∀ j u, ([Value.int .i64 nx])[j]? = some u → X7.cell? ((⟨X6.heap.size, 0, none⟩ : Addr).add j) = some u from by rw [hX7]; exact cell_one_new X6 (.int .i64 nx) 3)
      rw [← hX7]
      clear hX7 hbn HS6 HR6 HO6 HP6 HT6
      (try dsimp only)
      refine hK.out _ _ (by exact SQ.out _ _ HS7.out) (fun hHeld => ?_)
      clear hK K
      (try simp only [Act.put, List.setIfInBounds_toArray, List.set_cons_zero, List.set_cons_succ, List.getElem_toArray, List.getElem_cons_zero, List.getElem_cons_succ])
      refine wpAnyH_ready (rs := [1]) (by kernel_rfl) (by simp) ?_
      refine AllReadyH.cons rfl (fun K hK => ?_) AllReadyH.nil
      obtain ⟨q0, q1, q2, q3, q4⟩ := HS7.out.cells
      go_simp
      clear q0 q1 q2 q3 q4
      (try dsimp only)
      refine hK.out _ _ (by exact SQ.out _ _ HS7.out) (fun hHeld => ?_)
      clear hK K
      (try simp only [Act.put, List.setIfInBounds_toArray, List.set_cons_zero, List.set_cons_succ, List.getElem_toArray, List.getElem_cons_zero, List.getElem_cons_succ])
      first | (refine wpAnyH_take (i := 3) (v := ?_) rfl (by kernel_rfl) (by kernel_rfl) (by kernel_rfl) (fun _ _ _ h => h) (Or.inl ⟨by rfl, ?_⟩) (by assumption) ?_; rotate_left; (intro X hSw; (try dsimp only at hSw); go_simp; (try with_reducible rfl)); (try simp only [Act.put, List.setIfInBounds_toArray, List.set_cons_zero, List.set_cons_succ, List.getElem_toArray, List.getElem_cons_zero, List.getElem_cons_succ])) | fail "take 3"
      refine wpAnyH_ready (rs := [7]) (by kernel_rfl) (by simp) ?_
      refine AllReadyH.cons rfl (fun K hK => ?_) AllReadyH.nil
      go_must (refine step_append_whered (by rfl) (.tmp 44) (.tmp 47) 24 (by rfl) b2 3 i0 (.int .i64 0) 1 8 Try.underlying24 hi0 hz0 hz1 hz2 rfl (by decide) (.slice (some ⟨g2, 0, none⟩) 0 pc) 0 [] (by rfl) HP7.out ⟨X6.heap.size, 0, none⟩ 1 1 [.int .i64 nx] (by rfl) (by rfl) HLIT.out (ints_oneCell .i64 [nx]) (by unfold maxLen; omega) (by omega) (by omega) ?_)
      intro v8 w8 hown8 hgrow8 hwhere8
      obtain ⟨a8, c8, rfl⟩ := slice_own hown8
      have hs8 := hgrow8.size
      have HO8 := Lib.hid hown8
      have HW8 := Lib.hid hwhere8
      have HS8 := Lib.hid (HS7.out.grown hgrow8 (fun e => by first | (have := ob e; omega) | (simp [Value.ownBlock] at e; done)))
      have HR8 := Lib.hid (HR7.out.grown hgrow8 (fun e => by first | (have := ob e; omega) | (simp [Value.ownBlock] at e; done)))
      have HI8 := Lib.hid (HO7.out.kept hgrow8 (by cases hv : (Value.slice a5 1 c5).ownBlock with | none => exact .inl rfl | some g => exact .inr (fun e => by have := HN5.out g hv; first | (have := ob e.symm; omega) | (simp [Value.ownBlock] at e; done))))
      have HT8 := Lib.hid (HT7.out.trans (show Touch b1 w.heap.size X7 w8 from Touch.of hgrow8 (fun g hg => by first | (have := ob hg; omega) | (simp [Value.ownBlock] at hg; done))))
      clear hown8 hgrow8 hwhere8
      (try dsimp only)
      refine hK.out _ _ (by exact SQ.out _ _ HS8.out) (fun hHeld => ?_)
      clear hK K
      (try simp only [Act.put, List.setIfInBounds_toArray, List.set_cons_zero, List.set_cons_succ, List.getElem_toArray, List.getElem_cons_zero, List.getElem_cons_succ])
      first | (refine wpAnyH_take (i := 8) (v := ?_) rfl (by kernel_rfl) (by kernel_rfl) (by kernel_rfl) (fun _ _ _ h => h) (Or.inl ⟨by rfl, ?_⟩) (by assumption) ?_; rotate_left; (intro X hSw; (try dsimp only at hSw); go_simp; (try with_reducible rfl)); (try simp only [Act.put, List.setIfInBounds_toArray, List.set_cons_zero, List.set_cons_succ, List.getElem_toArray, List.getElem_cons_zero, List.getElem_cons_succ])) | fail "take 8"
      refine wpAnyH_ready (rs := [9]) (by kernel_rfl) (by simp) ?_
      refine AllReadyH.cons rfl (fun K hK => ?_) AllReadyH.nil
      have f1 := HS8.out.free 1
      obtain ⟨q0, q1, q2, q3, q4⟩ := HS8.out.cells
      go_simp
      have HS9 := Lib.hid (HS8.out.set1 (.slice a8 1 c8))
      (try dsimp only)
      refine hK.out _ _ (by exact SQ.out _ _ HS9.out) (fun hHeld => ?_)
      clear hK K
      (try simp only [Act.put, List.setIfInBounds_toArray, List.set_cons_zero, List.set_cons_succ, List.getElem_toArray, List.getElem_cons_zero, List.getElem_cons_succ])
      refine wpAnyH_done (by kernel_rfl) ?_ _
      obtain ⟨X9, hX9⟩ : ∃ X9, X9 = w8.setCell ⟨w.heap.size, 1, none⟩ (.slice a8 1 c8) := ⟨_, rfl⟩
      have hn8 : ∀ g, (Value.slice a8 1 c8).ownBlock = some g → g ≠ w.heap.size := fun g hg => by
        rcases HW8.out with e | ⟨g', e, hle⟩
        · rw [e] at hg; first | (have := ob hg; omega) | (simp [Value.ownBlock] at hg; done)
        · rw [e] at hg; obtain rfl := Option.some.inj hg; omega
      have hn58 : (Value.slice a5 1 c5).ownBlock = none ∨ (Value.slice a5 1 c5).ownBlock ≠ (Value.slice a8 1 c8).ownBlock := by
        cases hv : (Value.slice a5 1 c5).ownBlock with
        | none => exact .inl rfl
        | some g =>
          refine .inr (fun e => ?_)
          have h5 := (HO7.out.lt g hv).2
          rcases HW8.out with e' | ⟨g', e', hle⟩
          · rw [e'] at e
            have := HN5.out g hv
            first | (have := ob e.symm; omega) | (simp [Value.ownBlock] at e; done)
          · rw [e'] at e; obtain rfl := Option.some.inj e; omega
      have HN58 := Lib.hid hn58
      have HRW := Lib.hid (show X9.ownsRow b1 3 1 (.slice a5 1 c5) 1 [.int .i64 x] from by rw [hX9]; exact own_far HI8.out (fun g hg => by have := HN5.out g hg; omega))
      have HPW := Lib.hid (show X9.ownsRow b2 3 1 (.slice a8 1 c8) 1 [.int .i64 nx] from by rw [hX9]; exact own_far HO8.out hn8)
      have HS9 := Lib.hid (show Box5 X9 w.heap.size 26 (.slice a5 1 c5) (.slice a8 1 c8) (.int .i64 fi) (.int .i64 nx) (.int .i64 dr) from by rw [hX9]; exact HS9.out)
      have HR9 := Lib.hid (show Box5 X9 (w.heap.size + 1) 26 (.slice none 0 0) (.slice none 0 0) (.int .i64 0) (.int .i64 0) (.int .i64 0) from by rw [hX9]; exact HR8.out.other (by omega) _ _)
      have HT9 := Lib.hid (show Touch b1 w.heap.size w X9 from by rw [hX9]; exact HT8.out.far (Nat.le_refl _))
      have HPN := Lib.hid (show ∀ g, (Value.slice a8 1 c8).ownBlock = some g → g ≠ w.heap.size ∧ g ≠ w.heap.size + 1 from fun g hg => by
        rcases HW8.out with e | ⟨g', e, hle⟩
        · rw [e] at hg; first | (have := ob hg; omega) | (simp [Value.ownBlock] at hg; done)
        · rw [e] at hg; obtain rfl := Option.some.inj hg; omega)
      rw [← hX9]
      clear hX9 q0 q1 q2 q3 q4 f1 HS7 HS8 HR7 HR8 HO7 HO8 HI8 HP7 HT7 HT8 HW8 hn8 hn58 SQ HLIT
      obtain ⟨q0, q1, q2, q3, q4⟩ := HS9.out.cells
      have f9 := HS9.out.free
      obtain ⟨e0, e1, e2, e3, e4⟩ := HR9.out.cells
      have g9 := HR9.out.free
      have hrl9 := HR9.out.lt
      have hww : IntKind.i64.wrap (nx + 1) = nx + 1 := IntWalk.i64_in _ ⟨by omega, by omega⟩
      go_wp2_with fail
      refine bodyPost_ret (by simp [results, Try.results68, go_sem, *]; try rfl) rfl ?_
      obtain ⟨Y, hY⟩ : ∃ Y, Y = X9.setCell ⟨w.heap.size, 3, none⟩ (.int .i64 (nx + 1)) := ⟨_, rfl⟩
      have a1 : Y.ownsRow b1 3 1 (.slice a5 1 c5) 1 [.int .i64 x] := by rw [hY]; exact own_far HRW.out (fun g hg => by have := HN5.out g hg; omega)
      have a2 : Y.ownsRow b2 3 1 (.slice a8 1 c8) 1 [.int .i64 nx] := by rw [hY]; exact own_far HPW.out (fun g hg => (HPN.out g hg).1)
      have a3 : Touch b1 w.heap.size w Y := by rw [hY]; exact HT9.out.far (Nat.le_refl _)
      have hYs : w.heap.size + 1 < Y.heap.size := by rw [hY]; simpa [World.setCell] using hrl9
      rw [← hY]
      exact po_fin0 hb HN58.out (fun g hg => by have := HN5.out g hg; omega) (fun g hg => (HPN.out g hg).2) a1 a2 a3 (by omega) hYs _ _ _ _ _

set_option maxRecDepth 8000 in
set_option maxHeartbeats 4000000 in
theorem pushOver_sn {k : Int} {T fl : Nat} (O : OrdAt k T fl) (b1 b2 g1 ic g2 pc : Nat) (fi nx dr x : Int) (w : World)
    (hI : w.ownsRow b1 3 1 (.slice (some ⟨g1, 0, none⟩) 0 ic) 0 []) (hP : w.ownsRow b2 3 1 (.slice none 0 0) 0 []) (hlt : ∀ g, (Value.slice (some ⟨g1, 0, none⟩) 0 ic).ownBlock = some g → g < b2) (hb : b1 ≤ b2) (hb2 : b2 ≤ w.heap.size)
    (hx0 : 0 ≤ nx) (hx1 : nx ≤ 900000) :
    Calls Try.prog 68 #[.iface T (.agg #[]), .agg #[.slice (some ⟨g1, 0, none⟩) 0 ic, .slice none 0 0, .int .i64 fi, .int .i64 nx, .int .i64 dr], .int .i64 x] w (PoFin b1 (Agg.pushD k ⟨[], [], fi, nx, dr⟩ x) w) := by
  obtain ⟨i0, hi0, hz0, hz1, hz2⟩ := info_parts infoInt
  have HFB := Lib.hid (show (∀ g, (Value.slice (some ⟨g1, 0, none⟩) 0 ic).ownBlock = some g → b1 ≤ g ∧ g < b2) ∧ (∀ g, (Value.slice none 0 0).ownBlock = some g → b2 ≤ g ∧ g < w.heap.size) from ⟨fun g hg => ⟨(hI.lt g hg).1, hlt g hg⟩, fun g hg => hP.lt g hg⟩)
  obtain ⟨hb1g, hg1b⟩ := HFB.out.1 g1 rfl
  have HI := Lib.hid hI
  have HP := Lib.hid hP
  have HLT := Lib.hid hlt
  obtain ⟨W, hW⟩ : ∃ W, W = (w.alloc (.cells #[.slice (some ⟨g1, 0, none⟩) 0 ic, .slice none 0 0, .int .i64 fi, .int .i64 nx, .int .i64 dr] 26)).alloc (.cells #[.slice none 0 0, .slice none 0 0, .int .i64 0, .int .i64 0, .int .i64 0] 26) := ⟨_, rfl⟩
  have HS := Lib.hid (show Box5 W w.heap.size 26 (.slice (some ⟨g1, 0, none⟩) 0 ic) (.slice none 0 0) (.int .i64 fi) (.int .i64 nx) (.int .i64 dr) from by rw [hW]; exact (Box5.new w _ _ _ _ _ _).alloc _)
  have HR := Lib.hid (show Box5 W (w.heap.size + 1) 26 (.slice none 0 0) (.slice none 0 0) (.int .i64 0) (.int .i64 0) (.int .i64 0) from by rw [hW]; exact Box5.new1 _ _ _ _ _ _ (by simp))
  have HB := Lib.hid (show Below w.heap.size w W from by rw [hW]; exact ((Below.refl _ _).alloc (Nat.le_refl _) _).alloc (by simp) _)
  clear hI hP hlt O
  go_enter Try.func68, Try.ntmps68
  go_upto_region 1 with (fail)
  rw [← hW]
  clear hW
  obtain ⟨q0, q1, q2, q3, q4⟩ := HS.out.cells
  go_wp2_with fail
  clear q0 q1 q2 q3 q4
  go_loopw [7] (fun kv wr => kv = .int .i64 0 ∧ Hid (Box5 wr w.heap.size 26 (.slice (some ⟨g1, 0, none⟩) 0 ic) (.slice none 0 0) (.int .i64 fi) (.int .i64 nx) (.int .i64 dr)) ∧ Hid (Box5 wr (w.heap.size + 1) 26 (.slice none 0 0) (.slice none 0 0) (.int .i64 0) (.int .i64 0) (.int .i64 0)) ∧ Hid (Below w.heap.size w wr)) (fun kv _ => 0)
  case atStart => exact ⟨rfl, HS, HR, HB⟩
  case round =>
    obtain ⟨rfl, hs, hr, hw⟩ := hrel
    clear HS HR HB
    obtain ⟨q0, q1, q2, q3, q4⟩ := hs.out.cells
    go_wp2_with fail
    refine wp_region_held_drew (S := (fun X => X.cell? ⟨w.heap.size, 0, none⟩ = some (.slice (some ⟨g1, 0, none⟩) 0 ic))) (by kernel_rfl) (by assumption) (fun hHeld => ?_)
    first | (refine wpAnyH_take (i := 0) (v := ?_) rfl (by kernel_rfl) (by kernel_rfl) (by kernel_rfl) (fun _ _ _ h => h) (Or.inl ⟨by rfl, ?_⟩) (by assumption) ?_; rotate_left; (intro X hSw; (try dsimp only at hSw); go_simp; (try with_reducible rfl)); (try simp only [Act.put, List.setIfInBounds_toArray, List.set_cons_zero, List.set_cons_succ, List.getElem_toArray, List.getElem_cons_zero, List.getElem_cons_succ])) | fail "take 0"
    first | (refine wpAnyH_take (i := 1) (v := ?_) rfl (by kernel_rfl) (by kernel_rfl) (by kernel_rfl) (fun _ _ _ h => h) (Or.inl ⟨by rfl, ?_⟩) (by assumption) ?_; rotate_left; (intro X hSw; (try dsimp only at hSw); go_simp; (try with_reducible rfl)); (try simp only [Act.put, List.setIfInBounds_toArray, List.set_cons_zero, List.set_cons_succ, List.getElem_toArray, List.getElem_cons_zero, List.getElem_cons_succ])) | fail "take 1"
    first | (refine wpAnyH_take (i := 2) (v := ?_) rfl (by kernel_rfl) (by kernel_rfl) (by kernel_rfl) (fun _ _ _ h => h) (Or.inl ⟨by rfl, ?_⟩) (by assumption) ?_; rotate_left; (intro X hSw; (try dsimp only at hSw); go_simp; (try with_reducible rfl)); (try simp only [Act.put, List.setIfInBounds_toArray, List.set_cons_zero, List.set_cons_succ, List.getElem_toArray, List.getElem_cons_zero, List.getElem_cons_succ])) | fail "take 2"
    first | (refine wpAnyH_take (i := 3) (v := undef) rfl (by kernel_rfl) (by kernel_rfl) (by kernel_rfl) (fun _ _ _ h => h) (Or.inr ⟨by rfl, rfl⟩) (by assumption) ?_; (try simp only [Act.put, List.setIfInBounds_toArray, List.set_cons_zero, List.set_cons_succ, List.getElem_toArray, List.getElem_cons_zero, List.getElem_cons_succ])) | fail "skip 3"
    first | (refine wpAnyH_take (i := 4) (v := undef) rfl (by kernel_rfl) (by kernel_rfl) (by kernel_rfl) (fun _ _ _ h => h) (Or.inr ⟨by rfl, rfl⟩) (by assumption) ?_; (try simp only [Act.put, List.setIfInBounds_toArray, List.set_cons_zero, List.set_cons_succ, List.getElem_toArray, List.getElem_cons_zero, List.getElem_cons_succ])) | fail "skip 4"
    first | (refine wpAnyH_take (i := 5) (v := undef) rfl (by kernel_rfl) (by kernel_rfl) (by kernel_rfl) (fun _ _ _ h => h) (Or.inr ⟨by rfl, rfl⟩) (by assumption) ?_; (try simp only [Act.put, List.setIfInBounds_toArray, List.set_cons_zero, List.set_cons_succ, List.getElem_toArray, List.getElem_cons_zero, List.getElem_cons_succ])) | fail "skip 5"
    first | (refine wpAnyH_take (i := 6) (v := undef) rfl (by kernel_rfl) (by kernel_rfl) (by kernel_rfl) (fun _ _ _ h => h) (Or.inr ⟨by rfl, rfl⟩) (by assumption) ?_; (try simp only [Act.put, List.setIfInBounds_toArray, List.set_cons_zero, List.set_cons_succ, List.getElem_toArray, List.getElem_cons_zero, List.getElem_cons_succ])) | fail "skip 6"
    first | (refine wpAnyH_take (i := 7) (v := undef) rfl (by kernel_rfl) (by kernel_rfl) (by kernel_rfl) (fun _ _ _ h => h) (Or.inr ⟨by rfl, rfl⟩) (by assumption) ?_; (try simp only [Act.put, List.setIfInBounds_toArray, List.set_cons_zero, List.set_cons_succ, List.getElem_toArray, List.getElem_cons_zero, List.getElem_cons_succ])) | fail "skip 7"
    first | (refine wpAnyH_take (i := 8) (v := undef) rfl (by kernel_rfl) (by kernel_rfl) (by kernel_rfl) (fun _ _ _ h => h) (Or.inr ⟨by rfl, rfl⟩) (by assumption) ?_; (try simp only [Act.put, List.setIfInBounds_toArray, List.set_cons_zero, List.set_cons_succ, List.getElem_toArray, List.getElem_cons_zero, List.getElem_cons_succ])) | fail "skip 8"
    first | (refine wpAnyH_take (i := 9) (v := undef) rfl (by kernel_rfl) (by kernel_rfl) (by kernel_rfl) (fun _ _ _ h => h) (Or.inr ⟨by rfl, rfl⟩) (by assumption) ?_; (try simp only [Act.put, List.setIfInBounds_toArray, List.set_cons_zero, List.set_cons_succ, List.getElem_toArray, List.getElem_cons_zero, List.getElem_cons_succ])) | fail "skip 9"
    first | (refine wpAnyH_take (i := 10) (v := undef) rfl (by kernel_rfl) (by kernel_rfl) (by kernel_rfl) (fun _ _ _ h => h) (Or.inr ⟨by rfl, rfl⟩) (by assumption) ?_; (try simp only [Act.put, List.setIfInBounds_toArray, List.set_cons_zero, List.set_cons_succ, List.getElem_toArray, List.getElem_cons_zero, List.getElem_cons_succ])) | fail "skip 10"
    first | (refine wpAnyH_take (i := 11) (v := undef) rfl (by kernel_rfl) (by kernel_rfl) (by kernel_rfl) (fun _ _ _ h => h) (Or.inr ⟨by rfl, rfl⟩) (by assumption) ?_; (try simp only [Act.put, List.setIfInBounds_toArray, List.set_cons_zero, List.set_cons_succ, List.getElem_toArray, List.getElem_cons_zero, List.getElem_cons_succ])) | fail "skip 11"
    first | (refine wpAnyH_take (i := 12) (v := undef) rfl (by kernel_rfl) (by kernel_rfl) (by kernel_rfl) (fun _ _ _ h => h) (Or.inr ⟨by rfl, rfl⟩) (by assumption) ?_; (try simp only [Act.put, List.setIfInBounds_toArray, List.set_cons_zero, List.set_cons_succ, List.getElem_toArray, List.getElem_cons_zero, List.getElem_cons_succ])) | fail "skip 12"
    first | (refine wpAnyH_take (i := 13) (v := undef) rfl (by kernel_rfl) (by kernel_rfl) (by kernel_rfl) (fun _ _ _ h => h) (Or.inr ⟨by rfl, rfl⟩) (by assumption) ?_; (try simp only [Act.put, List.setIfInBounds_toArray, List.set_cons_zero, List.set_cons_succ, List.getElem_toArray, List.getElem_cons_zero, List.getElem_cons_succ])) | fail "skip 13"
    first | (refine wpAnyH_take (i := 14) (v := undef) rfl (by kernel_rfl) (by kernel_rfl) (by kernel_rfl) (fun _ _ _ h => h) (Or.inr ⟨by rfl, rfl⟩) (by assumption) ?_; (try simp only [Act.put, List.setIfInBounds_toArray, List.set_cons_zero, List.set_cons_succ, List.getElem_toArray, List.getElem_cons_zero, List.getElem_cons_succ])) | fail "skip 14"
    first | (refine wpAnyH_take (i := 15) (v := ?_) rfl (by kernel_rfl) (by kernel_rfl) (by kernel_rfl) (fun _ _ _ h => h) (Or.inl ⟨by rfl, ?_⟩) (by assumption) ?_; rotate_left; (intro X hSw; (try dsimp only at hSw); go_simp; (try with_reducible rfl)); (try simp only [Act.put, List.setIfInBounds_toArray, List.set_cons_zero, List.set_cons_succ, List.getElem_toArray, List.getElem_cons_zero, List.getElem_cons_succ])) | fail "take 15"
    refine wpAnyH_done (by kernel_rfl) ?_ _
    obtain ⟨X3, hX3⟩ : ∃ X3, X3 = wr.drew := ⟨_, rfl⟩
    have HS3 := Lib.hid (show Box5 X3 w.heap.size 26 (.slice (some ⟨g1, 0, none⟩) 0 ic) (.slice none 0 0) (.int .i64 fi) (.int .i64 nx) (.int .i64 dr) from by rw [hX3]; exact hs.out)
    have HR3 := Lib.hid (show Box5 X3 (w.heap.size + 1) 26 (.slice none 0 0) (.slice none 0 0) (.int .i64 0) (.int .i64 0) (.int .i64 0) from by rw [hX3]; exact hr.out)
    have HB3 := Lib.hid (show Below w.heap.size w X3 from by rw [hX3]; exact hw.out.drew)
    rw [← hX3]
    clear hX3 hs hr hw q0 q1 q2 q3 q4 hHeld
    have hsx := HB3.out.size
    have hsl := HS3.out.lt
    have hrl := HR3.out.lt
    have HI3 := Lib.hid (HI.out.kept (Below.grownNone HB3.out none) (by cases hv : (Value.slice (some ⟨g1, 0, none⟩) 0 ic).ownBlock <;> simp))
    have HP3 := Lib.hid (HP.out.kept (Below.grownNone HB3.out none) (by cases hv : (Value.slice none 0 0).ownBlock <;> simp))
    have HPG := Lib.hid (fun g (hg : (Value.slice none 0 0).ownBlock = some g) => HP.out.lt g hg)
    have HPI := Lib.hid (HI3.out)
    have HPP := Lib.hid (HP3.out)
    obtain ⟨q0, q1, q2, q3, q4⟩ := HS3.out.cells
    go_upto_region 6 with (
      at_builtin
      go_must (refine wpList_append_where rfl (.tmp 36) (.tmp 38) 24 rfl b1 3 i0 (.int .i64 0) 1 8 Try.underlying24 hi0 hz0 hz1 hz2 rfl (by decide) (.slice (some ⟨g1, 0, none⟩) 0 ic) 0 [] rfl (HPI.out.alloc _) ⟨X3.heap.size, 0, none⟩ 1 1 [.int .i64 x] rfl rfl (cell_one_new _ _ _) (ints_oneCell .i64 [x]) (by unfold maxLen; omega) (by omega) (by simp; omega) ?_)
      go_loud (
        intro v5 w5 hown5 hgrow5 hwhere5
        obtain ⟨a5, c5, rfl⟩ := slice_own hown5
        have HO5 := Lib.hid hown5
        have HG5 := Lib.hid hgrow5
        have HW5 := Lib.hid hwhere5
        have HS5 := Lib.hid ((HS3.out.alloc (.cells #[.int .i64 x] 3)).grown hgrow5 (fun e => by first | (have := ob e; omega) | (simp [Value.ownBlock] at e; done)))
        have HR5 := Lib.hid ((HR3.out.alloc (.cells #[.int .i64 x] 3)).grown hgrow5 (fun e => by first | (have := ob e; omega) | (simp [Value.ownBlock] at e; done)))
        have HP5 := Lib.hid ((HPP.out.alloc (.cells #[.int .i64 x] 3)).kept hgrow5 (by cases hv : (Value.slice none 0 0).ownBlock with | none => exact .inl rfl | some g => exact .inr (fun e => by first | (have := ob e.symm; have := ob hv; omega) | (simp [Value.ownBlock] at hv; done) | (simp [Value.ownBlock] at e; done))))
        have f0 := HS5.out.free 0
        obtain ⟨q0, q1, q2, q3, q4⟩ := HS5.out.cells
        clear hown5 hgrow5 hwhere5))
    have hs5 : X3.heap.size + 1 ≤ w5.heap.size := by have := HG5.out.size; simpa using this
    have HN5 := Lib.hid (show ∀ g, (Value.slice a5 1 c5).ownBlock = some g → g < b2 ∨ X3.heap.size ≤ g from fun g hg => by
      rcases HW5.out with e | ⟨g', e, hle⟩
      · exact .inl (by rw [e] at hg; first | (have := ob hg; omega) | (simp [Value.ownBlock] at hg; done))
      · rw [e] at hg; obtain rfl := Option.some.inj hg; simp at hle; exact .inr (by omega))
    obtain ⟨X6, hX6⟩ : ∃ X6, X6 = w5.setCell ⟨w.heap.size, 0, none⟩ (.slice a5 1 c5) := ⟨_, rfl⟩
    have HS6 := Lib.hid (show Box5 X6 w.heap.size 26 (.slice a5 1 c5) (.slice none 0 0) (.int .i64 fi) (.int .i64 nx) (.int .i64 dr) from by rw [hX6]; exact HS5.out.set0 _)
    have HR6 := Lib.hid (show Box5 X6 (w.heap.size + 1) 26 (.slice none 0 0) (.slice none 0 0) (.int .i64 0) (.int .i64 0) (.int .i64 0) from by rw [hX6]; exact HR5.out.other (by omega) _ _)
    have HO6 := Lib.hid (show X6.ownsRow b1 3 1 (.slice a5 1 c5) 1 [.int .i64 x] from by
      rw [hX6]
      exact own_far HO5.out (fun g hg => by have := HN5.out g hg; omega))
    have HP6 := Lib.hid (show X6.ownsRow b2 3 1 (.slice none 0 0) 0 [] from by
      rw [hX6]
      exact own_far HP5.out (fun g hg => by first | (have := ob hg; omega) | (simp [Value.ownBlock] at hg; done)))
    have HT6 := Lib.hid (show Touch b1 w.heap.size w X6 from by
      rw [hX6]
      exact Touch.far ((((Touch.refl b1 w.heap.size w).call HB3.out).call ((Below.refl X3.heap.size X3).alloc (Nat.le_refl _) _)).trans (Touch.of HG5.out (fun g hg => by first | (have := ob hg; omega) | (simp [Value.ownBlock] at hg; done)))) (Nat.le_refl _))
    have hs6 : X3.heap.size + 1 ≤ X6.heap.size := by rw [hX6]; simpa [World.setCell] using hs5
    rw [← hX6]
    clear hX6 q0 q1 q2 q3 q4 f0 HS5 HR5 HP5 HO5 HG5 HW5 HPI HPP HI3 HP3 HS3 HR3 HB3
    obtain ⟨q0, q1, q2, q3, q4⟩ := HS6.out.cells
    have SQ := Lib.hid (show ∀ (X : World) (v : Value), Box5 X w.heap.size 26 (.slice a5 1 c5) v (.int .i64 fi) (.int .i64 nx) (.int .i64 dr) → X.cell? ⟨w.heap.size, 3, none⟩ = some (.int .i64 nx) from fun X v h => h.cells.2.2.2.1)
    refine wp_region_held_drew (S := (fun X => X.cell? ⟨w.heap.size, 3, none⟩ = some (.int .i64 nx))) (by kernel_rfl) (by exact q3) (fun hHeld => ?_)
    clear q0 q1 q2 q3 q4
    first | (refine wpAnyH_take (i := 0) (v := ?_) rfl (by kernel_rfl) (by kernel_rfl) (by kernel_rfl) (fun _ _ _ h => h) (Or.inl ⟨by rfl, ?_⟩) (by assumption) ?_; rotate_left; (intro X hSw; (try dsimp only at hSw); go_simp; (try with_reducible rfl)); (try simp only [Act.put, List.setIfInBounds_toArray, List.set_cons_zero, List.set_cons_succ, List.getElem_toArray, List.getElem_cons_zero, List.getElem_cons_succ])) | fail "take 0"
    first | (refine wpAnyH_take (i := 2) (v := ?_) rfl (by kernel_rfl) (by kernel_rfl) (by kernel_rfl) (fun _ _ _ h => h) (Or.inl ⟨by rfl, ?_⟩) (by assumption) ?_; rotate_left; (intro X hSw; (try dsimp only at hSw); go_simp; (try with_reducible rfl)); (try simp only [Act.put, List.setIfInBounds_toArray, List.set_cons_zero, List.set_cons_succ, List.getElem_toArray, List.getElem_cons_zero, List.getElem_cons_succ])) | fail "take 2"
    first | (refine wpAnyH_take (i := 4) (v := ?_) rfl (by kernel_rfl) (by kernel_rfl) (by kernel_rfl) (fun _ _ _ h => h) (Or.inl ⟨by rfl, ?_⟩) (by assumption) ?_; rotate_left; (intro X hSw; (try dsimp only at hSw); go_simp; (try with_reducible rfl)); (try simp only [Act.put, List.setIfInBounds_toArray, List.set_cons_zero, List.set_cons_succ, List.getElem_toArray, List.getElem_cons_zero, List.getElem_cons_succ])) | fail "take 4"
    first | (refine wpAnyH_take (i := 5) (v := ?_) rfl (by kernel_rfl) (by kernel_rfl) (by kernel_rfl) (fun _ _ _ h => h) (Or.inl ⟨by rfl, ?_⟩) (by assumption) ?_; rotate_left; (intro X hSw; (try dsimp only at hSw); go_simp; (try with_reducible rfl)); (try simp only [Act.put, List.setIfInBounds_toArray, List.set_cons_zero, List.set_cons_succ, List.getElem_toArray, List.getElem_cons_zero, List.getElem_cons_succ])) | fail "take 5"
    refine wpAnyH_ready (rs := [1, 6]) (by kernel_rfl) (by simp) ?_
    refine AllReadyH.cons rfl (fun K hK => ?_) (AllReadyH.cons rfl (fun K hK => ?_) AllReadyH.nil)

    · obtain ⟨q0, q1, q2, q3, q4⟩ := HS6.out.cells
      go_simp
      clear q0 q1 q2 q3 q4
      (try dsimp only)
      refine hK.out _ _ (by exact SQ.out _ _ HS6.out) (fun hHeld => ?_)
      clear hK K
      (try simp only [Act.put, List.setIfInBounds_toArray, List.set_cons_zero, List.set_cons_succ, List.getElem_toArray, List.getElem_cons_zero, List.getElem_cons_succ])
      first | (refine wpAnyH_take (i := 3) (v := ?_) rfl (by kernel_rfl) (by kernel_rfl) (by kernel_rfl) (fun _ _ _ h => h) (Or.inl ⟨by rfl, ?_⟩) (by assumption) ?_; rotate_left; (intro X hSw; (try dsimp only at hSw); go_simp; (try with_reducible rfl)); (try simp only [Act.put, List.setIfInBounds_toArray, List.set_cons_zero, List.set_cons_succ, List.getElem_toArray, List.getElem_cons_zero, List.getElem_cons_succ])) | fail "take 3"
      refine wpAnyH_ready (rs := [6]) (by kernel_rfl) (by simp) ?_
      refine AllReadyH.cons rfl (fun K hK => ?_) AllReadyH.nil
      go_simp
      obtain ⟨X7, hX7⟩ : ∃ X7, X7 = (X6.alloc (.cells #[.int .i64 nx] 3)).drew := ⟨_, rfl⟩
      have hbn : Below X6.heap.size X6 X7 := by rw [hX7]; exact ((Below.refl _ _).alloc (Nat.le_refl _) _).drew
      have hs7 : X7.heap.size = X6.heap.size + 1 := by rw [hX7]; simp [World.drew]
      have HS7 := Lib.hid (HS6.out.call hbn)
      have HR7 := Lib.hid (HR6.out.call hbn)
      have HO7 := Lib.hid (HO6.out.kept (Below.grownNone hbn none) (by cases hv : (Value.slice a5 1 c5).ownBlock <;> simp))
      have HP7 := Lib.hid (HP6.out.kept (Below.grownNone hbn none) (by cases hv : (Value.slice none 0 0).ownBlock <;> simp))
      have HT7 := Lib.hid (HT6.out.call hbn)
      have HLIT := Lib.hid (show ∀ j u, ([Value.int .i64 nx])[j]? = some u → X7.cell? ((⟨X6.heap.size, 0, none⟩ : Addr).add j) = some u from by rw [hX7]; exact cell_one_new X6 (.int .i64 nx) 3)
      rw [← hX7]
      clear hX7 hbn HS6 HR6 HO6 HP6 HT6
      (try dsimp only)
      refine hK.out _ _ (by exact SQ.out _ _ HS7.out) (fun hHeld => ?_)
      clear hK K
      (try simp only [Act.put, List.setIfInBounds_toArray, List.set_cons_zero, List.set_cons_succ, List.getElem_toArray, List.getElem_cons_zero, List.getElem_cons_succ])
      refine wpAnyH_ready (rs := [7]) (by kernel_rfl) (by simp) ?_
      refine AllReadyH.cons rfl (fun K hK => ?_) AllReadyH.nil
      go_must (refine step_append_whered (by rfl) (.tmp 44) (.tmp 47) 24 (by rfl) b2 3 i0 (.int .i64 0) 1 8 Try.underlying24 hi0 hz0 hz1 hz2 rfl (by decide) (.slice none 0 0) 0 [] (by rfl) HP7.out ⟨X6.heap.size, 0, none⟩ 1 1 [.int .i64 nx] (by rfl) (by rfl) HLIT.out (ints_oneCell .i64 [nx]) (by unfold maxLen; omega) (by omega) (by omega) ?_)
      intro v8 w8 hown8 hgrow8 hwhere8
      obtain ⟨a8, c8, rfl⟩ := slice_own hown8
      have hs8 := hgrow8.size
      have HO8 := Lib.hid hown8
      have HW8 := Lib.hid hwhere8
      have HS8 := Lib.hid (HS7.out.grown hgrow8 (fun e => by first | (have := ob e; omega) | (simp [Value.ownBlock] at e; done)))
      have HR8 := Lib.hid (HR7.out.grown hgrow8 (fun e => by first | (have := ob e; omega) | (simp [Value.ownBlock] at e; done)))
      have HI8 := Lib.hid (HO7.out.kept hgrow8 (by cases hv : (Value.slice a5 1 c5).ownBlock with | none => exact .inl rfl | some g => exact .inr (fun e => by have := HN5.out g hv; first | (have := ob e.symm; omega) | (simp [Value.ownBlock] at e; done))))
      have HT8 := Lib.hid (HT7.out.trans (show Touch b1 w.heap.size X7 w8 from Touch.of hgrow8 (fun g hg => by first | (have := ob hg; omega) | (simp [Value.ownBlock] at hg; done))))
      clear hown8 hgrow8 hwhere8
      (try dsimp only)
      refine hK.out _ _ (by exact SQ.out _ _ HS8.out) (fun hHeld => ?_)
      clear hK K
      (try simp only [Act.put, List.setIfInBounds_toArray, List.set_cons_zero, List.set_cons_succ, List.getElem_toArray, List.getElem_cons_zero, List.getElem_cons_succ])
      first | (refine wpAnyH_take (i := 8) (v := ?_) rfl (by kernel_rfl) (by kernel_rfl) (by kernel_rfl) (fun _ _ _ h => h) (Or.inl ⟨by rfl, ?_⟩) (by assumption) ?_; rotate_left; (intro X hSw; (try dsimp only at hSw); go_simp; (try with_reducible rfl)); (try simp only [Act.put, List.setIfInBounds_toArray, List.set_cons_zero, List.set_cons_succ, List.getElem_toArray, List.getElem_cons_zero, List.getElem_cons_succ])) | fail "take 8"
      refine wpAnyH_ready (rs := [9]) (by kernel_rfl) (by simp) ?_
      refine AllReadyH.cons rfl (fun K hK => ?_) AllReadyH.nil
      have f1 := HS8.out.free 1
      obtain ⟨q0, q1, q2, q3, q4⟩ := HS8.out.cells
      go_simp
      have HS9 := Lib.hid (HS8.out.set1 (.slice a8 1 c8))
      (try dsimp only)
      refine hK.out _ _ (by exact SQ.out _ _ HS9.out) (fun hHeld => ?_)
      clear hK K
      (try simp only [Act.put, List.setIfInBounds_toArray, List.set_cons_zero, List.set_cons_succ, List.getElem_toArray, List.getElem_cons_zero, List.getElem_cons_succ])
      refine wpAnyH_done (by kernel_rfl) ?_ _
      obtain ⟨X9, hX9⟩ : ∃ X9, X9 = w8.setCell ⟨w.heap.size, 1, none⟩ (.slice a8 1 c8) := ⟨_, rfl⟩
      have hn8 : ∀ g, (Value.slice a8 1 c8).ownBlock = some g → g ≠ w.heap.size := fun g hg => by
        rcases HW8.out with e | ⟨g', e, hle⟩
        · rw [e] at hg; first | (have := ob hg; omega) | (simp [Value.ownBlock] at hg; done)
        · rw [e] at hg; obtain rfl := Option.some.inj hg; omega
      have hn58 : (Value.slice a5 1 c5).ownBlock = none ∨ (Value.slice a5 1 c5).ownBlock ≠ (Value.slice a8 1 c8).ownBlock := by
        cases hv : (Value.slice a5 1 c5).ownBlock with
        | none => exact .inl rfl
        | some g =>
          refine .inr (fun e => ?_)
          have h5 := (HO7.out.lt g hv).2
          rcases HW8.out with e' | ⟨g', e', hle⟩
          · rw [e'] at e
            have := HN5.out g hv
            first | (have := ob e.symm; omega) | (simp [Value.ownBlock] at e; done)
          · rw [e'] at e; obtain rfl := Option.some.inj e; omega
      have HN58 := Lib.hid hn58
      have HRW := Lib.hid (show X9.ownsRow b1 3 1 (.slice a5 1 c5) 1 [.int .i64 x] from by rw [hX9]; exact own_far HI8.out (fun g hg => by have := HN5.out g hg; omega))
      have HPW := Lib.hid (show X9.ownsRow b2 3 1 (.slice a8 1 c8) 1 [.int .i64 nx] from by rw [hX9]; exact own_far HO8.out hn8)
      have HS9 := Lib.hid (show Box5 X9 w.heap.size 26 (.slice a5 1 c5) (.slice a8 1 c8) (.int .i64 fi) (.int .i64 nx) (.int .i64 dr) from by rw [hX9]; exact HS9.out)
      have HR9 := Lib.hid (show Box5 X9 (w.heap.size + 1) 26 (.slice none 0 0) (.slice none 0 0) (.int .i64 0) (.int .i64 0) (.int .i64 0) from by rw [hX9]; exact HR8.out.other (by omega) _ _)
      have HT9 := Lib.hid (show Touch b1 w.heap.size w X9 from by rw [hX9]; exact HT8.out.far (Nat.le_refl _))
      have HPN := Lib.hid (show ∀ g, (Value.slice a8 1 c8).ownBlock = some g → g ≠ w.heap.size ∧ g ≠ w.heap.size + 1 from fun g hg => by
        rcases HW8.out with e | ⟨g', e, hle⟩
        · rw [e] at hg; first | (have := ob hg; omega) | (simp [Value.ownBlock] at hg; done)
        · rw [e] at hg; obtain rfl := Option.some.inj hg; omega)
      rw [← hX9]
      clear hX9 q0 q1 q2 q3 q4 f1 HS7 HS8 HR7 HR8 HO7 HO8 HI8 HP7 HT7 HT8 HW8 hn8 hn58 SQ HLIT
      obtain ⟨q0, q1, q2, q3, q4⟩ := HS9.out.cells
      have f9 := HS9.out.free
      obtain ⟨e0, e1, e2, e3, e4⟩ := HR9.out.cells
      have g9 := HR9.out.free
      have hrl9 := HR9.out.lt
      have hww : IntKind.i64.wrap (nx + 1) = nx + 1 := IntWalk.i64_in _ ⟨by omega, by omega⟩
      go_wp2_with fail
      refine bodyPost_ret (by simp [results, Try.results68, go_sem, *]; try rfl) rfl ?_
      obtain ⟨Y, hY⟩ : ∃ Y, Y = X9.setCell ⟨w.heap.size, 3, none⟩ (.int .i64 (nx + 1)) := ⟨_, rfl⟩
      have a1 : Y.ownsRow b1 3 1 (.slice a5 1 c5) 1 [.int .i64 x] := by rw [hY]; exact own_far HRW.out (fun g hg => by have := HN5.out g hg; omega)
      have a2 : Y.ownsRow b2 3 1 (.slice a8 1 c8) 1 [.int .i64 nx] := by rw [hY]; exact own_far HPW.out (fun g hg => (HPN.out g hg).1)
      have a3 : Touch b1 w.heap.size w Y := by rw [hY]; exact HT9.out.far (Nat.le_refl _)
      have hYs : w.heap.size + 1 < Y.heap.size := by rw [hY]; simpa [World.setCell] using hrl9
      rw [← hY]
      exact po_fin0 hb HN58.out (fun g hg => by have := HN5.out g hg; omega) (fun g hg => (HPN.out g hg).2) a1 a2 a3 (by omega) hYs _ _ _ _ _
    · go_simp
      obtain ⟨X7, hX7⟩ : ∃ X7, X7 = (X6.alloc (.cells #[.int .i64 nx] 3)).drew := ⟨_, rfl⟩
      have hbn : Below X6.heap.size X6 X7 := by rw [hX7]; exact ((Below.refl _ _).alloc (Nat.le_refl _) _).drew
      have hs7 : X7.heap.size = X6.heap.size + 1 := by rw [hX7]; simp [World.drew]
      have HS7 := Lib.hid (HS6.out.call hbn)
      have HR7 := Lib.hid (HR6.out.call hbn)
      have HO7 := Lib.hid (HO6.out.kept (Below.grownNone hbn none) (by cases hv : (Value.slice a5 1 c5).ownBlock <;> simp))
      have HP7 := Lib.hid (HP6.out.kept (Below.grownNone hbn none) (by cases hv : (Value.slice none 0 0).ownBlock <;> simp))
      have HT7 := Lib.hid (HT6.out.call hbn)
      have HLIT := Lib.hid (show ∀ j u, ([Value.int .i64 nx])[j]? = some u → X7.cell? ((⟨X6.heap.size, 0, none⟩ : Addr).add j) = some u from by rw [hX7]; exact cell_one_new X6 (.int .i64 nx) 3)
      rw [← hX7]
      clear hX7 hbn HS6 HR6 HO6 HP6 HT6
      (try dsimp only)
      refine hK.out _ _ (by exact SQ.out _ _ HS7.out) (fun hHeld => ?_)
      clear hK K
      (try simp only [Act.put, List.setIfInBounds_toArray, List.set_cons_zero, List.set_cons_succ, List.getElem_toArray, List.getElem_cons_zero, List.getElem_cons_succ])
      refine wpAnyH_ready (rs := [1]) (by kernel_rfl) (by simp) ?_
      refine AllReadyH.cons rfl (fun K hK => ?_) AllReadyH.nil
      obtain ⟨q0, q1, q2, q3, q4⟩ := HS7.out.cells
      go_simp
      clear q0 q1 q2 q3 q4
      (try dsimp only)
      refine hK.out _ _ (by exact SQ.out _ _ HS7.out) (fun hHeld => ?_)
      clear hK K
      (try simp only [Act.put, List.setIfInBounds_toArray, List.set_cons_zero, List.set_cons_succ, List.getElem_toArray, List.getElem_cons_zero, List.getElem_cons_succ])
      first | (refine wpAnyH_take (i := 3) (v := ?_) rfl (by kernel_rfl) (by kernel_rfl) (by kernel_rfl) (fun _ _ _ h => h) (Or.inl ⟨by rfl, ?_⟩) (by assumption) ?_; rotate_left; (intro X hSw; (try dsimp only at hSw); go_simp; (try with_reducible rfl)); (try simp only [Act.put, List.setIfInBounds_toArray, List.set_cons_zero, List.set_cons_succ, List.getElem_toArray, List.getElem_cons_zero, List.getElem_cons_succ])) | fail "take 3"
      refine wpAnyH_ready (rs := [7]) (by kernel_rfl) (by simp) ?_
      refine AllReadyH.cons rfl (fun K hK => ?_) AllReadyH.nil
      go_must (refine step_append_whered (by rfl) (.tmp 44) (.tmp 47) 24 (by rfl) b2 3 i0 (.int .i64 0) 1 8 Try.underlying24 hi0 hz0 hz1 hz2 rfl (by decide) (.slice none 0 0) 0 [] (by rfl) HP7.out ⟨X6.heap.size, 0, none⟩ 1 1 [.int .i64 nx] (by rfl) (by rfl) HLIT.out (ints_oneCell .i64 [nx]) (by unfold maxLen; omega) (by omega) (by omega) ?_)
      intro v8 w8 hown8 hgrow8 hwhere8
      obtain ⟨a8, c8, rfl⟩ := slice_own hown8
      have hs8 := hgrow8.size
      have HO8 := Lib.hid hown8
      have HW8 := Lib.hid hwhere8
      have HS8 := Lib.hid (HS7.out.grown hgrow8 (fun e => by first | (have := ob e; omega) | (simp [Value.ownBlock] at e; done)))
      have HR8 := Lib.hid (HR7.out.grown hgrow8 (fun e => by first | (have := ob e; omega) | (simp [Value.ownBlock] at e; done)))
      have HI8 := Lib.hid (HO7.out.kept hgrow8 (by cases hv : (Value.slice a5 1 c5).ownBlock with | none => exact .inl rfl | some g => exact .inr (fun e => by have := HN5.out g hv; first | (have := ob e.symm; omega) | (simp [Value.ownBlock] at e; done))))
      have HT8 := Lib.hid (HT7.out.trans (show Touch b1 w.heap.size X7 w8 from Touch.of hgrow8 (fun g hg => by first | (have := ob hg; omega) | (simp [Value.ownBlock] at hg; done))))
      clear hown8 hgrow8 hwhere8
      (try dsimp only)
      refine hK.out _ _ (by exact SQ.out _ _ HS8.out) (fun hHeld => ?_)
      clear hK K
      (try simp only [Act.put, List.setIfInBounds_toArray, List.set_cons_zero, List.set_cons_succ, List.getElem_toArray, List.getElem_cons_zero, List.getElem_cons_succ])
      first | (refine wpAnyH_take (i := 8) (v := ?_) rfl (by kernel_rfl) (by kernel_rfl) (by kernel_rfl) (fun _ _ _ h => h) (Or.inl ⟨by rfl, ?_⟩) (by assumption) ?_; rotate_left; (intro X hSw; (try dsimp only at hSw); go_simp; (try with_reducible rfl)); (try simp only [Act.put, List.setIfInBounds_toArray, List.set_cons_zero, List.set_cons_succ, List.getElem_toArray, List.getElem_cons_zero, List.getElem_cons_succ])) | fail "take 8"
      refine wpAnyH_ready (rs := [9]) (by kernel_rfl) (by simp) ?_
      refine AllReadyH.cons rfl (fun K hK => ?_) AllReadyH.nil
      have f1 := HS8.out.free 1
      obtain ⟨q0, q1, q2, q3, q4⟩ := HS8.out.cells
      go_simp
      have HS9 := Lib.hid (HS8.out.set1 (.slice a8 1 c8))
      (try dsimp only)
      refine hK.out _ _ (by exact SQ.out _ _ HS9.out) (fun hHeld => ?_)
      clear hK K
      (try simp only [Act.put, List.setIfInBounds_toArray, List.set_cons_zero, List.set_cons_succ, List.getElem_toArray, List.getElem_cons_zero, List.getElem_cons_succ])
      refine wpAnyH_done (by kernel_rfl) ?_ _
      obtain ⟨X9, hX9⟩ : ∃ X9, X9 = w8.setCell ⟨w.heap.size, 1, none⟩ (.slice a8 1 c8) := ⟨_, rfl⟩
      have hn8 : ∀ g, (Value.slice a8 1 c8).ownBlock = some g → g ≠ w.heap.size := fun g hg => by
        rcases HW8.out with e | ⟨g', e, hle⟩
        · rw [e] at hg; first | (have := ob hg; omega) | (simp [Value.ownBlock] at hg; done)
        · rw [e] at hg; obtain rfl := Option.some.inj hg; omega
      have hn58 : (Value.slice a5 1 c5).ownBlock = none ∨ (Value.slice a5 1 c5).ownBlock ≠ (Value.slice a8 1 c8).ownBlock := by
        cases hv : (Value.slice a5 1 c5).ownBlock with
        | none => exact .inl rfl
        | some g =>
          refine .inr (fun e => ?_)
          have h5 := (HO7.out.lt g hv).2
          rcases HW8.out with e' | ⟨g', e', hle⟩
          · rw [e'] at e
            have := HN5.out g hv
            first | (have := ob e.symm; omega) | (simp [Value.ownBlock] at e; done)
          · rw [e'] at e; obtain rfl := Option.some.inj e; omega
      have HN58 := Lib.hid hn58
      have HRW := Lib.hid (show X9.ownsRow b1 3 1 (.slice a5 1 c5) 1 [.int .i64 x] from by rw [hX9]; exact own_far HI8.out (fun g hg => by have := HN5.out g hg; omega))
      have HPW := Lib.hid (show X9.ownsRow b2 3 1 (.slice a8 1 c8) 1 [.int .i64 nx] from by rw [hX9]; exact own_far HO8.out hn8)
      have HS9 := Lib.hid (show Box5 X9 w.heap.size 26 (.slice a5 1 c5) (.slice a8 1 c8) (.int .i64 fi) (.int .i64 nx) (.int .i64 dr) from by rw [hX9]; exact HS9.out)
      have HR9 := Lib.hid (show Box5 X9 (w.heap.size + 1) 26 (.slice none 0 0) (.slice none 0 0) (.int .i64 0) (.int .i64 0) (.int .i64 0) from by rw [hX9]; exact HR8.out.other (by omega) _ _)
      have HT9 := Lib.hid (show Touch b1 w.heap.size w X9 from by rw [hX9]; exact HT8.out.far (Nat.le_refl _))
      have HPN := Lib.hid (show ∀ g, (Value.slice a8 1 c8).ownBlock = some g → g ≠ w.heap.size ∧ g ≠ w.heap.size + 1 from fun g hg => by
        rcases HW8.out with e | ⟨g', e, hle⟩
        · rw [e] at hg; first | (have := ob hg; omega) | (simp [Value.ownBlock] at hg; done)
        · rw [e] at hg; obtain rfl := Option.some.inj hg; omega)
      rw [← hX9]
      clear hX9 q0 q1 q2 q3 q4 f1 HS7 HS8 HR7 HR8 HO7 HO8 HI8 HP7 HT7 HT8 HW8 hn8 hn58 SQ HLIT
      obtain ⟨q0, q1, q2, q3, q4⟩ := HS9.out.cells
      have f9 := HS9.out.free
      obtain ⟨e0, e1, e2, e3, e4⟩ := HR9.out.cells
      have g9 := HR9.out.free
      have hrl9 := HR9.out.lt
      have hww : IntKind.i64.wrap (nx + 1) = nx + 1 := IntWalk.i64_in _ ⟨by omega, by omega⟩
      go_wp2_with fail
      refine bodyPost_ret (by simp [results, Try.results68, go_sem, *]; try rfl) rfl ?_
      obtain ⟨Y, hY⟩ : ∃ Y, Y = X9.setCell ⟨w.heap.size, 3, none⟩ (.int .i64 (nx + 1)) := ⟨_, rfl⟩
      have a1 : Y.ownsRow b1 3 1 (.slice a5 1 c5) 1 [.int .i64 x] := by rw [hY]; exact own_far HRW.out (fun g hg => by have := HN5.out g hg; omega)
      have a2 : Y.ownsRow b2 3 1 (.slice a8 1 c8) 1 [.int .i64 nx] := by rw [hY]; exact own_far HPW.out (fun g hg => (HPN.out g hg).1)
      have a3 : Touch b1 w.heap.size w Y := by rw [hY]; exact HT9.out.far (Nat.le_refl _)
      have hYs : w.heap.size + 1 < Y.heap.size := by rw [hY]; simpa [World.setCell] using hrl9
      rw [← hY]
      exact po_fin0 hb HN58.out (fun g hg => by have := HN5.out g hg; omega) (fun g hg => (HPN.out g hg).2) a1 a2 a3 (by omega) hYs _ _ _ _ _

set_option maxRecDepth 8000 in
set_option maxHeartbeats 4000000 in
theorem pushOver_ss {k : Int} {T fl : Nat} (O : OrdAt k T fl) (b1 b2 g1 ic g2 pc : Nat) (fi nx dr x : Int) (w : World)
    (hI : w.ownsRow b1 3 1 (.slice (some ⟨g1, 0, none⟩) 0 ic) 0 []) (hP : w.ownsRow b2 3 1 (.slice (some ⟨g2, 0, none⟩) 0 pc) 0 []) (hlt : ∀ g, (Value.slice (some ⟨g1, 0, none⟩) 0 ic).ownBlock = some g → g < b2) (hb : b1 ≤ b2) (hb2 : b2 ≤ w.heap.size)
    (hx0 : 0 ≤ nx) (hx1 : nx ≤ 900000) :
    Calls Try.prog 68 #[.iface T (.agg #[]), .agg #[.slice (some ⟨g1, 0, none⟩) 0 ic, .slice (some ⟨g2, 0, none⟩) 0 pc, .int .i64 fi, .int .i64 nx, .int .i64 dr], .int .i64 x] w (PoFin b1 (Agg.pushD k ⟨[], [], fi, nx, dr⟩ x) w) := by
  obtain ⟨i0, hi0, hz0, hz1, hz2⟩ := info_parts infoInt
  have HFB := Lib.hid (show (∀ g, (Value.slice (some ⟨g1, 0, none⟩) 0 ic).ownBlock = some g → b1 ≤ g ∧ g < b2) ∧ (∀ g, (Value.slice (some ⟨g2, 0, none⟩) 0 pc).ownBlock = some g → b2 ≤ g ∧ g < w.heap.size) from ⟨fun g hg => ⟨(hI.lt g hg).1, hlt g hg⟩, fun g hg => hP.lt g hg⟩)
  obtain ⟨hb1g, hg1b⟩ := HFB.out.1 g1 rfl
  obtain ⟨hb2g, hg2w⟩ := HFB.out.2 g2 rfl
  have HI := Lib.hid hI
  have HP := Lib.hid hP
  have HLT := Lib.hid hlt
  obtain ⟨W, hW⟩ : ∃ W, W = (w.alloc (.cells #[.slice (some ⟨g1, 0, none⟩) 0 ic, .slice (some ⟨g2, 0, none⟩) 0 pc, .int .i64 fi, .int .i64 nx, .int .i64 dr] 26)).alloc (.cells #[.slice none 0 0, .slice none 0 0, .int .i64 0, .int .i64 0, .int .i64 0] 26) := ⟨_, rfl⟩
  have HS := Lib.hid (show Box5 W w.heap.size 26 (.slice (some ⟨g1, 0, none⟩) 0 ic) (.slice (some ⟨g2, 0, none⟩) 0 pc) (.int .i64 fi) (.int .i64 nx) (.int .i64 dr) from by rw [hW]; exact (Box5.new w _ _ _ _ _ _).alloc _)
  have HR := Lib.hid (show Box5 W (w.heap.size + 1) 26 (.slice none 0 0) (.slice none 0 0) (.int .i64 0) (.int .i64 0) (.int .i64 0) from by rw [hW]; exact Box5.new1 _ _ _ _ _ _ (by simp))
  have HB := Lib.hid (show Below w.heap.size w W from by rw [hW]; exact ((Below.refl _ _).alloc (Nat.le_refl _) _).alloc (by simp) _)
  clear hI hP hlt O
  go_enter Try.func68, Try.ntmps68
  go_upto_region 1 with (fail)
  rw [← hW]
  clear hW
  obtain ⟨q0, q1, q2, q3, q4⟩ := HS.out.cells
  go_wp2_with fail
  clear q0 q1 q2 q3 q4
  go_loopw [7] (fun kv wr => kv = .int .i64 0 ∧ Hid (Box5 wr w.heap.size 26 (.slice (some ⟨g1, 0, none⟩) 0 ic) (.slice (some ⟨g2, 0, none⟩) 0 pc) (.int .i64 fi) (.int .i64 nx) (.int .i64 dr)) ∧ Hid (Box5 wr (w.heap.size + 1) 26 (.slice none 0 0) (.slice none 0 0) (.int .i64 0) (.int .i64 0) (.int .i64 0)) ∧ Hid (Below w.heap.size w wr)) (fun kv _ => 0)
  case atStart => exact ⟨rfl, HS, HR, HB⟩
  case round =>
    obtain ⟨rfl, hs, hr, hw⟩ := hrel
    clear HS HR HB
    obtain ⟨q0, q1, q2, q3, q4⟩ := hs.out.cells
    go_wp2_with fail
    refine wp_region_held_drew (S := (fun X => X.cell? ⟨w.heap.size, 0, none⟩ = some (.slice (some ⟨g1, 0, none⟩) 0 ic))) (by kernel_rfl) (by assumption) (fun hHeld => ?_)
    first | (refine wpAnyH_take (i := 0) (v := ?_) rfl (by kernel_rfl) (by kernel_rfl) (by kernel_rfl) (fun _ _ _ h => h) (Or.inl ⟨by rfl, ?_⟩) (by assumption) ?_; rotate_left; (intro X hSw; (try dsimp only at hSw); go_simp; (try with_reducible rfl)); (try simp only [Act.put, List.setIfInBounds_toArray, List.set_cons_zero, List.set_cons_succ, List.getElem_toArray, List.getElem_cons_zero, List.getElem_cons_succ])) | fail "take 0"
    first | (refine wpAnyH_take (i := 1) (v := ?_) rfl (by kernel_rfl) (by kernel_rfl) (by kernel_rfl) (fun _ _ _ h => h) (Or.inl ⟨by rfl, ?_⟩) (by assumption) ?_; rotate_left; (intro X hSw; (try dsimp only at hSw); go_simp; (try with_reducible rfl)); (try simp only [Act.put, List.setIfInBounds_toArray, List.set_cons_zero, List.set_cons_succ, List.getElem_toArray, List.getElem_cons_zero, List.getElem_cons_succ])) | fail "take 1"
    first | (refine wpAnyH_take (i := 2) (v := ?_) rfl (by kernel_rfl) (by kernel_rfl) (by kernel_rfl) (fun _ _ _ h => h) (Or.inl ⟨by rfl, ?_⟩) (by assumption) ?_; rotate_left; (intro X hSw; (try dsimp only at hSw); go_simp; (try with_reducible rfl)); (try simp only [Act.put, List.setIfInBounds_toArray, List.set_cons_zero, List.set_cons_succ, List.getElem_toArray, List.getElem_cons_zero, List.getElem_cons_succ])) | fail "take 2"
    first | (refine wpAnyH_take (i := 3) (v := undef) rfl (by kernel_rfl) (by kernel_rfl) (by kernel_rfl) (fun _ _ _ h => h) (Or.inr ⟨by rfl, rfl⟩) (by assumption) ?_; (try simp only [Act.put, List.setIfInBounds_toArray, List.set_cons_zero, List.set_cons_succ, List.getElem_toArray, List.getElem_cons_zero, List.getElem_cons_succ])) | fail "skip 3"
    first | (refine wpAnyH_take (i := 4) (v := undef) rfl (by kernel_rfl) (by kernel_rfl) (by kernel_rfl) (fun _ _ _ h => h) (Or.inr ⟨by rfl, rfl⟩) (by assumption) ?_; (try simp only [Act.put, List.setIfInBounds_toArray, List.set_cons_zero, List.set_cons_succ, List.getElem_toArray, List.getElem_cons_zero, List.getElem_cons_succ])) | fail "skip 4"
    first | (refine wpAnyH_take (i := 5) (v := undef) rfl (by kernel_rfl) (by kernel_rfl) (by kernel_rfl) (fun _ _ _ h => h) (Or.inr ⟨by rfl, rfl⟩) (by assumption) ?_; (try simp only [Act.put, List.setIfInBounds_toArray, List.set_cons_zero, List.set_cons_succ, List.getElem_toArray, List.getElem_cons_zero, List.getElem_cons_succ])) | fail "skip 5"
    first | (refine wpAnyH_take (i := 6) (v := undef) rfl (by kernel_rfl) (by kernel_rfl) (by kernel_rfl) (fun _ _ _ h => h) (Or.inr ⟨by rfl, rfl⟩) (by assumption) ?_; (try simp only [Act.put, List.setIfInBounds_toArray, List.set_cons_zero, List.set_cons_succ, List.getElem_toArray, List.getElem_cons_zero, List.getElem_cons_succ])) | fail "skip 6"
    first | (refine wpAnyH_take (i := 7) (v := undef) rfl (by kernel_rfl) (by kernel_rfl) (by kernel_rfl) (fun _ _ _ h => h) (Or.inr ⟨by rfl, rfl⟩) (by assumption) ?_; (try simp only [Act.put, List.setIfInBounds_toArray, List.set_cons_zero, List.set_cons_succ, List.getElem_toArray, List.getElem_cons_zero, List.getElem_cons_succ])) | fail "skip 7"
    first | (refine wpAnyH_take (i := 8) (v := undef) rfl (by kernel_rfl) (by kernel_rfl) (by kernel_rfl) (fun _ _ _ h => h) (Or.inr ⟨by rfl, rfl⟩) (by assumption) ?_; (try simp only [Act.put, List.setIfInBounds_toArray, List.set_cons_zero, List.set_cons_succ, List.getElem_toArray, List.getElem_cons_zero, List.getElem_cons_succ])) | fail "skip 8"
    first | (refine wpAnyH_take (i := 9) (v := undef) rfl (by kernel_rfl) (by kernel_rfl) (by kernel_rfl) (fun _ _ _ h => h) (Or.inr ⟨by rfl, rfl⟩) (by assumption) ?_; (try simp only [Act.put, List.setIfInBounds_toArray, List.set_cons_zero, List.set_cons_succ, List.getElem_toArray, List.getElem_cons_zero, List.getElem_cons_succ])) | fail "skip 9"
    first | (refine wpAnyH_take (i := 10) (v := undef) rfl (by kernel_rfl) (by kernel_rfl) (by kernel_rfl) (fun _ _ _ h => h) (Or.inr ⟨by rfl, rfl⟩) (by assumption) ?_; (try simp only [Act.put, List.setIfInBounds_toArray, List.set_cons_zero, List.set_cons_succ, List.getElem_toArray, List.getElem_cons_zero, List.getElem_cons_succ])) | fail "skip 10"
    first | (refine wpAnyH_take (i := 11) (v := undef) rfl (by kernel_rfl) (by kernel_rfl) (by kernel_rfl) (fun _ _ _ h => h) (Or.inr ⟨by rfl, rfl⟩) (by assumption) ?_; (try simp only [Act.put, List.setIfInBounds_toArray, List.set_cons_zero, List.set_cons_succ, List.getElem_toArray, List.getElem_cons_zero, List.getElem_cons_succ])) | fail "skip 11"
    first | (refine wpAnyH_take (i := 12) (v := undef) rfl (by kernel_rfl) (by kernel_rfl) (by kernel_rfl) (fun _ _ _ h => h) (Or.inr ⟨by rfl, rfl⟩) (by assumption) ?_; (try simp only [Act.put, List.setIfInBounds_toArray, List.set_cons_zero, List.set_cons_succ, List.getElem_toArray, List.getElem_cons_zero, List.getElem_cons_succ])) | fail "skip 12"
    first | (refine wpAnyH_take (i := 13) (v := undef) rfl (by kernel_rfl) (by kernel_rfl) (by kernel_rfl) (fun _ _ _ h => h) (Or.inr ⟨by rfl, rfl⟩) (by assumption) ?_; (try simp only [Act.put, List.setIfInBounds_toArray, List.set_cons_zero, List.set_cons_succ, List.getElem_toArray, List.getElem_cons_zero, List.getElem_cons_succ])) | fail "skip 13"
    first | (refine wpAnyH_take (i := 14) (v := undef) rfl (by kernel_rfl) (by kernel_rfl) (by kernel_rfl) (fun _ _ _ h => h) (Or.inr ⟨by rfl, rfl⟩) (by assumption) ?_; (try simp only [Act.put, List.setIfInBounds_toArray, List.set_cons_zero, List.set_cons_succ, List.getElem_toArray, List.getElem_cons_zero, List.getElem_cons_succ])) | fail "skip 14"
    first | (refine wpAnyH_take (i := 15) (v := ?_) rfl (by kernel_rfl) (by kernel_rfl) (by kernel_rfl) (fun _ _ _ h => h) (Or.inl ⟨by rfl, ?_⟩) (by assumption) ?_; rotate_left; (intro X hSw; (try dsimp only at hSw); go_simp; (try with_reducible rfl)); (try simp only [Act.put, List.setIfInBounds_toArray, List.set_cons_zero, List.set_cons_succ, List.getElem_toArray, List.getElem_cons_zero, List.getElem_cons_succ])) | fail "take 15"
    refine wpAnyH_done (by kernel_rfl) ?_ _
    obtain ⟨X3, hX3⟩ : ∃ X3, X3 = wr.drew := ⟨_, rfl⟩
    have HS3 := Lib.hid (show Box5 X3 w.heap.size 26 (.slice (some ⟨g1, 0, none⟩) 0 ic) (.slice (some ⟨g2, 0, none⟩) 0 pc) (.int .i64 fi) (.int .i64 nx) (.int .i64 dr) from by rw [hX3]; exact hs.out)
    have HR3 := Lib.hid (show Box5 X3 (w.heap.size + 1) 26 (.slice none 0 0) (.slice none 0 0) (.int .i64 0) (.int .i64 0) (.int .i64 0) from by rw [hX3]; exact hr.out)
    have HB3 := Lib.hid (show Below w.heap.size w X3 from by rw [hX3]; exact hw.out.drew)
    rw [← hX3]
    clear hX3 hs hr hw q0 q1 q2 q3 q4 hHeld
    have hsx := HB3.out.size
    have hsl := HS3.out.lt
    have hrl := HR3.out.lt
    have HI3 := Lib.hid (HI.out.kept (Below.grownNone HB3.out none) (by cases hv : (Value.slice (some ⟨g1, 0, none⟩) 0 ic).ownBlock <;> simp))
    have HP3 := Lib.hid (HP.out.kept (Below.grownNone HB3.out none) (by cases hv : (Value.slice (some ⟨g2, 0, none⟩) 0 pc).ownBlock <;> simp))
    have HPG := Lib.hid (fun g (hg : (Value.slice (some ⟨g2, 0, none⟩) 0 pc).ownBlock = some g) => HP.out.lt g hg)
    have HPI := Lib.hid (HI3.out)
    have HPP := Lib.hid (HP3.out)
    obtain ⟨q0, q1, q2, q3, q4⟩ := HS3.out.cells
    go_upto_region 6 with (
      at_builtin
      go_must (refine wpList_append_where rfl (.tmp 36) (.tmp 38) 24 rfl b1 3 i0 (.int .i64 0) 1 8 Try.underlying24 hi0 hz0 hz1 hz2 rfl (by decide) (.slice (some ⟨g1, 0, none⟩) 0 ic) 0 [] rfl (HPI.out.alloc _) ⟨X3.heap.size, 0, none⟩ 1 1 [.int .i64 x] rfl rfl (cell_one_new _ _ _) (ints_oneCell .i64 [x]) (by unfold maxLen; omega) (by omega) (by simp; omega) ?_)
      go_loud (
        intro v5 w5 hown5 hgrow5 hwhere5
        obtain ⟨a5, c5, rfl⟩ := slice_own hown5
        have HO5 := Lib.hid hown5
        have HG5 := Lib.hid hgrow5
        have HW5 := Lib.hid hwhere5
        have HS5 := Lib.hid ((HS3.out.alloc (.cells #[.int .i64 x] 3)).grown hgrow5 (fun e => by first | (have := ob e; omega) | (simp [Value.ownBlock] at e; done)))
        have HR5 := Lib.hid ((HR3.out.alloc (.cells #[.int .i64 x] 3)).grown hgrow5 (fun e => by first | (have := ob e; omega) | (simp [Value.ownBlock] at e; done)))
        have HP5 := Lib.hid ((HPP.out.alloc (.cells #[.int .i64 x] 3)).kept hgrow5 (by cases hv : (Value.slice (some ⟨g2, 0, none⟩) 0 pc).ownBlock with | none => exact .inl rfl | some g => exact .inr (fun e => by first | (have := ob e.symm; have := ob hv; omega) | (simp [Value.ownBlock] at hv; done) | (simp [Value.ownBlock] at e; done))))
        have f0 := HS5.out.free 0
        obtain ⟨q0, q1, q2, q3, q4⟩ := HS5.out.cells
        clear hown5 hgrow5 hwhere5))
    have hs5 : X3.heap.size + 1 ≤ w5.heap.size := by have := HG5.out.size; simpa using this
    have HN5 := Lib.hid (show ∀ g, (Value.slice a5 1 c5).ownBlock = some g → g < b2 ∨ X3.heap.size ≤ g from fun g hg => by
      rcases HW5.out with e | ⟨g', e, hle⟩
      · exact .inl (by rw [e] at hg; first | (have := ob hg; omega) | (simp [Value.ownBlock] at hg; done))
      · rw [e] at hg; obtain rfl := Option.some.inj hg; simp at hle; exact .inr (by omega))
    obtain ⟨X6, hX6⟩ : ∃ X6, X6 = w5.setCell ⟨w.heap.size, 0, none⟩ (.slice a5 1 c5) := ⟨_, rfl⟩
    have HS6 := Lib.hid (show Box5 X6 w.heap.size 26 (.slice a5 1 c5) (.slice (some ⟨g2, 0, none⟩) 0 pc) (.int .i64 fi) (.int .i64 nx) (.int .i64 dr) from by rw [hX6]; exact HS5.out.set0 _)
    have HR6 := Lib.hid (show Box5 X6 (w.heap.size + 1) 26 (.slice none 0 0) (.slice none 0 0) (.int .i64 0) (.int .i64 0) (.int .i64 0) from by rw [hX6]; exact HR5.out.other (by omega) _ _)
    have HO6 := Lib.hid (show X6.ownsRow b1 3 1 (.slice a5 1 c5) 1 [.int .i64 x] from by
      rw [hX6]
      exact own_far HO5.out (fun g hg => by have := HN5.out g hg; omega))
    have HP6 := Lib.hid (show X6.ownsRow b2 3 1 (.slice (some ⟨g2, 0, none⟩) 0 pc) 0 [] from by
      rw [hX6]
      exact own_far HP5.out (fun g hg => by first | (have := ob hg; omega) | (simp [Value.ownBlock] at hg; done)))
    have HT6 := Lib.hid (show Touch b1 w.heap.size w X6 from by
      rw [hX6]
      exact Touch.far ((((Touch.refl b1 w.heap.size w).call HB3.out).call ((Below.refl X3.heap.size X3).alloc (Nat.le_refl _) _)).trans (Touch.of HG5.out (fun g hg => by first | (have := ob hg; omega) | (simp [Value.ownBlock] at hg; done)))) (Nat.le_refl _))
    have hs6 : X3.heap.size + 1 ≤ X6.heap.size := by rw [hX6]; simpa [World.setCell] using hs5
    rw [← hX6]
    clear hX6 q0 q1 q2 q3 q4 f0 HS5 HR5 HP5 HO5 HG5 HW5 HPI HPP HI3 HP3 HS3 HR3 HB3
    obtain ⟨q0, q1, q2, q3, q4⟩ := HS6.out.cells
    have SQ := Lib.hid (show ∀ (X : World) (v : Value), Box5 X w.heap.size 26 (.slice a5 1 c5) v (.int .i64 fi) (.int .i64 nx) (.int .i64 dr) → X.cell? ⟨w.heap.size, 3, none⟩ = some (.int .i64 nx) from fun X v h => h.cells.2.2.2.1)
    refine wp_region_held_drew (S := (fun X => X.cell? ⟨w.heap.size, 3, none⟩ = some (.int .i64 nx))) (by kernel_rfl) (by exact q3) (fun hHeld => ?_)
    clear q0 q1 q2 q3 q4
    first | (refine wpAnyH_take (i := 0) (v := ?_) rfl (by kernel_rfl) (by kernel_rfl) (by kernel_rfl) (fun _ _ _ h => h) (Or.inl ⟨by rfl, ?_⟩) (by assumption) ?_; rotate_left; (intro X hSw; (try dsimp only at hSw); go_simp; (try with_reducible rfl)); (try simp only [Act.put, List.setIfInBounds_toArray, List.set_cons_zero, List.set_cons_succ, List.getElem_toArray, List.getElem_cons_zero, List.getElem_cons_succ])) | fail "take 0"
    first | (refine wpAnyH_take (i := 2) (v := ?_) rfl (by kernel_rfl) (by kernel_rfl) (by kernel_rfl) (fun _ _ _ h => h) (Or.inl ⟨by rfl, ?_⟩) (by assumption) ?_; rotate_left; (intro X hSw; (try dsimp only at hSw); go_simp; (try with_reducible rfl)); (try simp only [Act.put, List.setIfInBounds_toArray, List.set_cons_zero, List.set_cons_succ, List.getElem_toArray, List.getElem_cons_zero, List.getElem_cons_succ])) | fail "take 2"
    first | (refine wpAnyH_take (i := 4) (v := ?_) rfl (by kernel_rfl) (by kernel_rfl) (by kernel_rfl) (fun _ _ _ h => h) (Or.inl ⟨by rfl, ?_⟩) (by assumption) ?_; rotate_left; (intro X hSw; (try dsimp only at hSw); go_simp; (try with_reducible rfl)); (try simp only [Act.put, List.setIfInBounds_toArray, List.set_cons_zero, List.set_cons_succ, List.getElem_toArray, List.getElem_cons_zero, List.getElem_cons_succ])) | fail "take 4"
    first | (refine wpAnyH_take (i := 5) (v := ?_) rfl (by kernel_rfl) (by kernel_rfl) (by kernel_rfl) (fun _ _ _ h => h) (Or.inl ⟨by rfl, ?_⟩) (by assumption) ?_; rotate_left; (intro X hSw; (try dsimp only at hSw); go_simp; (try with_reducible rfl)); (try simp only [Act.put, List.setIfInBounds_toArray, List.set_cons_zero, List.set_cons_succ, List.getElem_toArray, List.getElem_cons_zero, List.getElem_cons_succ])) | fail "take 5"
    refine wpAnyH_ready (rs := [1, 6]) (by kernel_rfl) (by simp) ?_
    refine AllReadyH.cons rfl (fun K hK => ?_) (AllReadyH.cons rfl (fun K hK => ?_) AllReadyH.nil)

    · obtain ⟨q0, q1, q2, q3, q4⟩ := HS6.out.cells
      go_simp
      clear q0 q1 q2 q3 q4
      (try dsimp only)
      refine hK.out _ _ (by exact SQ.out _ _ HS6.out) (fun hHeld => ?_)
      clear hK K
      (try simp only [Act.put, List.setIfInBounds_toArray, List.set_cons_zero, List.set_cons_succ, List.getElem_toArray, List.getElem_cons_zero, List.getElem_cons_succ])
      first | (refine wpAnyH_take (i := 3) (v := ?_) rfl (by kernel_rfl) (by kernel_rfl) (by kernel_rfl) (fun _ _ _ h => h) (Or.inl ⟨by rfl, ?_⟩) (by assumption) ?_; rotate_left; (intro X hSw; (try dsimp only at hSw); go_simp; (try with_reducible rfl)); (try simp only [Act.put, List.setIfInBounds_toArray, List.set_cons_zero, List.set_cons_succ, List.getElem_toArray, List.getElem_cons_zero, List.getElem_cons_succ])) | fail "take 3"
      refine wpAnyH_ready (rs := [6]) (by kernel_rfl) (by simp) ?_
      refine AllReadyH.cons rfl (fun K hK => ?_) AllReadyH.nil
      go_simp
      obtain ⟨X7, hX7⟩ : ∃ X7, X7 = (X6.alloc (.cells #[.int .i64 nx] 3)).drew := ⟨_, rfl⟩
      have hbn : Below X6.heap.size X6 X7 := by rw [hX7]; exact ((Below.refl _ _).alloc (Nat.le_refl _) _).drew
      have hs7 : X7.heap.size = X6.heap.size + 1 := by rw [hX7]; simp [World.drew]
      have HS7 := Lib.hid (HS6.out.call hbn)
      have HR7 := Lib.hid (HR6.out.call hbn)
      have HO7 := Lib.hid (HO6.out.kept (Below.grownNone hbn none) (by cases hv : (Value.slice a5 1 c5).ownBlock <;> simp))
      have HP7 := Lib.hid (HP6.out.kept (Below.grownNone hbn none) (by cases hv : (Value.slice (some ⟨g2, 0, none⟩) 0 pc).ownBlock <;> simp))
      have HT7 := Lib.hid (HT6.out.call hbn)
      have HLIT := Lib.hid (show ∀ j u, ([Value.int .i64 nx])[j]? = some u → X7.cell? ((⟨X6.heap.size, 0, none⟩ : Addr).add j) = some u from by rw [hX7]; exact cell_one_new X6 (.int .i64 nx) 3)
      rw [← hX7]
      clear hX7 hbn HS6 HR6 HO6 HP6 HT6
      (try dsimp only)
      refine hK.out _ _ (by exact SQ.out _ _ HS7.out) (fun hHeld => ?_)
      clear hK K
      (try simp only [Act.put, List.setIfInBounds_toArray, List.set_cons_zero, List.set_cons_succ, List.getElem_toArray, List.getElem_cons_zero, List.getElem_cons_succ])
      refine wpAnyH_ready (rs := [7]) (by kernel_rfl) (by simp) ?_
      refine AllReadyH.cons rfl (fun K hK => ?_) AllReadyH.nil
      go_must (refine step_append_whered (by rfl) (.tmp 44) (.tmp 47) 24 (by rfl) b2 3 i0 (.int .i64 0) 1 8 Try.underlying24 hi0 hz0 hz1 hz2 rfl (by decide) (.slice (some ⟨g2, 0, none⟩) 0 pc) 0 [] (by rfl) HP7.out ⟨X6.heap.size, 0, none⟩ 1 1 [.int .i64 nx] (by rfl) (by rfl) HLIT.out (ints_oneCell .i64 [nx]) (by unfold maxLen; omega) (by omega) (by omega) ?_)
      intro v8 w8 hown8 hgrow8 hwhere8
      obtain ⟨a8, c8, rfl⟩ := slice_own hown8
      have hs8 := hgrow8.size
      have HO8 := Lib.hid hown8
      have HW8 := Lib.hid hwhere8
      have HS8 := Lib.hid (HS7.out.grown hgrow8 (fun e => by first | (have := ob e; omega) | (simp [Value.ownBlock] at e; done)))
      have HR8 := Lib.hid (HR7.out.grown hgrow8 (fun e => by first | (have := ob e; omega) | (simp [Value.ownBlock] at e; done)))
      have HI8 := Lib.hid (HO7.out.kept hgrow8 (by cases hv : (Value.slice a5 1 c5).ownBlock with | none => exact .inl rfl | some g => exact .inr (fun e => by have := HN5.out g hv; first | (have := ob e.symm; omega) | (simp [Value.ownBlock] at e; done))))
      have HT8 := Lib.hid (HT7.out.trans (show Touch b1 w.heap.size X7 w8 from Touch.of hgrow8 (fun g hg => by first | (have := ob hg; omega) | (simp [Value.ownBlock] at hg; done))))
      clear hown8 hgrow8 hwhere8
      (try dsimp only)
      refine hK.out _ _ (by exact SQ.out _ _ HS8.out) (fun hHeld => ?_)
      clear hK K
      (try simp only [Act.put, List.setIfInBounds_toArray, List.set_cons_zero, List.set_cons_succ, List.getElem_toArray, List.getElem_cons_zero, List.getElem_cons_succ])
      first | (refine wpAnyH_take (i := 8) (v := ?_) rfl (by kernel_rfl) (by kernel_rfl) (by kernel_rfl) (fun _ _ _ h => h) (Or.inl ⟨by rfl, ?_⟩) (by assumption) ?_; rotate_left; (intro X hSw; (try dsimp only at hSw); go_simp; (try with_reducible rfl)); (try simp only [Act.put, List.setIfInBounds_toArray, List.set_cons_zero, List.set_cons_succ, List.getElem_toArray, List.getElem_cons_zero, List.getElem_cons_succ])) | fail "take 8"
      refine wpAnyH_ready (rs := [9]) (by kernel_rfl) (by simp) ?_
      refine AllReadyH.cons rfl (fun K hK => ?_) AllReadyH.nil
      have f1 := HS8.out.free 1
      obtain ⟨q0, q1, q2, q3, q4⟩ := HS8.out.cells
      go_simp
      have HS9 := Lib.hid (HS8.out.set1 (.slice a8 1 c8))
      (try dsimp only)
      refine hK.out _ _ (by exact SQ.out _ _ HS9.out) (fun hHeld => ?_)
      clear hK K
      (try simp only [Act.put, List.setIfInBounds_toArray, List.set_cons_zero, List.set_cons_succ, List.getElem_toArray, List.getElem_cons_zero, List.getElem_cons_succ])
      refine wpAnyH_done (by kernel_rfl) ?_ _
      obtain ⟨X9, hX9⟩ : ∃ X9, X9 = w8.setCell ⟨w.heap.size, 1, none⟩ (.slice a8 1 c8) := ⟨_, rfl⟩
      have hn8 : ∀ g, (Value.slice a8 1 c8).ownBlock = some g → g ≠ w.heap.size := fun g hg => by
        rcases HW8.out with e | ⟨g', e, hle⟩
        · rw [e] at hg; first | (have := ob hg; omega) | (simp [Value.ownBlock] at hg; done)
        · rw [e] at hg; obtain rfl := Option.some.inj hg; omega
      have hn58 : (Value.slice a5 1 c5).ownBlock = none ∨ (Value.slice a5 1 c5).ownBlock ≠ (Value.slice a8 1 c8).ownBlock := by
        cases hv : (Value.slice a5 1 c5).ownBlock with
        | none => exact .inl rfl
        | some g =>
          refine .inr (fun e => ?_)
          have h5 := (HO7.out.lt g hv).2
          rcases HW8.out with e' | ⟨g', e', hle⟩
          · rw [e'] at e
            have := HN5.out g hv
            first | (have := ob e.symm; omega) | (simp [Value.ownBlock] at e; done)
          · rw [e'] at e; obtain rfl := Option.some.inj e; omega
      have HN58 := Lib.hid hn58
      have HRW := Lib.hid (show X9.ownsRow b1 3 1 (.slice a5 1 c5) 1 [.int .i64 x] from by rw [hX9]; exact own_far HI8.out (fun g hg => by have := HN5.out g hg; omega))
      have HPW := Lib.hid (show X9.ownsRow b2 3 1 (.slice a8 1 c8) 1 [.int .i64 nx] from by rw [hX9]; exact own_far HO8.out hn8)
      have HS9 := Lib.hid (show Box5 X9 w.heap.size 26 (.slice a5 1 c5) (.slice a8 1 c8) (.int .i64 fi) (.int .i64 nx) (.int .i64 dr) from by rw [hX9]; exact HS9.out)
      have HR9 := Lib.hid (show Box5 X9 (w.heap.size + 1) 26 (.slice none 0 0) (.slice none 0 0) (.int .i64 0) (.int .i64 0) (.int .i64 0) from by rw [hX9]; exact HR8.out.other (by omega) _ _)
      have HT9 := Lib.hid (show Touch b1 w.heap.size w X9 from by rw [hX9]; exact HT8.out.far (Nat.le_refl _))
      have HPN := Lib.hid (show ∀ g, (Value.slice a8 1 c8).ownBlock = some g → g ≠ w.heap.size ∧ g ≠ w.heap.size + 1 from fun g hg => by
        rcases HW8.out with e | ⟨g', e, hle⟩
        · rw [e] at hg; first | (have := ob hg; omega) | (simp [Value.ownBlock] at hg; done)
        · rw [e] at hg; obtain rfl := Option.some.inj hg; omega)
      rw [← hX9]
      clear hX9 q0 q1 q2 q3 q4 f1 HS7 HS8 HR7 HR8 HO7 HO8 HI8 HP7 HT7 HT8 HW8 hn8 hn58 SQ HLIT
      obtain ⟨q0, q1, q2, q3, q4⟩ := HS9.out.cells
      have f9 := HS9.out.free
      obtain ⟨e0, e1, e2, e3, e4⟩ := HR9.out.cells
      have g9 := HR9.out.free
      have hrl9 := HR9.out.lt
      have hww : IntKind.i64.wrap (nx + 1) = nx + 1 := IntWalk.i64_in _ ⟨by omega, by omega⟩
      go_wp2_with fail
      refine bodyPost_ret (by simp [results, Try.results68, go_sem, *]; try rfl) rfl ?_
      obtain ⟨Y, hY⟩ : ∃ Y, Y = X9.setCell ⟨w.heap.size, 3, none⟩ (.int .i64 (nx + 1)) := ⟨_, rfl⟩
      have a1 : Y.ownsRow b1 3 1 (.slice a5 1 c5) 1 [.int .i64 x] := by rw [hY]; exact own_far HRW.out (fun g hg => by have := HN5.out g hg; omega)
      have a2 : Y.ownsRow b2 3 1 (.slice a8 1 c8) 1 [.int .i64 nx] := by rw [hY]; exact own_far HPW.out (fun g hg => (HPN.out g hg).1)
      have a3 : Touch b1 w.heap.size w Y := by rw [hY]; exact HT9.out.far (Nat.le_refl _)
      have hYs : w.heap.size + 1 < Y.heap.size := by rw [hY]; simpa [World.setCell] using hrl9
      rw [← hY]
      exact po_fin0 hb HN58.out (fun g hg => by have := HN5.out g hg; omega) (fun g hg => (HPN.out g hg).2) a1 a2 a3 (by omega) hYs _ _ _ _ _
    · go_simp
      obtain ⟨X7, hX7⟩ : ∃ X7, X7 = (X6.alloc (.cells #[.int .i64 nx] 3)).drew := ⟨_, rfl⟩
      have hbn : Below X6.heap.size X6 X7 := by rw [hX7]; exact ((Below.refl _ _).alloc (Nat.le_refl _) _).drew
      have hs7 : X7.heap.size = X6.heap.size + 1 := by rw [hX7]; simp [World.drew]
      have HS7 := Lib.hid (HS6.out.call hbn)
      have HR7 := Lib.hid (HR6.out.call hbn)
      have HO7 := Lib.hid (HO6.out.kept (Below.grownNone hbn none) (by cases hv : (Value.slice a5 1 c5).ownBlock <;> simp))
      have HP7 := Lib.hid (HP6.out.kept (Below.grownNone hbn none) (by cases hv : (Value.slice (some ⟨g2, 0, none⟩) 0 pc).ownBlock <;> simp))
      have HT7 := Lib.hid (HT6.out.call hbn)
      have HLIT := Lib.hid (show ∀ j u, ([Value.int .i64 nx])[j]? = some u → X7.cell? ((⟨X6.heap.size, 0, none⟩ : Addr).add j) = some u from by rw [hX7]; exact cell_one_new X6 (.int .i64 nx) 3)
      rw [← hX7]
      clear hX7 hbn HS6 HR6 HO6 HP6 HT6
      (try dsimp only)
      refine hK.out _ _ (by exact SQ.out _ _ HS7.out) (fun hHeld => ?_)
      clear hK K
      (try simp only [Act.put, List.setIfInBounds_toArray, List.set_cons_zero, List.set_cons_succ, List.getElem_toArray, List.getElem_cons_zero, List.getElem_cons_succ])
      refine wpAnyH_ready (rs := [1]) (by kernel_rfl) (by simp) ?_
      refine AllReadyH.cons rfl (fun K hK => ?_) AllReadyH.nil
      obtain ⟨q0, q1, q2, q3, q4⟩ := HS7.out.cells
      go_simp
      clear q0 q1 q2 q3 q4
      (try dsimp only)
      refine hK.out _ _ (by exact SQ.out _ _ HS7.out) (fun hHeld => ?_)
      clear hK K
      (try simp only [Act.put, List.setIfInBounds_toArray, List.set_cons_zero, List.set_cons_succ, List.getElem_toArray, List.getElem_cons_zero, List.getElem_cons_succ])
      first | (refine wpAnyH_take (i := 3) (v := ?_) rfl (by kernel_rfl) (by kernel_rfl) (by kernel_rfl) (fun _ _ _ h => h) (Or.inl ⟨by rfl, ?_⟩) (by assumption) ?_; rotate_left; (intro X hSw; (try dsimp only at hSw); go_simp; (try with_reducible rfl)); (try simp only [Act.put, List.setIfInBounds_toArray, List.set_cons_zero, List.set_cons_succ, List.getElem_toArray, List.getElem_cons_zero, List.getElem_cons_succ])) | fail "take 3"
      refine wpAnyH_ready (rs := [7]) (by kernel_rfl) (by simp) ?_
      refine AllReadyH.cons rfl (fun K hK => ?_) AllReadyH.nil
      go_must (refine step_append_whered (by rfl) (.tmp 44) (.tmp 47) 24 (by rfl) b2 3 i0 (.int .i64 0) 1 8 Try.underlying24 hi0 hz0 hz1 hz2 rfl (by decide) (.slice (some ⟨g2, 0, none⟩) 0 pc) 0 [] (by rfl) HP7.out ⟨X6.heap.size, 0, none⟩ 1 1 [.int .i64 nx] (by rfl) (by rfl) HLIT.out (ints_oneCell .i64 [nx]) (by unfold maxLen; omega) (by omega) (by omega) ?_)
      intro v8 w8 hown8 hgrow8 hwhere8
      obtain ⟨a8, c8, rfl⟩ := slice_own hown8
      have hs8 := hgrow8.size
      have HO8 := Lib.hid hown8
      have HW8 := Lib.hid hwhere8
      have HS8 := Lib.hid (HS7.out.grown hgrow8 (fun e => by first | (have := ob e; omega) | (simp [Value.ownBlock] at e; done)))
      have HR8 := Lib.hid (HR7.out.grown hgrow8 (fun e => by first | (have := ob e; omega) | (simp [Value.ownBlock] at e; done)))
      have HI8 := Lib.hid (HO7.out.kept hgrow8 (by cases hv : (Value.slice a5 1 c5).ownBlock with | none => exact .inl rfl | some g => exact .inr (fun e => by have := HN5.out g hv; first | (have := ob e.symm; omega) | (simp [Value.ownBlock] at e; done))))
      have HT8 := Lib.hid (HT7.out.trans (show Touch b1 w.heap.size X7 w8 from Touch.of hgrow8 (fun g hg => by first | (have := ob hg; omega) | (simp [Value.ownBlock] at hg; done))))
      clear hown8 hgrow8 hwhere8
      (try dsimp only)
      refine hK.out _ _ (by exact SQ.out _ _ HS8.out) (fun hHeld => ?_)
      clear hK K
      (try simp only [Act.put, List.setIfInBounds_toArray, List.set_cons_zero, List.set_cons_succ, List.getElem_toArray, List.getElem_cons_zero, List.getElem_cons_succ])
      first | (refine wpAnyH_take (i := 8) (v := ?_) rfl (by kernel_rfl) (by kernel_rfl) (by kernel_rfl) (fun _ _ _ h => h) (Or.inl ⟨by rfl, ?_⟩) (by assumption) ?_; rotate_left; (intro X hSw; (try dsimp only at hSw); go_simp; (try with_reducible rfl)); (try simp only [Act.put, List.setIfInBounds_toArray, List.set_cons_zero, List.set_cons_succ, List.getElem_toArray, List.getElem_cons_zero, List.getElem_cons_succ])) | fail "take 8"
      refine wpAnyH_ready (rs := [9]) (by kernel_rfl) (by simp) ?_
      refine AllReadyH.cons rfl (fun K hK => ?_) AllReadyH.nil
      have f1 := HS8.out.free 1
      obtain ⟨q0, q1, q2, q3, q4⟩ := HS8.out.cells
      go_simp
      have HS9 := Lib.hid (HS8.out.set1 (.slice a8 1 c8))
      (try dsimp only)
      refine hK.out _ _ (by exact SQ.out _ _ HS9.out) (fun hHeld => ?_)
      clear hK K
      (try simp only [Act.put, List.setIfInBounds_toArray, List.set_cons_zero, List.set_cons_succ, List.getElem_toArray, List.getElem_cons_zero, List.getElem_cons_succ])
      refine wpAnyH_done (by kernel_rfl) ?_ _
      obtain ⟨X9, hX9⟩ : ∃ X9, X9 = w8.setCell ⟨w.heap.size, 1, none⟩ (.slice a8 1 c8) := ⟨_, rfl⟩
      have hn8 : ∀ g, (Value.slice a8 1 c8).ownBlock = some g → g ≠ w.heap.size := fun g hg => by
        rcases HW8.out with e | ⟨g', e, hle⟩
        · rw [e] at hg; first | (have := ob hg; omega) | (simp [Value.ownBlock] at hg; done)
        · rw [e] at hg; obtain rfl := Option.some.inj hg; omega
      have hn58 : (Value.slice a5 1 c5).ownBlock = none ∨ (Value.slice a5 1 c5).ownBlock ≠ (Value.slice a8 1 c8).ownBlock := by
        cases hv : (Value.slice a5 1 c5).ownBlock with
        | none => exact .inl rfl
        | some g =>
          refine .inr (fun e => ?_)
          have h5 := (HO7.out.lt g hv).2
          rcases HW8.out with e' | ⟨g', e', hle⟩
          · rw [e'] at e
            have := HN5.out g hv
            first | (have := ob e.symm; omega) | (simp [Value.ownBlock] at e; done)
          · rw [e'] at e; obtain rfl := Option.some.inj e; omega
      have HN58 := Lib.hid hn58
      have HRW := Lib.hid (show X9.ownsRow b1 3 1 (.slice a5 1 c5) 1 [.int .i64 x] from by rw [hX9]; exact own_far HI8.out (fun g hg => by have := HN5.out g hg; omega))
      have HPW := Lib.hid (show X9.ownsRow b2 3 1 (.slice a8 1 c8) 1 [.int .i64 nx] from by rw [hX9]; exact own_far HO8.out hn8)
      have HS9 := Lib.hid (show Box5 X9 w.heap.size 26 (.slice a5 1 c5) (.slice a8 1 c8) (.int .i64 fi) (.int .i64 nx) (.int .i64 dr) from by rw [hX9]; exact HS9.out)
      have HR9 := Lib.hid (show Box5 X9 (w.heap.size + 1) 26 (.slice none 0 0) (.slice none 0 0) (.int .i64 0) (.int .i64 0) (.int .i64 0) from by rw [hX9]; exact HR8.out.other (by omega) _ _)
      have HT9 := Lib.hid (show Touch b1 w.heap.size w X9 from by rw [hX9]; exact HT8.out.far (Nat.le_refl _))
      have HPN := Lib.hid (show ∀ g, (Value.slice a8 1 c8).ownBlock = some g → g ≠ w.heap.size ∧ g ≠ w.heap.size + 1 from fun g hg => by
        rcases HW8.out with e | ⟨g', e, hle⟩
        · rw [e] at hg; first | (have := ob hg; omega) | (simp [Value.ownBlock] at hg; done)
        · rw [e] at hg; obtain rfl := Option.some.inj hg; omega)
      rw [← hX9]
      clear hX9 q0 q1 q2 q3 q4 f1 HS7 HS8 HR7 HR8 HO7 HO8 HI8 HP7 HT7 HT8 HW8 hn8 hn58 SQ HLIT
      obtain ⟨q0, q1, q2, q3, q4⟩ := HS9.out.cells
      have f9 := HS9.out.free
      obtain ⟨e0, e1, e2, e3, e4⟩ := HR9.out.cells
      have g9 := HR9.out.free
      have hrl9 := HR9.out.lt
      have hww : IntKind.i64.wrap (nx + 1) = nx + 1 := IntWalk.i64_in _ ⟨by omega, by omega⟩
      go_wp2_with fail
      refine bodyPost_ret (by simp [results, Try.results68, go_sem, *]; try rfl) rfl ?_
      obtain ⟨Y, hY⟩ : ∃ Y, Y = X9.setCell ⟨w.heap.size, 3, none⟩ (.int .i64 (nx + 1)) := ⟨_, rfl⟩
      have a1 : Y.ownsRow b1 3 1 (.slice a5 1 c5) 1 [.int .i64 x] := by rw [hY]; exact own_far HRW.out (fun g hg => by have := HN5.out g hg; omega)
      have a2 : Y.ownsRow b2 3 1 (.slice a8 1 c8) 1 [.int .i64 nx] := by rw [hY]; exact own_far HPW.out (fun g hg => (HPN.out g hg).1)
      have a3 : Touch b1 w.heap.size w Y := by rw [hY]; exact HT9.out.far (Nat.le_refl _)
      have hYs : w.heap.size + 1 < Y.heap.size := by rw [hY]; simpa [World.setCell] using hrl9
      rw [← hY]
      exact po_fin0 hb HN58.out (fun g hg => by have := HN5.out g hg; omega) (fun g hg => (HPN.out g hg).2) a1 a2 a3 (by omega) hYs _ _ _ _ _

end Go.Proofs.Ytolgclajlklmaaa
