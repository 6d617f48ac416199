/-
  The arguments of StacksValue drawn.
-/
import Derived.Test.YtgadobhgcbphaaaGreat3q
namespace Go.Proofs.YtgadobhgcbphaaaGreat
set_option linter.unusedSimpArgs false
set_option linter.unusedVariables false
open Go.RowKit
theorem StkCase2.fin {w wf : World} {lo hi : Nat} {k : Int} {v : Value} {s : Agg.S} (hb : Below w.heap.size w wf) (ho : StkOwn wf lo hi v s) (hlo : w.heap.size < lo) (hhi : hi ≤ wf.heap.size) (hs : s.front.length ≤ 60 ∧ s.items.length ≤ 60) (u0 u1 u2 u3 u4 u5 u6 : Value) :
    StkCase2 w (.returned (.tuple #[.int .i64 k, v])) (((((((wf.setCell ⟨w.heap.size, 0, none⟩ u0).setCell ⟨w.heap.size, 1, none⟩ u1).setCell ⟨w.heap.size, 2, none⟩ u2).setCell ⟨w.heap.size, 3, none⟩ u3).setCell ⟨w.heap.size, 4, none⟩ u4).setCell ⟨w.heap.size, 5, none⟩ u5).setCell ⟨w.heap.size, 6, none⟩ u6) :=
  ⟨k, v, s, rfl, (ho.set7 (.inl hlo) _ _ _ _ _ _ _).wide (by omega) (by rw [size_sets7]; exact hhi) (Nat.le_refl _), hs, sets7 hb (Nat.le_refl _) _ _ _ _ _ _ _⟩
theorem StkCase2.drew {w wf : World} {e : Ending} (h : StkCase2 w e wf) : StkCase2 w e wf.drew := by
  obtain ⟨k, v, s, e1, ho, hs, hb⟩ := h
  exact ⟨k, v, s, e1, ho, hs, hb.drew⟩
set_option maxRecDepth 8000 in
set_option maxHeartbeats 1000000 in
theorem drawStacksValue_any (a : Option Addr) (n cap : Nat) (l : List Int) (w : World) (h : Bytes w a n cap l) :
    Calls Tryz.prog 25 #[.slice a n cap] w (StkCase2 w) := by
  obtain ⟨W, hW⟩ : ∃ W, W = w.alloc (.cells #[.slice none 0 0, .slice none 0 0, .int .i64 0, .int .i64 0, .int .i64 0, .int .i64 0, .int .i64 0] 47) := ⟨_, rfl⟩
  have HP := Lib.hid (show Box7 W w.heap.size 47 (.slice none 0 0) (.slice none 0 0) (.int .i64 0) (.int .i64 0) (.int .i64 0) (.int .i64 0) (.int .i64 0) from by rw [hW]; exact Box7.new w _ _ _ _ _ _ _ _)
  have HB := Lib.hid (show Below w.heap.size w W from by rw [hW]; exact (Below.refl _ _).alloc (Nat.le_refl _) _)
  have HY := Lib.hid (show Bytes W a n cap l from bytes_below h HB.out)
  have hWs : w.heap.size < W.heap.size := HP.out.lt
  clear h
  go_enter Tryz.func25, Tryz.ntmps25
  go_wp2_with fail
  rw [← hW]
  clear hW
  refine (drawStacksStep_any _ _ _ l _ HY.out).mono ?_
  rintro e w1 ⟨k, v1, s, b, x, rfl, hs1, hsm, hb1⟩
  have HP1 := Lib.hid (HP.out.call hb1)
  have HB1 := Lib.hid (HB.out.trans (hb1.mono HB.out.size))
  have hz1 := hb1.size
  have HS1 := Lib.hid hs1
  obtain ⟨fa, fc, ia, ic, rfl, -, -⟩ := hs1.read
  clear hb1 hs1 HP HB HY
  obtain ⟨W2, hW2⟩ : ∃ W2, W2 = (w1.alloc (.cells #[.slice fa s.front.length fc, .slice ia s.items.length ic, .int .i64 s.back.x, .int .i64 s.back.y, .int .i64 s.back.z, .int .i64 s.flips, .int .i64 s.cost] 47)).alloc (.cells #[.bool b, .int .i64 x] 64) := ⟨_, rfl⟩
  have hbn : Below w1.heap.size w1 W2 := by rw [hW2]; exact ((Below.refl _ _).alloc (Nat.le_refl _) _).alloc (by simp) _
  have HX2 := Lib.hid (show Box7 W2 w1.heap.size 47 (.slice fa s.front.length fc) (.slice ia s.items.length ic) (.int .i64 s.back.x) (.int .i64 s.back.y) (.int .i64 s.back.z) (.int .i64 s.flips) (.int .i64 s.cost) from by rw [hW2]; exact (Box7.new w1 _ _ _ _ _ _ _ _).alloc _)
  have HP2 := Lib.hid (HP1.out.call hbn)
  have HS2 := Lib.hid (HS1.out.below hbn)
  have HB2 := Lib.hid (HB1.out.trans (hbn.mono HB1.out.size))
  have hz2 := hbn.size
  have HS2d := Lib.hid (show StkOwn W2.drew W.heap.size w1.heap.size _ s from HS2.out)
  have HB2d := Lib.hid HB2.out.drew
  clear hbn HP1 HS1 HB1
  go_upto_region 2 with (fail)
  rw [← hW2]
  clear hW2
  obtain ⟨q0, q1, q2, q3, q4, q5, q6⟩ := HX2.out.cells
  obtain ⟨r0, r1, r2, r3, r4, r5, r6⟩ := HP2.out.cells
  have r7 := HP2.out.free
  have hne : w1.heap.size ≠ w.heap.size := by omega
  go_wp2_with fail
  go_region
  all_goals
   clear q0 q1 q2 q3 q4 q5 q6 hne
   go_wp2_with fail
   refine bodyPost_ret (by simp [results, Tryz.results25, go_sem, *]; try rfl) rfl ?_
   have h1 := HB2.out
   have h2 := HS2.out
   exact StkCase2.drew (StkCase2.fin (wf := W2) (lo := W.heap.size) (hi := w1.heap.size) h1 h2 hWs hz2 hsm _ _ _ _ _ _ _)
end Go.Proofs.YtgadobhgcbphaaaGreat
