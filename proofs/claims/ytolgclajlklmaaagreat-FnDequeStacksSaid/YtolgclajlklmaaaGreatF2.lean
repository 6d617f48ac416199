/-
  Folds of items in the program, at some kinds.
-/
import Derived.Test.YtolgclajlklmaaaGreatMa
import Derived.Test.YtolgclajlklmaaaGreatL
import Derived.Test.YtolgclajlklmaaaGreatA1
import Derived.Test.YtolgclajlklmaaaGreatA2
import Derived.Deep.RegionHeld3
namespace Go.Proofs.YtolgclajlklmaaaGreat
set_option linter.unusedSimpArgs false
set_option linter.unusedVariables false
open Go.RowKit
theorem ahead_4 (m : Nat) (w : World) : (nilAhead (m + 1) 155 (.agg #[]) "loop.example/windowaggregates/impl.combine").run Tryz.prog w = .ok (some false) w := by kernel_rfl
set_option maxHeartbeats 4000000 in
theorem foldItems_4 (a : Option Addr) (n cap : Nat) (l : List Int) (w : World) (h : Nums .i64 w a n cap l) :
    Calls Tryz.prog 63 #[.int .i64 4, .slice a n cap] w fun e w' => e = .returned (.tuple #[.agg #[.int .i64 (Agg.aFold 4 l).1.x, .int .i64 (Agg.aFold 4 l).1.y, .int .i64 (Agg.aFold 4 l).1.z], .bool (Agg.aFold 4 l).2]) ∧ Below w.heap.size w w' := by
  cases hi : Agg.itemsOk l
  · have e : Agg.aFold 4 l = (Agg.zero, false) := by simp [Agg.aFold, Agg.give, hi]
    rw [e]
    go_enter Tryz.func63, Tryz.ntmps63
    go_wp2_with (first | (go_at_call 74; refine (kindOf_4 _).mono ?_; rintro e w1 ⟨rfl, rfl⟩) | (go_at_call 47; refine (areItems_any _ _ _ l _ (h.below (by go_grown))).mono ?_; rintro e w1 ⟨rfl, rfl⟩))
    refine bodyPost_ret (by simp [results, Tryz.results63, go_sem, *]; try rfl) rfl ?_
    exact ⟨ret_agg_bool rfl rfl rfl rfl, (by first | (go_grown; done) | (refine below_drewN ?_ _; go_grown; done) | (refine (below_drewN _ ?_); go_grown; done))⟩
  · have e : Agg.aFold 4 l = (Agg.fold 4 (l.take l.length), true) := by simp [Agg.aFold, Agg.give, Agg.isKind, hi]
    have hlen := Agg.items_len hi
    have hok : ∀ i, i ≤ l.length → Agg.ok 4 (Agg.fold 4 (l.take i)) = true := Agg.ok_fold (by decide) hi
    have hit : ∀ i, i < l.length → Agg.isItem (l[i]?.getD 0) = true := fun i h => Agg.item_at hi h
    have hst : ∀ i, i < l.length → Agg.fold 4 (l.take (i + 1)) = Agg.comb 4 (Agg.fold 4 (l.take i)) (Agg.lift 4 (l[i]?.getD 0)) := fun i h => Agg.fold_take 4 l i h
    have hH := Lib.hid h
    obtain ⟨hl, hcap, hm, h4⟩ := h
    unfold maxLen at hm
    have HL := Lib.hid hl; clear hl
    have HOK := Lib.hid hok; clear hok
    have HIT := Lib.hid hit; clear hit
    have HST := Lib.hid hst; clear hst
    have H4 := Lib.hid h4; clear h4
    have HE := Lib.hid e
    rw [e]
    clear e
    go_enter Tryz.func63, Tryz.ntmps63
    go_wp2_with (first | (go_at_call 74; refine (kindOf_4 _).mono ?_; rintro e w1 ⟨rfl, rfl⟩) | (go_at_call 47; refine (areItems_any _ _ _ l _ (hH.out.below (by go_grown))).mono ?_; rintro e w1 ⟨rfl, rfl⟩) | (go_at_call 147; refine (unit_4 _).mono ?_; rintro e w1 ⟨rfl, hb1⟩; have hz0 : w.heap.size < w1.heap.size := (by have hzz := hb1.size; (try simp at hzz); omega); have hB1 : Below w.heap.size w w1 := Below.trans (by go_grown) (hb1.mono (by first | (simp; done) | (simp; omega) | omega))))
    have hbx := Box.new w1 40 (Agg.unit 4).x (Agg.unit 4).y (Agg.unit 4).z
    have hb0 : Below (w.heap.size + 1) w1 (w1.alloc (.cells #[.int .i64 (Agg.unit 4).x, .int .i64 (Agg.unit 4).y, .int .i64 (Agg.unit 4).z] 40)) := (Below.refl _ _).alloc (by omega) _
    have hrb : Box w1 w.heap.size 40 0 0 0 := (Box.new w 40 0 0 0).below hb1 (by simp)
    have hBB : Below w.heap.size w (w1.alloc (.cells #[.int .i64 (Agg.unit 4).x, .int .i64 (Agg.unit 4).y, .int .i64 (Agg.unit 4).z] 40)) := hB1.alloc (by omega) _
    have HBX := Lib.hid hbx; clear hbx
    have HRB := Lib.hid (hrb.below hb0 (by omega)); clear hrb hb0
    have HBB := Lib.hid hBB; clear hBB
    clear hb1
    obtain ⟨c, hc⟩ : ∃ c, c = w1.heap.size := ⟨_, rfl⟩
    rw [← hc] at HBX ⊢
    have HC := Lib.hid hc; clear hc
    go_loopw [28] (fun i wr => ∃ kk : Nat, kk ≤ n ∧ i = .int .i64 kk ∧ Hid (Box wr c 40 (Agg.fold 4 (l.take kk)).x (Agg.fold 4 (l.take kk)).y (Agg.fold 4 (l.take kk)).z) ∧ Hid (Box wr w.heap.size 40 0 0 0) ∧ Hid (Below w.heap.size w wr)) (fun i _ => n - (intOf i).toNat)
    case atStart => exact ⟨0, Nat.zero_le _, rfl, HBX, HRB, HBB⟩
    case round =>
      obtain ⟨kk, hk, rfl, HB, HR, HW⟩ := hrel
      have hwc : w.heap.size < c := by have := HC.out; omega
      clear HBX HRB HBB
      by_cases hlt : kk < n
      · rcases H4.out with h4 | ⟨b, off, rfl, hb, hcs⟩
        · omega
        · have hck := (HW.out.cell (p := ⟨b, off + kk, none⟩) hb).trans (hcs kk hlt)
          clear hcs
          obtain ⟨x, hx⟩ : ∃ x, x = l[kk]?.getD 0 := ⟨_, rfl⟩
          rw [← hx] at hck
          have hii := HIT.out kk (by have := HL.out; omega)
          have hss := HST.out kk (by have := HL.out; omega)
          have hoo := HOK.out kk (by have := HL.out; omega)
          rw [← hx] at hii hss
          have HX := Lib.hid hx; clear hx
          obtain ⟨V, hV⟩ : ∃ V, V = Agg.fold 4 (l.take kk) := ⟨_, rfl⟩
          rw [← hV] at HB hss hoo
          have HLI := Lib.hid (Agg.ok_lift (k := 4) (by decide) hii)
          simp only [Agg.isItem, decide_eq_true_eq] at hii
          obtain ⟨hi0, hi1⟩ := hii
          have HSS := Lib.hid hss; clear hss
          have HOO := Lib.hid hoo; clear hoo
          have HV := Lib.hid hV; clear hV
          have hcl := HB.out.lt
          obtain ⟨q0, q1, q2⟩ := HB.out.cells
          have z0 := HB.out.free 0
          have z1 := HB.out.free 1
          have z2 := HB.out.free 2
          have hna := ahead_4
          go_wp2_with fail
          go_region_with (first | (go_at_call 145; refine (lift_4 _ _ (by omega) (by omega)).mono ?_; rintro e w2 ⟨rfl, hb2⟩; obtain ⟨hq, hr, hw⟩ := carryD HB.out HR.out HW.out hwc hb2; obtain ⟨q0, q1, q2⟩ := hq.cells; have z0 := hq.free 0; have z1 := hq.free 1; have z2 := hq.free 2; have HB2 := Lib.hid hq; have HR2 := Lib.hid hr; have HW2 := Lib.hid hw; clear hq hr hw hb2) | (go_at_call 143; refine (combine_4 V.x V.y V.z (Agg.lift 4 x).x (Agg.lift 4 x).y (Agg.lift 4 x).z _ HOO.out HLI.out).mono ?_; rintro e w3 ⟨rfl, hb2⟩; obtain ⟨hq, hr, hw⟩ := carry HB2.out HR2.out HW2.out hwc hb2; obtain ⟨q0, q1, q2⟩ := hq.cells; have z0 := hq.free 0; have z1 := hq.free 1; have z2 := hq.free 2; have HB3 := Lib.hid hq; have HR3 := Lib.hid hr; have HW3 := Lib.hid hw; clear hq hr hw hb2))
          all_goals
            go_wp2
            go_roundw
            case rel => exact ⟨kk + 1, by omega, by go_num, by show Box _ _ _ _ _ _; rw [HSS.out]; exact HB3.out.set _ _ _, ((HR3.out.set_other (Nat.ne_of_lt hwc) _ _).set_other (Nat.ne_of_lt hwc) _ _).set_other (Nat.ne_of_lt hwc) _ _, ((HW3.out.setCell (Nat.le_of_lt hwc) _).setCell (Nat.le_of_lt hwc) _).setCell (Nat.le_of_lt hwc) _⟩
            case measure => simp [intOf]; omega
      · obtain ⟨V, hV⟩ : ∃ V, V = Agg.fold 4 (l.take kk) := ⟨_, rfl⟩
        rw [← hV] at HB
        have hV2 : V = Agg.fold 4 (l.take l.length) := by have := HL.out; rw [hV, show kk = l.length by omega]
        have HV := Lib.hid hV2; clear hV hV2
        obtain ⟨q0, q1, q2⟩ := HB.out.cells
        obtain ⟨r0, r1, r2⟩ := HR.out.cells
        have z0 := HR.out.free 0
        have z1 := HR.out.free 1
        have z2 := HR.out.free 2
        have hlt' : n ≤ kk := by omega
        clear hlt
        go_wp2
        refine bodyPost_ret (by simp [results, Tryz.results63, go_sem, *]; try rfl) rfl ?_
        exact ⟨by rw [← HV.out], ((HW.out.setCell (Nat.le_refl _) _).setCell (Nat.le_refl _) _).setCell (Nat.le_refl _) _⟩
theorem ahead_5 (m : Nat) (w : World) : (nilAhead (m + 1) 158 (.agg #[]) "loop.example/windowaggregates/impl.combine").run Tryz.prog w = .ok (some false) w := by kernel_rfl
set_option maxHeartbeats 4000000 in
theorem foldItems_5 (a : Option Addr) (n cap : Nat) (l : List Int) (w : World) (h : Nums .i64 w a n cap l) :
    Calls Tryz.prog 63 #[.int .i64 5, .slice a n cap] w fun e w' => e = .returned (.tuple #[.agg #[.int .i64 (Agg.aFold 5 l).1.x, .int .i64 (Agg.aFold 5 l).1.y, .int .i64 (Agg.aFold 5 l).1.z], .bool (Agg.aFold 5 l).2]) ∧ Below w.heap.size w w' := by
  cases hi : Agg.itemsOk l
  · have e : Agg.aFold 5 l = (Agg.zero, false) := by simp [Agg.aFold, Agg.give, hi]
    rw [e]
    go_enter Tryz.func63, Tryz.ntmps63
    go_wp2_with (first | (go_at_call 74; refine (kindOf_5 _).mono ?_; rintro e w1 ⟨rfl, rfl⟩) | (go_at_call 47; refine (areItems_any _ _ _ l _ (h.below (by go_grown))).mono ?_; rintro e w1 ⟨rfl, rfl⟩))
    refine bodyPost_ret (by simp [results, Tryz.results63, go_sem, *]; try rfl) rfl ?_
    exact ⟨ret_agg_bool rfl rfl rfl rfl, (by first | (go_grown; done) | (refine below_drewN ?_ _; go_grown; done) | (refine (below_drewN _ ?_); go_grown; done))⟩
  · have e : Agg.aFold 5 l = (Agg.fold 5 (l.take l.length), true) := by simp [Agg.aFold, Agg.give, Agg.isKind, hi]
    have hlen := Agg.items_len hi
    have hok : ∀ i, i ≤ l.length → Agg.ok 5 (Agg.fold 5 (l.take i)) = true := Agg.ok_fold (by decide) hi
    have hit : ∀ i, i < l.length → Agg.isItem (l[i]?.getD 0) = true := fun i h => Agg.item_at hi h
    have hst : ∀ i, i < l.length → Agg.fold 5 (l.take (i + 1)) = Agg.comb 5 (Agg.fold 5 (l.take i)) (Agg.lift 5 (l[i]?.getD 0)) := fun i h => Agg.fold_take 5 l i h
    have hH := Lib.hid h
    obtain ⟨hl, hcap, hm, h4⟩ := h
    unfold maxLen at hm
    have HL := Lib.hid hl; clear hl
    have HOK := Lib.hid hok; clear hok
    have HIT := Lib.hid hit; clear hit
    have HST := Lib.hid hst; clear hst
    have H4 := Lib.hid h4; clear h4
    have HE := Lib.hid e
    rw [e]
    clear e
    go_enter Tryz.func63, Tryz.ntmps63
    go_wp2_with (first | (go_at_call 74; refine (kindOf_5 _).mono ?_; rintro e w1 ⟨rfl, rfl⟩) | (go_at_call 47; refine (areItems_any _ _ _ l _ (hH.out.below (by go_grown))).mono ?_; rintro e w1 ⟨rfl, rfl⟩) | (go_at_call 155; refine (unit_5 _).mono ?_; rintro e w1 ⟨rfl, hb1⟩; have hz0 : w.heap.size < w1.heap.size := (by have hzz := hb1.size; (try simp at hzz); omega); have hB1 : Below w.heap.size w w1 := Below.trans (by go_grown) (hb1.mono (by first | (simp; done) | (simp; omega) | omega))))
    have hbx := Box.new w1 40 (Agg.unit 5).x (Agg.unit 5).y (Agg.unit 5).z
    have hb0 : Below (w.heap.size + 1) w1 (w1.alloc (.cells #[.int .i64 (Agg.unit 5).x, .int .i64 (Agg.unit 5).y, .int .i64 (Agg.unit 5).z] 40)) := (Below.refl _ _).alloc (by omega) _
    have hrb : Box w1 w.heap.size 40 0 0 0 := (Box.new w 40 0 0 0).below hb1 (by simp)
    have hBB : Below w.heap.size w (w1.alloc (.cells #[.int .i64 (Agg.unit 5).x, .int .i64 (Agg.unit 5).y, .int .i64 (Agg.unit 5).z] 40)) := hB1.alloc (by omega) _
    have HBX := Lib.hid hbx; clear hbx
    have HRB := Lib.hid (hrb.below hb0 (by omega)); clear hrb hb0
    have HBB := Lib.hid hBB; clear hBB
    clear hb1
    obtain ⟨c, hc⟩ : ∃ c, c = w1.heap.size := ⟨_, rfl⟩
    rw [← hc] at HBX ⊢
    have HC := Lib.hid hc; clear hc
    go_loopw [28] (fun i wr => ∃ kk : Nat, kk ≤ n ∧ i = .int .i64 kk ∧ Hid (Box wr c 40 (Agg.fold 5 (l.take kk)).x (Agg.fold 5 (l.take kk)).y (Agg.fold 5 (l.take kk)).z) ∧ Hid (Box wr w.heap.size 40 0 0 0) ∧ Hid (Below w.heap.size w wr)) (fun i _ => n - (intOf i).toNat)
    case atStart => exact ⟨0, Nat.zero_le _, rfl, HBX, HRB, HBB⟩
    case round =>
      obtain ⟨kk, hk, rfl, HB, HR, HW⟩ := hrel
      have hwc : w.heap.size < c := by have := HC.out; omega
      clear HBX HRB HBB
      by_cases hlt : kk < n
      · rcases H4.out with h4 | ⟨b, off, rfl, hb, hcs⟩
        · omega
        · have hck := (HW.out.cell (p := ⟨b, off + kk, none⟩) hb).trans (hcs kk hlt)
          clear hcs
          obtain ⟨x, hx⟩ : ∃ x, x = l[kk]?.getD 0 := ⟨_, rfl⟩
          rw [← hx] at hck
          have hii := HIT.out kk (by have := HL.out; omega)
          have hss := HST.out kk (by have := HL.out; omega)
          have hoo := HOK.out kk (by have := HL.out; omega)
          rw [← hx] at hii hss
          have HX := Lib.hid hx; clear hx
          obtain ⟨V, hV⟩ : ∃ V, V = Agg.fold 5 (l.take kk) := ⟨_, rfl⟩
          rw [← hV] at HB hss hoo
          have HLI := Lib.hid (Agg.ok_lift (k := 5) (by decide) hii)
          simp only [Agg.isItem, decide_eq_true_eq] at hii
          obtain ⟨hi0, hi1⟩ := hii
          have HSS := Lib.hid hss; clear hss
          have HOO := Lib.hid hoo; clear hoo
          have HV := Lib.hid hV; clear hV
          have hcl := HB.out.lt
          obtain ⟨q0, q1, q2⟩ := HB.out.cells
          have z0 := HB.out.free 0
          have z1 := HB.out.free 1
          have z2 := HB.out.free 2
          have hna := ahead_5
          go_wp2_with fail
          go_region_with (first | (go_at_call 153; refine (lift_5 _ _ (by omega) (by omega)).mono ?_; rintro e w2 ⟨rfl, hb2⟩; obtain ⟨hq, hr, hw⟩ := carryD HB.out HR.out HW.out hwc hb2; obtain ⟨q0, q1, q2⟩ := hq.cells; have z0 := hq.free 0; have z1 := hq.free 1; have z2 := hq.free 2; have HB2 := Lib.hid hq; have HR2 := Lib.hid hr; have HW2 := Lib.hid hw; clear hq hr hw hb2) | (go_at_call 151; refine (combine_5 V.x V.y V.z (Agg.lift 5 x).x (Agg.lift 5 x).y (Agg.lift 5 x).z _ HOO.out HLI.out).mono ?_; rintro e w3 ⟨rfl, hb2⟩; obtain ⟨hq, hr, hw⟩ := carry HB2.out HR2.out HW2.out hwc hb2; obtain ⟨q0, q1, q2⟩ := hq.cells; have z0 := hq.free 0; have z1 := hq.free 1; have z2 := hq.free 2; have HB3 := Lib.hid hq; have HR3 := Lib.hid hr; have HW3 := Lib.hid hw; clear hq hr hw hb2))
          all_goals
            go_wp2
            go_roundw
            case rel => exact ⟨kk + 1, by omega, by go_num, by show Box _ _ _ _ _ _; rw [HSS.out]; exact HB3.out.set _ _ _, ((HR3.out.set_other (Nat.ne_of_lt hwc) _ _).set_other (Nat.ne_of_lt hwc) _ _).set_other (Nat.ne_of_lt hwc) _ _, ((HW3.out.setCell (Nat.le_of_lt hwc) _).setCell (Nat.le_of_lt hwc) _).setCell (Nat.le_of_lt hwc) _⟩
            case measure => simp [intOf]; omega
      · obtain ⟨V, hV⟩ : ∃ V, V = Agg.fold 5 (l.take kk) := ⟨_, rfl⟩
        rw [← hV] at HB
        have hV2 : V = Agg.fold 5 (l.take l.length) := by have := HL.out; rw [hV, show kk = l.length by omega]
        have HV := Lib.hid hV2; clear hV hV2
        obtain ⟨q0, q1, q2⟩ := HB.out.cells
        obtain ⟨r0, r1, r2⟩ := HR.out.cells
        have z0 := HR.out.free 0
        have z1 := HR.out.free 1
        have z2 := HR.out.free 2
        have hlt' : n ≤ kk := by omega
        clear hlt
        go_wp2
        refine bodyPost_ret (by simp [results, Tryz.results63, go_sem, *]; try rfl) rfl ?_
        exact ⟨by rw [← HV.out], ((HW.out.setCell (Nat.le_refl _) _).setCell (Nat.le_refl _) _).setCell (Nat.le_refl _) _⟩
theorem ahead_6 (m : Nat) (w : World) : (nilAhead (m + 1) 161 (.agg #[]) "loop.example/windowaggregates/impl.combine").run Tryz.prog w = .ok (some false) w := by kernel_rfl
set_option maxHeartbeats 4000000 in
theorem foldItems_6 (a : Option Addr) (n cap : Nat) (l : List Int) (w : World) (h : Nums .i64 w a n cap l) :
    Calls Tryz.prog 63 #[.int .i64 6, .slice a n cap] w fun e w' => e = .returned (.tuple #[.agg #[.int .i64 (Agg.aFold 6 l).1.x, .int .i64 (Agg.aFold 6 l).1.y, .int .i64 (Agg.aFold 6 l).1.z], .bool (Agg.aFold 6 l).2]) ∧ Below w.heap.size w w' := by
  cases hi : Agg.itemsOk l
  · have e : Agg.aFold 6 l = (Agg.zero, false) := by simp [Agg.aFold, Agg.give, hi]
    rw [e]
    go_enter Tryz.func63, Tryz.ntmps63
    go_wp2_with (first | (go_at_call 74; refine (kindOf_6 _).mono ?_; rintro e w1 ⟨rfl, rfl⟩) | (go_at_call 47; refine (areItems_any _ _ _ l _ (h.below (by go_grown))).mono ?_; rintro e w1 ⟨rfl, rfl⟩))
    refine bodyPost_ret (by simp [results, Tryz.results63, go_sem, *]; try rfl) rfl ?_
    exact ⟨ret_agg_bool rfl rfl rfl rfl, (by first | (go_grown; done) | (refine below_drewN ?_ _; go_grown; done) | (refine (below_drewN _ ?_); go_grown; done))⟩
  · have e : Agg.aFold 6 l = (Agg.fold 6 (l.take l.length), true) := by simp [Agg.aFold, Agg.give, Agg.isKind, hi]
    have hlen := Agg.items_len hi
    have hok : ∀ i, i ≤ l.length → Agg.ok 6 (Agg.fold 6 (l.take i)) = true := Agg.ok_fold (by decide) hi
    have hit : ∀ i, i < l.length → Agg.isItem (l[i]?.getD 0) = true := fun i h => Agg.item_at hi h
    have hst : ∀ i, i < l.length → Agg.fold 6 (l.take (i + 1)) = Agg.comb 6 (Agg.fold 6 (l.take i)) (Agg.lift 6 (l[i]?.getD 0)) := fun i h => Agg.fold_take 6 l i h
    have hH := Lib.hid h
    obtain ⟨hl, hcap, hm, h4⟩ := h
    unfold maxLen at hm
    have HL := Lib.hid hl; clear hl
    have HOK := Lib.hid hok; clear hok
    have HIT := Lib.hid hit; clear hit
    have HST := Lib.hid hst; clear hst
    have H4 := Lib.hid h4; clear h4
    have HE := Lib.hid e
    rw [e]
    clear e
    go_enter Tryz.func63, Tryz.ntmps63
    go_wp2_with (first | (go_at_call 74; refine (kindOf_6 _).mono ?_; rintro e w1 ⟨rfl, rfl⟩) | (go_at_call 47; refine (areItems_any _ _ _ l _ (hH.out.below (by go_grown))).mono ?_; rintro e w1 ⟨rfl, rfl⟩) | (go_at_call 163; refine (unit_6 _).mono ?_; rintro e w1 ⟨rfl, hb1⟩; have hz0 : w.heap.size < w1.heap.size := (by have hzz := hb1.size; (try simp at hzz); omega); have hB1 : Below w.heap.size w w1 := Below.trans (by go_grown) (hb1.mono (by first | (simp; done) | (simp; omega) | omega))))
    have hbx := Box.new w1 40 (Agg.unit 6).x (Agg.unit 6).y (Agg.unit 6).z
    have hb0 : Below (w.heap.size + 1) w1 (w1.alloc (.cells #[.int .i64 (Agg.unit 6).x, .int .i64 (Agg.unit 6).y, .int .i64 (Agg.unit 6).z] 40)) := (Below.refl _ _).alloc (by omega) _
    have hrb : Box w1 w.heap.size 40 0 0 0 := (Box.new w 40 0 0 0).below hb1 (by simp)
    have hBB : Below w.heap.size w (w1.alloc (.cells #[.int .i64 (Agg.unit 6).x, .int .i64 (Agg.unit 6).y, .int .i64 (Agg.unit 6).z] 40)) := hB1.alloc (by omega) _
    have HBX := Lib.hid hbx; clear hbx
    have HRB := Lib.hid (hrb.below hb0 (by omega)); clear hrb hb0
    have HBB := Lib.hid hBB; clear hBB
    clear hb1
    obtain ⟨c, hc⟩ : ∃ c, c = w1.heap.size := ⟨_, rfl⟩
    rw [← hc] at HBX ⊢
    have HC := Lib.hid hc; clear hc
    go_loopw [28] (fun i wr => ∃ kk : Nat, kk ≤ n ∧ i = .int .i64 kk ∧ Hid (Box wr c 40 (Agg.fold 6 (l.take kk)).x (Agg.fold 6 (l.take kk)).y (Agg.fold 6 (l.take kk)).z) ∧ Hid (Box wr w.heap.size 40 0 0 0) ∧ Hid (Below w.heap.size w wr)) (fun i _ => n - (intOf i).toNat)
    case atStart => exact ⟨0, Nat.zero_le _, rfl, HBX, HRB, HBB⟩
    case round =>
      obtain ⟨kk, hk, rfl, HB, HR, HW⟩ := hrel
      have hwc : w.heap.size < c := by have := HC.out; omega
      clear HBX HRB HBB
      by_cases hlt : kk < n
      · rcases H4.out with h4 | ⟨b, off, rfl, hb, hcs⟩
        · omega
        · have hck := (HW.out.cell (p := ⟨b, off + kk, none⟩) hb).trans (hcs kk hlt)
          clear hcs
          obtain ⟨x, hx⟩ : ∃ x, x = l[kk]?.getD 0 := ⟨_, rfl⟩
          rw [← hx] at hck
          have hii := HIT.out kk (by have := HL.out; omega)
          have hss := HST.out kk (by have := HL.out; omega)
          have hoo := HOK.out kk (by have := HL.out; omega)
          rw [← hx] at hii hss
          have HX := Lib.hid hx; clear hx
          obtain ⟨V, hV⟩ : ∃ V, V = Agg.fold 6 (l.take kk) := ⟨_, rfl⟩
          rw [← hV] at HB hss hoo
          have HLI := Lib.hid (Agg.ok_lift (k := 6) (by decide) hii)
          simp only [Agg.isItem, decide_eq_true_eq] at hii
          obtain ⟨hi0, hi1⟩ := hii
          have HSS := Lib.hid hss; clear hss
          have HOO := Lib.hid hoo; clear hoo
          have HV := Lib.hid hV; clear hV
          have hcl := HB.out.lt
          obtain ⟨q0, q1, q2⟩ := HB.out.cells
          have z0 := HB.out.free 0
          have z1 := HB.out.free 1
          have z2 := HB.out.free 2
          have hna := ahead_6
          go_wp2_with fail
          go_region_with (first | (go_at_call 161; refine (lift_6 _ _ (by omega) (by omega)).mono ?_; rintro e w2 ⟨rfl, hb2⟩; obtain ⟨hq, hr, hw⟩ := carryD HB.out HR.out HW.out hwc hb2; obtain ⟨q0, q1, q2⟩ := hq.cells; have z0 := hq.free 0; have z1 := hq.free 1; have z2 := hq.free 2; have HB2 := Lib.hid hq; have HR2 := Lib.hid hr; have HW2 := Lib.hid hw; clear hq hr hw hb2) | (go_at_call 159; refine (combine_6 V.x V.y V.z (Agg.lift 6 x).x (Agg.lift 6 x).y (Agg.lift 6 x).z _ HOO.out HLI.out).mono ?_; rintro e w3 ⟨rfl, hb2⟩; obtain ⟨hq, hr, hw⟩ := carry HB2.out HR2.out HW2.out hwc hb2; obtain ⟨q0, q1, q2⟩ := hq.cells; have z0 := hq.free 0; have z1 := hq.free 1; have z2 := hq.free 2; have HB3 := Lib.hid hq; have HR3 := Lib.hid hr; have HW3 := Lib.hid hw; clear hq hr hw hb2))
          all_goals
            go_wp2
            go_roundw
            case rel => exact ⟨kk + 1, by omega, by go_num, by show Box _ _ _ _ _ _; rw [HSS.out]; exact HB3.out.set _ _ _, ((HR3.out.set_other (Nat.ne_of_lt hwc) _ _).set_other (Nat.ne_of_lt hwc) _ _).set_other (Nat.ne_of_lt hwc) _ _, ((HW3.out.setCell (Nat.le_of_lt hwc) _).setCell (Nat.le_of_lt hwc) _).setCell (Nat.le_of_lt hwc) _⟩
            case measure => simp [intOf]; omega
      · obtain ⟨V, hV⟩ : ∃ V, V = Agg.fold 6 (l.take kk) := ⟨_, rfl⟩
        rw [← hV] at HB
        have hV2 : V = Agg.fold 6 (l.take l.length) := by have := HL.out; rw [hV, show kk = l.length by omega]
        have HV := Lib.hid hV2; clear hV hV2
        obtain ⟨q0, q1, q2⟩ := HB.out.cells
        obtain ⟨r0, r1, r2⟩ := HR.out.cells
        have z0 := HR.out.free 0
        have z1 := HR.out.free 1
        have z2 := HR.out.free 2
        have hlt' : n ≤ kk := by omega
        clear hlt
        go_wp2
        refine bodyPost_ret (by simp [results, Tryz.results63, go_sem, *]; try rfl) rfl ?_
        exact ⟨by rw [← HV.out], ((HW.out.setCell (Nat.le_refl _) _).setCell (Nat.le_refl _) _).setCell (Nat.le_refl _) _⟩
end Go.Proofs.YtolgclajlklmaaaGreat
