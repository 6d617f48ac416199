/-
  What each change of two stacks costs, in the model.
-/
import Derived.Test.YtmlkdbmhekiniaaGreatSd
import Derived.Deep.RegionHeld3
import Derived.Deep.DeepMust
namespace Go.Proofs.YtmlkdbmhekiniaaGreat
set_option linter.unusedSimpArgs false
set_option linter.unusedVariables false
open Go.RowKit
/-- What the first j changes cost. -/
def Agg.stDiff (k : Int) (l : List (Bool × Int)) (j : Nat) : List Int := (List.range j).map fun i => (Agg.stAt k l (i + 1)).cost - (Agg.stAt k l i).cost
theorem Agg.stDiff_len (k : Int) (l : List (Bool × Int)) (j : Nat) : (Agg.stDiff k l j).length = j := by simp [Agg.stDiff]
theorem Agg.stDiff_step (k : Int) (l : List (Bool × Int)) (j : Nat) : Agg.stDiff k l (j + 1) = Agg.stDiff k l j ++ [(Agg.stAt k l (j + 1)).cost - (Agg.stAt k l j).cost] := by simp [Agg.stDiff, List.range_succ]
def Agg.costsN (k : Int) (l : List (Bool × Int)) : List Int := if Agg.runOk k l then Agg.stDiff k l l.length else []
theorem Agg.st_cost {k : Int} {l : List (Bool × Int)} (hl : l.length ≤ 200) {j : Nat} (hj : j ≤ l.length) : 0 ≤ (Agg.stAt k l j).cost ∧ (Agg.stAt k l j).cost ≤ 1000000 := by
  obtain ⟨-, -, h3, h4⟩ := Agg.cost_at k l j
  have := Agg.pushes_le l j
  omega
/-- What StacksCosts answers, in memory of its own. -/
def CostsOut (b : Bool) (q : List Int) (w : World) (e : Ending) (w' : World) : Prop :=
  ∃ u n, e = .returned (.tuple #[u, .bool b]) ∧ OwnR w' w.heap.size w'.heap.size u n q ∧ Below w.heap.size w w'
/-- The variables and rows under way: the stacks (at sv), the costs. -/
structure CostSt (w : World) (sv : Nat) (fv iv : Value) (bx by' bz fl co : Int) (ov : Value) (j : Nat) (ys : List Value) (wr : World) : Prop where
  s : Box7 wr sv 59 fv iv (.int .i64 bx) (.int .i64 by') (.int .i64 bz) (.int .i64 fl) (.int .i64 co)
  o : wr.ownsRow w.heap.size 3 1 ov j ys
  b : Below w.heap.size w wr
section
variable {w wr w2 : World} {sv : Nat} {fv iv : Value} {bx by' bz fl co : Int} {ov : Value} {j : Nat} {ys : List Value}
theorem CostSt.call (h : CostSt w sv fv iv bx by' bz fl co ov j ys wr) (hb : Below wr.heap.size wr w2) : CostSt w sv fv iv bx by' bz fl co ov j ys w2 :=
  ⟨h.s.call hb, h.o.kept (Below.grownNone hb none) (by cases hv : ov.ownBlock <;> simp), h.b.trans (hb.mono h.b.size)⟩
theorem CostSt.callD (h : CostSt w sv fv iv bx by' bz fl co ov j ys wr) (hb : Below wr.drew.heap.size wr.drew w2) : CostSt w sv fv iv bx by' bz fl co ov j ys w2 :=
  CostSt.call (wr := wr.drew) ⟨h.s, h.o, h.b.drew⟩ hb
theorem CostSt.far {d : Nat} (h : CostSt w sv fv iv bx by' bz fl co ov j ys wr) (h1 : sv ≠ d) (h2 : w.heap.size ≤ d) (h3 : ∀ g, ov.ownBlock = some g → g ≠ d) (u0 u1 u2 u3 u4 u5 u6 : Value) :
    CostSt w sv fv iv bx by' bz fl co ov j ys (((((((wr.setCell ⟨d, 0, none⟩ u0).setCell ⟨d, 1, none⟩ u1).setCell ⟨d, 2, none⟩ u2).setCell ⟨d, 3, none⟩ u3).setCell ⟨d, 4, none⟩ u4).setCell ⟨d, 5, none⟩ u5).setCell ⟨d, 6, none⟩ u6) :=
  ⟨h.s.others h1 _ _ _ _ _ _ _, own_sets7 h.o h3 _ _ _ _ _ _ _, sets7 h.b h2 _ _ _ _ _ _ _⟩
theorem CostSt.put (h : CostSt w sv fv iv bx by' bz fl co ov j ys wr) (h2 : w.heap.size ≤ sv) (h3 : ∀ g, ov.ownBlock = some g → g ≠ sv) (u0 u1 : Value) (u2 u3 u4 u5 u6 : Int) :
    CostSt w sv u0 u1 u2 u3 u4 u5 u6 ov j ys (((((((wr.setCell ⟨sv, 0, none⟩ u0).setCell ⟨sv, 1, none⟩ u1).setCell ⟨sv, 2, none⟩ (.int .i64 u2)).setCell ⟨sv, 3, none⟩ (.int .i64 u3)).setCell ⟨sv, 4, none⟩ (.int .i64 u4)).setCell ⟨sv, 5, none⟩ (.int .i64 u5)).setCell ⟨sv, 6, none⟩ (.int .i64 u6)) :=
  ⟨h.s.sets _ _ _ _ _ _ _, own_sets7 h.o h3 _ _ _ _ _ _ _, sets7 h.b h2 _ _ _ _ _ _ _⟩
theorem CostSt.appended {v' : Value} {j' : Nat} {ys' : List Value} {o : Obj} (h : CostSt w sv fv iv bx by' bz fl co ov j ys wr) (h3 : ∀ g, ov.ownBlock = some g → g ≠ sv)
    (hown : w2.ownsRow w.heap.size 3 1 v' j' ys') (hg : (wr.alloc o).grownBy w2 ov.ownBlock) : CostSt w sv fv iv bx by' bz fl co v' j' ys' w2 :=
  ⟨(h.s.alloc o).grown hg (fun e => h3 _ e rfl), hown, (h.b.alloc h.b.size o).grown hg (by have := h.b.size; simp; omega) (fun g e => (h.o.lt _ e).1)⟩
end
set_option maxRecDepth 8000 in
set_option maxHeartbeats 2000000 in
theorem s_stacksCosts_any (k : Int) (a : Option Addr) (n cap : Nat) (l : List (Bool × Int)) (w : World) (h : Ops w a n cap l) :
    Calls Tryz.prog 22 #[.int .i64 k, .slice a n cap] w (CostsOut (Agg.runOk k l) (Agg.costsN k l) w) := by
  obtain ⟨i0, hi0, hz0, hz1, hz2⟩ := info_parts infoInt
  have hll : l.length = n := h.1
  have hnc : n ≤ cap := h.2.1
  have hcm : cap ≤ 9223372036854775807 := by have := h.2.2.1; unfold maxLen at this; omega
  obtain ⟨W, hW⟩ : ∃ W, W = w.alloc (.cells #[] 3) := ⟨_, rfl⟩
  have HB := Lib.hid (show Below w.heap.size w W from by rw [hW]; exact (Below.refl _ _).alloc (Nat.le_refl _) _)
  have HO := Lib.hid (show W.ownsRow w.heap.size 3 1 (.slice (some ⟨w.heap.size, 0, none⟩) 0 0) 0 [] from by
    rw [hW]; simpa using World.ownsRow_made (base := w.heap.size) (e := 3) (size := 1) w #[] 0 (by simp) (by simp [maxLen]) (by simp))
  have HOPS := Lib.hid (h.below HB.out)
  have H0 := Lib.hid h
  have HLL := Lib.hid hll
  have hS := fun w => s_stacksStart_any k w
  obtain ⟨⟨fx, fy, fz⟩, hfi⟩ : ∃ V, V = Agg.first k := ⟨_, rfl⟩
  rw [← hfi] at hS
  obtain ⟨kb, hkb⟩ : ∃ kb, kb = Agg.isKind k := ⟨_, rfl⟩
  rw [← hkb] at hS
  have HS := Lib.hid hS
  have HFI := Lib.hid hfi
  have HKB := Lib.hid hkb
  have hL := fun w h => s_l2Ops_any a n cap l w h
  obtain ⟨lb, hlb⟩ : ∃ lb, lb = Agg.opsOk l := ⟨_, rfl⟩
  rw [← hlb] at hL
  have HL := Lib.hid hL
  have HLB := Lib.hid hlb
  obtain ⟨RB, hRB⟩ : ∃ RB, RB = Agg.runOk k l := ⟨_, rfl⟩
  obtain ⟨RN, hRN⟩ : ∃ RN, RN = Agg.costsN k l := ⟨_, rfl⟩
  rw [← hRB, ← hRN]
  have HRB := Lib.hid hRB
  have HRN := Lib.hid hRN
  clear h hS hfi hkb hL hlb hRB hRN hll
  go_enter Tryz.func22, Tryz.ntmps22
  go_wp2_with fail
  rw [← hW]
  clear hW
  refine (HS.out _).mono ?_
  rintro e w1 ⟨rfl, hb1⟩
  have HB1 := Lib.hid (HB.out.trans (hb1.mono HB.out.size))
  have HO1 := Lib.hid (HO.out.kept (Below.grownNone hb1 none) (by simp [Value.ownBlock]))
  have HOPS1 := Lib.hid (HOPS.out.below hb1)
  have hsz1 : w.heap.size < w1.heap.size := by have h9 : w.heap.size < W.heap.size := (HO.out.lt w.heap.size rfl).2; have := hb1.size; omega
  clear hb1 HB HO HOPS
  obtain ⟨W2, hW2⟩ : ∃ W2, W2 = w1.alloc (.cells #[.slice none 0 0, .slice none 0 0, .int .i64 fx, .int .i64 fy, .int .i64 fz, .int .i64 0, .int .i64 0] 59) := ⟨_, rfl⟩
  have hbn := (Below.refl w1.heap.size w1).alloc (Nat.le_refl _) (.cells #[.slice none 0 0, .slice none 0 0, .int .i64 fx, .int .i64 fy, .int .i64 fz, .int .i64 0, .int .i64 0] 59)
  rw [← hW2] at hbn
  have HB2 := Lib.hid (HB1.out.trans (hbn.mono HB1.out.size))
  have HO2 := Lib.hid (HO1.out.kept (Below.grownNone hbn none) (by simp [Value.ownBlock]))
  have HOPS2 := Lib.hid (HOPS1.out.below hbn)
  have HX2 := Lib.hid (show Box7 W2 w1.heap.size 59 (.slice none 0 0) (.slice none 0 0) (.int .i64 fx) (.int .i64 fy) (.int .i64 fz) (.int .i64 0) (.int .i64 0) from by rw [hW2]; exact Box7.new w1 _ _ _ _ _ _ _ _)
  have hsz2 : W2.heap.size = w1.heap.size + 1 := by rw [hW2]; simp
  have HSZ2 := Lib.hid hsz2
  clear hbn HB1 HO1 HOPS1 hsz2
  go_upto_region 3 with (fail)
  rw [← hW2]
  clear hW2
  obtain ⟨sv, hsv⟩ : ∃ sv, sv = w1.heap.size := ⟨_, rfl⟩
  rw [← hsv] at HX2 ⊢
  rw [← hsv] at HSZ2 hsz1
  clear hsv
  cases kb
  · have hb0 : RB = false := by rw [HRB.out, Agg.runOk, ← HKB.out]; rfl
    obtain rfl : RN = [] := by rw [HRN.out, Agg.costsN, ← HRB.out, hb0]; rfl
    subst hb0
    go_wp2_with fail
    go_returns
    exact ⟨_, 0, rfl, OwnR.of (lo := w.heap.size) HO2.out (Nat.le_refl _) HB2.out.size, HB2.out⟩
  · cases lb
    · have hb0 : RB = false := by rw [HRB.out, Agg.runOk, ← HKB.out, ← HLB.out]; rfl
      obtain rfl : RN = [] := by rw [HRN.out, Agg.costsN, ← HRB.out, hb0]; rfl
      subst hb0
      go_wp2_with fail
      refine (HL.out _ HOPS2.out).mono ?_
      rintro e w3 ⟨rfl, hb3⟩
      have HB3 := Lib.hid (HB2.out.trans (hb3.mono HB2.out.size))
      have HO3 := Lib.hid (HO2.out.kept (Below.grownNone hb3 none) (by simp [Value.ownBlock]))
      clear hb3
      go_wp2_with fail
      go_returns
      exact ⟨_, 0, rfl, OwnR.of (lo := w.heap.size) HO3.out (Nat.le_refl _) HB3.out.size, HB3.out⟩
    · have hb0 : RB = true := by rw [HRB.out, Agg.runOk, ← HKB.out, ← HLB.out]; rfl
      obtain rfl : RN = Agg.stDiff k l l.length := by rw [HRN.out, Agg.costsN, ← HRB.out, hb0]; rfl
      subst hb0
      have hk : Agg.isKind k = true := HKB.out.symm
      have hops := HLB.out.symm
      simp only [Agg.opsOk, Bool.and_eq_true, decide_eq_true_eq] at hops
      obtain ⟨⟨hn200, hall⟩, hfit⟩ := hops
      have hn2 : n ≤ 200 := by have := HLL.out; omega
      have HST := Lib.hid (fun j (hj : j < l.length) => Agg.run_step hk hn200 hall hfit hj)
      have HK := Lib.hid hk
      have HFST := Lib.hid (show (⟨[], [], ⟨fx, fy, fz⟩, 0, 0⟩ : Agg.S) = Agg.stAt k l 0 from by rw [HFI.out, Agg.first, hk]; rfl)
      have HS60 := Lib.hid (show ∀ j, j ≤ l.length → (Agg.stAt k l j).front.length ≤ 60 ∧ (Agg.stAt k l j).items.length ≤ 60 from by
        intro j hj
        have h0 := (Agg.stands_at hk j (Agg.fitTo_down hj hfit)).size
        have h1 := Agg.win_len j (Agg.fitTo_down hj hfit)
        simp only [Agg.S.size] at h0
        omega)
      have HCO := Lib.hid (fun j (hj : j ≤ l.length) => Agg.st_cost (k := k) (l := l) hn200 hj)
      clear hk hn200 hall hfit
      go_wp2_with fail
      refine (HL.out _ HOPS2.out).mono ?_
      rintro e w3 ⟨rfl, hb3⟩
      have HB3 := Lib.hid (HB2.out.trans (hb3.mono HB2.out.size))
      have HO3 := Lib.hid (HO2.out.kept (Below.grownNone hb3 none) (by simp [Value.ownBlock]))
      have HX3 := Lib.hid (HX2.out.call hb3)
      have HP3 := Lib.hid (HOPS2.out.below hb3)
      clear hb3 HB2 HO2 HX2 HOPS2
      go_wp2_with fail
      go_loopw [6, 9] (fun ov i wr => ∃ (j : Nat) (lo hi : Nat) (fv iv : Value), j ≤ n ∧ i = .int .i64 j ∧ Hid (wr.ownsRow w.heap.size 3 1 ov j ((Agg.stDiff k l j).map (Value.int .i64))) ∧ Hid (Box7 wr sv 59 fv iv (.int .i64 (Agg.stAt k l j).back.x) (.int .i64 (Agg.stAt k l j).back.y) (.int .i64 (Agg.stAt k l j).back.z) (.int .i64 (Agg.stAt k l j).flips) (.int .i64 (Agg.stAt k l j).cost)) ∧ Hid (OwnV wr lo hi fv (Agg.stAt k l j).front.length (Agg.stAt k l j).front ∧ OwnR wr lo hi iv (Agg.stAt k l j).items.length (Agg.stAt k l j).items) ∧ Hid (∀ g, ov.ownBlock = some g → g < lo ∨ hi ≤ g) ∧ Hid (w.heap.size < lo) ∧ Hid (Below w.heap.size w wr)) (fun _ i _ => n - (intOf i).toNat)
      case atStart =>
        refine ⟨0, w3.heap.size, w3.heap.size, .slice none 0 0, .slice none 0 0, Nat.zero_le _, rfl, HO3, ?_, ?_, ?_, ?_, HB3⟩
        · rw [← HFST.out]; exact HX3
        · rw [← HFST.out]
          exact Lib.hid ⟨⟨World.ownsRow_nil _ _ _ _, Nat.le_refl _, Nat.le_refl _, fun g hg => by simp [Value.ownBlock] at hg⟩, ⟨World.ownsRow_nil _ _ _ _, Nat.le_refl _, Nat.le_refl _, fun g hg => by simp [Value.ownBlock] at hg⟩⟩
        · exact Lib.hid (fun g hg => .inl (HO3.out.lt g hg).2)
        · exact Lib.hid (by have := HX3.out.lt; omega)
      case round =>
        obtain ⟨j, lo, hi, fv, iv, hj, rfl, ho, hx, hrows, hap, hlo, hw⟩ := hrel
        clear HO3 HX3 HB3 HP3
        have hwr := hw.out.size
        have hxl := hx.out.lt
        obtain ⟨fa, fc, rfl, hF⟩ := hrows.out.1.vals
        obtain ⟨ia, ic, rfl, hI, -⟩ := hrows.out.2.nums
        have hlen60 := HS60.out j (by have := HLL.out; omega)
        by_cases hlt : j < n
        · rcases H0.out.2.2.2 with h4 | ⟨b, off, rfl, hbl, hcs⟩
          · omega
          · have hc0 := (hcs j hlt).1
            have hd0 := (hcs j hlt).2
            clear hcs
            obtain ⟨hstep, hsok1, -, hvok1⟩ := HST.out j (by have := HLL.out; omega)
            obtain ⟨hsok, hcan⟩ := can_step hstep
            have hs1 : Agg.stAt k l (j + 1) = Agg.stepS k (Agg.stAt k l j) (Agg.opAt l j) := rfl
            have hnum := Agg.stDiff_step k l j
            obtain ⟨hca0, hca1⟩ := HCO.out j (by have := HLL.out; omega)
            obtain ⟨hcb0, hcb1⟩ := HCO.out (j + 1) (by have := HLL.out; omega)
            have hlen1 := HS60.out (j + 1) (by have := HLL.out; omega)
            have hopat : Agg.opAt l j = l[j]?.getD (false, 0) := rfl
            obtain ⟨⟨p, x⟩, hpx⟩ : ∃ o, o = Agg.opAt l j := ⟨_, rfl⟩
            rw [← hopat, ← hpx] at hc0 hd0
            rw [← hpx] at hcan hs1
            obtain ⟨S1, hS1⟩ : ∃ S1, S1 = Agg.stAt k l (j + 1) := ⟨_, rfl⟩
            rw [← hS1] at hs1 hsok1 hvok1 hnum hlen1 hcb0 hcb1
            obtain ⟨S, hS⟩ : ∃ S, S = Agg.stAt k l j := ⟨_, rfl⟩
            rw [← hS] at hs1 hsok hcan hlen60 hF hI hx hrows hnum hca0 hca1
            obtain ⟨F, I, ⟨bx, by', bz⟩, fl, co⟩ := S
            simp only at hF hI hx hrows hlen60 hnum hca0 hca1
            have hSTP := fun w hF hI => s_l3Step_any k fa F.length fc ia I.length ic bx by' bz fl co F I p x w hF hI hsok
            rw [hcan, ← hs1] at hSTP
            have HSTP := Lib.hid (fun w hF hI => (hSTP w hF hI).mono fun e w' (h : ChangedStk true _ _ _ _ _) => h.1 rfl)
            have HS1 := Lib.hid hS1
            have HNUM := Lib.hid hnum
            clear hvok1
            have HSOK1 := Lib.hid hsok1
            have HF := Lib.hid hF
            have HI := Lib.hid hI
            have HOX := Lib.hid (own_box_ne ho.out hx.out (by decide))
            obtain ⟨q0, q1, q2, q3, q4, q5, q6⟩ := hx.out.cells
            have hk0 : (0 : Int) ≤ (j : Int) := Int.natCast_nonneg _
            have hkn : (j : Int) < (n : Int) := by omega
            clear hSTP hS1 hs1 hnum hsok hcan hstep hopat hpx hF hI hS hsok1
            have HSV := Lib.hid (show w.heap.size < sv from hsz1)
            have hbz := (Below.refl wr.heap.size wr).alloc (Nat.le_refl _) (.cells #[.slice none 0 0, .slice none 0 0, .int .i64 0, .int .i64 0, .int .i64 0, .int .i64 0, .int .i64 0] 59)
            have HSTB := Lib.hid (show CostSt w sv (.slice fa F.length fc) (.slice ia I.length ic) bx by' bz fl co u6 j ((Agg.stDiff k l j).map (Value.int .i64)) wr from ⟨hx.out, ho.out, hw.out⟩)
            have HSTA := Lib.hid (HSTB.out.call hbz)
            have HFA := Lib.hid (HF.out.below hbz)
            have HIA := Lib.hid (HI.out.below hbz)
            have HFB := HF
            have HIB := HI
            have HNX := Lib.hid (show Box7 (wr.alloc (.cells #[.slice none 0 0, .slice none 0 0, .int .i64 0, .int .i64 0, .int .i64 0, .int .i64 0, .int .i64 0] 59)) wr.heap.size 59 (.slice none 0 0) (.slice none 0 0) (.int .i64 0) (.int .i64 0) (.int .i64 0) (.int .i64 0) (.int .i64 0) from Box7.new wr _ _ _ _ _ _ _ _)
            have hcka := (HSTA.out.b.cell (p := ⟨b, off + j * 2, none⟩) hbl).trans hc0
            have hcla := (HSTA.out.b.cell (p := ⟨b, off + j * 2 + 1, none⟩) hbl).trans hd0
            have hck := (hw.out.cell (p := ⟨b, off + j * 2, none⟩) hbl).trans hc0
            have hcl := (hw.out.cell (p := ⟨b, off + j * 2 + 1, none⟩) hbl).trans hd0
            have HLT := Lib.hid (fun g hg => (ho.out.lt g hg).2)
            have HGE := Lib.hid (fun g hg => (ho.out.lt g hg).1)
            have hblr : b < wr.heap.size := by omega
            clear hx hrows hbz HF HI
            go_wp2_with fail
            go_region_held3 (fun w' => w'.cell? ⟨sv, 0, none⟩ = some (.slice fa F.length fc) ∧ w'.cell? ⟨sv, 1, none⟩ = some (.slice ia I.length ic) ∧ w'.cell? ⟨sv, 2, none⟩ = some (.int .i64 bx) ∧ w'.cell? ⟨sv, 3, none⟩ = some (.int .i64 by') ∧ w'.cell? ⟨sv, 4, none⟩ = some (.int .i64 bz) ∧ w'.cell? ⟨sv, 5, none⟩ = some (.int .i64 fl) ∧ w'.cell? ⟨sv, 6, none⟩ = some (.int .i64 co) ∧ w'.cell? ⟨b, off + j * 2, none⟩ = some (.bool p) ∧ w'.cell? ⟨b, off + j * 2 + 1, none⟩ = some (.int .i64 x)) (first | (refine ⟨?_, ?_, ?_, ?_, ?_, ?_, ?_, ?_, ?_⟩ <;> (rw [set7_far (by omega)]; assumption)) | (refine ⟨?_, ?_, ?_, ?_, ?_, ?_, ?_, ?_, ?_⟩ <;> (rw [keep_alloc (by assumption)]; assumption)) | (refine ⟨?_, ?_, ?_, ?_, ?_, ?_, ?_, ?_, ?_⟩ <;> assumption) | go_keep)
              (first | (go_at_call 72; refine (HSTP.out (World.drew (wr.alloc (.cells #[.slice none 0 0, .slice none 0 0, .int .i64 0, .int .i64 0, .int .i64 0, .int .i64 0, .int .i64 0] 59))) (show Vals (World.drew (wr.alloc (.cells #[.slice none 0 0, .slice none 0 0, .int .i64 0, .int .i64 0, .int .i64 0, .int .i64 0, .int .i64 0] 59))) _ _ _ _ from HFA.out) (show Nums .i64 (World.drew (wr.alloc (.cells #[.slice none 0 0, .slice none 0 0, .int .i64 0, .int .i64 0, .int .i64 0, .int .i64 0, .int .i64 0] 59))) _ _ _ _ from HIA.out)).mono ?_; rintro e w4 ⟨v4, rfl, hown4, hb4⟩; have HST4 := Lib.hid (HSTA.out.callD hb4); have HSZ4 := Lib.hid hb4.size; have hsv4 := HST4.out.s.lt; have hbl4 : b < w4.heap.size := Nat.lt_of_lt_of_le hbl HST4.out.b.size; have hck4 := (HST4.out.b.cell (p := ⟨b, off + j * 2, none⟩) hbl).trans hc0; have hcl4 := (HST4.out.b.cell (p := ⟨b, off + j * 2 + 1, none⟩) hbl).trans hd0; obtain ⟨o0, o1, o2, o3, o4, o5, o6⟩ := HST4.out.s.cells; have HOWN := Lib.hid hown4; obtain ⟨ga, gc, ja, jc, rfl, -, -⟩ := hown4.read; have HNX4 := Lib.hid (HNX.out.callD hb4); have n0 := (HNX.out.callD hb4).free; obtain ⟨z0, z1, z2, z3, z4, z5, z6⟩ := (HNX.out.callD hb4).cells; have hne4 : sv ≠ wr.heap.size := (by omega); have hne5 : b ≠ wr.heap.size := (by omega); clear hb4 hown4) | (go_at_call 72; refine (HSTP.out (World.drew wr) (show Vals (World.drew wr) _ _ _ _ from HFB.out) (show Nums .i64 (World.drew wr) _ _ _ _ from HIB.out)).mono ?_; rintro e w4 ⟨v4, rfl, hown4, hb4⟩; have HST4 := Lib.hid (HSTB.out.callD hb4); have HSZ4 := Lib.hid hb4.size; have hsv4 := HST4.out.s.lt; have hbl4 : b < w4.heap.size := Nat.lt_of_lt_of_le hbl HST4.out.b.size; have hck4 := (HST4.out.b.cell (p := ⟨b, off + j * 2, none⟩) hbl).trans hc0; have hcl4 := (HST4.out.b.cell (p := ⟨b, off + j * 2 + 1, none⟩) hbl).trans hd0; obtain ⟨o0, o1, o2, o3, o4, o5, o6⟩ := HST4.out.s.cells; have HOWN := Lib.hid hown4; obtain ⟨ga, gc, ja, jc, rfl, -, -⟩ := hown4.read; have n0 := (trivial : True); clear hb4 hown4))
            · obtain ⟨W5, hW5⟩ : ∃ W5, W5 = w4.alloc (.cells #[.slice ga S1.front.length gc, .slice ja S1.items.length jc, .int .i64 S1.back.x, .int .i64 S1.back.y, .int .i64 S1.back.z, .int .i64 S1.flips, .int .i64 S1.cost] 59) := ⟨_, rfl⟩
              have hbn : Below w4.heap.size w4 W5 := by rw [hW5]; exact (Below.refl _ _).alloc (Nat.le_refl _) _
              have HST5 := Lib.hid (HST4.out.call hbn)
              have HOWN5 := Lib.hid (HOWN.out.below hbn)
              have HNX5 := Lib.hid (show Box7 W5 w4.heap.size 59 (.slice ga S1.front.length gc) (.slice ja S1.items.length jc) (.int .i64 S1.back.x) (.int .i64 S1.back.y) (.int .i64 S1.back.z) (.int .i64 S1.flips) (.int .i64 S1.cost) from by rw [hW5]; exact Box7.new w4 _ _ _ _ _ _ _ _)
              have hlo5 : wr.heap.size ≤ wr.drew.heap.size := Nat.le_refl _
              have hhi5 : w4.heap.size ≤ W5.heap.size := hbn.size
              rw [← hW5]
              obtain ⟨lo', hlo'⟩ : ∃ lo', lo' = wr.drew.heap.size := ⟨_, rfl⟩
              rw [← hlo'] at HOWN5 hlo5
              obtain ⟨nb, hnb⟩ : ∃ nb, nb = w4.heap.size := ⟨_, rfl⟩
              have hnb5 : sv ≠ nb := by omega
              have hnbw : wr.heap.size ≤ nb := by have := HSZ4.out; simp only [World.drew] at this; omega
              rw [← hnb] at HNX5 ⊢
              clear hW5 hbn HST4 HOWN hck4 hcl4 o0 o1 o2 o3 o4 o5 o6 n0 hck hcl hcka hcla q0 q1 q2 q3 q4 q5 q6 hlo' hnb
              obtain ⟨n0, n1, n2, n3, n4, n5, n6⟩ := HNX5.out.cells
              obtain ⟨o0, o1, o2, o3, o4, o5, o6⟩ := HST5.out.s.cells
              obtain ⟨x1, hx1⟩ : ∃ x1, x1 = S1.cost - co := ⟨_, rfl⟩
              have hz5 : w.heap.size ≤ W5.heap.size := HST5.out.b.size
              have hnlt := HNX5.out.lt
              go_upto_region 10 with (
                at_builtin
                go_must (refine wpList_append_where rfl (.tmp 42) (.tmp 48) 23 rfl w.heap.size 3 i0 (.int .i64 0) 1 8 Tryz.underlying23 hi0 hz0 hz1 hz2 rfl (by decide) _ _ _ rfl (HST5.out.o.alloc _) ⟨W5.heap.size, 0, none⟩ 1 1 [.int .i64 (S1.cost - co)] rfl rfl (cell_one_new _ _ _) (ints_oneCell .i64 [S1.cost - co]) (by unfold maxLen; omega) (by omega) (by simp; omega) ?_)
                go_loud (
                intro v9 w9 hown9 hgrow9 hwhere9
                have HST9 := Lib.hid (HST5.out.appended HOX.out hown9 hgrow9)
                have HNX9 := Lib.hid ((HNX5.out.alloc (.cells #[.int .i64 (S1.cost - co)] 3)).grown hgrow9 (fun e => by have := HLT.out _ e; omega))
                have HAP9 := Lib.hid (show ∀ g, v9.ownBlock = some g → g < lo' ∨ w4.heap.size ≤ g from fun g hg => hwhere9.elim (fun e => .inl (by have := HLT.out g (e ▸ hg); omega)) (fun ⟨g', e, hle⟩ => .inr (by rw [e] at hg; simp only [Option.some.injEq] at hg; subst hg; simp at hle; omega)))
                have HOX9 := Lib.hid (show ∀ g, v9.ownBlock = some g → g ≠ sv from fun g hg => hwhere9.elim (fun e => HOX.out g (e ▸ hg)) (fun ⟨g', e, hle⟩ => by rw [e] at hg; simp only [Option.some.injEq] at hg; subst hg; simp at hle; have := HST5.out.s.lt; omega))
                have HOWN9 := Lib.hid ((HOWN5.out.below ((Below.refl W5.heap.size W5).alloc (Nat.le_refl _) (.cells #[.int .i64 (S1.cost - co)] 3))).kept hgrow9 (fun g hg => .inl (by have := HLT.out g hg; omega)))
                clear hown9 hgrow9 hwhere9))
              clear n0 n1 n2 n3 n4 n5 n6 o0 o1 o2 o3 o4 o5 o6
              obtain ⟨n0, n1, n2, n3, n4, n5, n6⟩ := HNX9.out.cells
              obtain ⟨o0, o1, o2, o3, o4, o5, o6⟩ := HST9.out.s.cells
              have o7 := HST9.out.s.free
              have HST6 := Lib.hid (HST9.out.put (show w.heap.size ≤ sv by omega) HOX9.out (.slice ga S1.front.length gc) (.slice ja S1.items.length jc) S1.back.x S1.back.y S1.back.z S1.flips S1.cost)
              have HOWN6 := Lib.hid (HOWN9.out.set7 (c := sv) (.inl (by omega)) (.slice ga S1.front.length gc) (.slice ja S1.items.length jc) (.int .i64 S1.back.x) (.int .i64 S1.back.y) (.int .i64 S1.back.z) (.int .i64 S1.flips) (.int .i64 S1.cost))
              go_wp2_with fail
              have hS1 := HS1.out
              refine ⟨⟨j + 1, lo', w4.heap.size, .slice ga S1.front.length gc, .slice ja S1.items.length jc, by omega, by go_num, ?_, ?_, ?_, HAP9, Lib.hid (by omega), Lib.hid HST6.out.b⟩, by simp [intOf] <;> omega⟩
              · rw [HNUM.out, List.map_append]
                exact Lib.hid HST6.out.o
              · rw [← hS1]
                exact Lib.hid HST6.out.s
              · rw [← hS1]
                exact Lib.hid HOWN6.out.rows
            · obtain ⟨W5, hW5⟩ : ∃ W5, W5 = (((((((w4.setCell ⟨wr.heap.size, 0, none⟩ (.slice ga S1.front.length gc)).setCell ⟨wr.heap.size, 1, none⟩ (.slice ja S1.items.length jc)).setCell ⟨wr.heap.size, 2, none⟩ (.int .i64 S1.back.x)).setCell ⟨wr.heap.size, 3, none⟩ (.int .i64 S1.back.y)).setCell ⟨wr.heap.size, 4, none⟩ (.int .i64 S1.back.z)).setCell ⟨wr.heap.size, 5, none⟩ (.int .i64 S1.flips)).setCell ⟨wr.heap.size, 6, none⟩ (.int .i64 S1.cost)) := ⟨_, rfl⟩
              have HST5 := Lib.hid (HST4.out.far (d := wr.heap.size) (by omega) (by omega) (fun g hg => by have := HLT.out g hg; omega) (.slice ga S1.front.length gc) (.slice ja S1.items.length jc) (.int .i64 S1.back.x) (.int .i64 S1.back.y) (.int .i64 S1.back.z) (.int .i64 S1.flips) (.int .i64 S1.cost))
              have HOWN5 := Lib.hid (HOWN.out.set7 (c := wr.heap.size) (.inl (by simp [World.drew])) (.slice ga S1.front.length gc) (.slice ja S1.items.length jc) (.int .i64 S1.back.x) (.int .i64 S1.back.y) (.int .i64 S1.back.z) (.int .i64 S1.flips) (.int .i64 S1.cost))
              have HNX5 := Lib.hid (HNX4.out.sets (.slice ga S1.front.length gc) (.slice ja S1.items.length jc) (.int .i64 S1.back.x) (.int .i64 S1.back.y) (.int .i64 S1.back.z) (.int .i64 S1.flips) (.int .i64 S1.cost))
              rw [← hW5] at HST5 HOWN5 HNX5 ⊢
              have hlo5 : wr.heap.size ≤ (wr.alloc (.cells #[.slice none 0 0, .slice none 0 0, .int .i64 0, .int .i64 0, .int .i64 0, .int .i64 0, .int .i64 0] 59)).drew.heap.size := by simp [World.drew]
              have hhi5 : w4.heap.size ≤ W5.heap.size := by rw [hW5, size_sets7]; exact Nat.le_refl _
              obtain ⟨lo', hlo'⟩ : ∃ lo', lo' = (wr.alloc (.cells #[.slice none 0 0, .slice none 0 0, .int .i64 0, .int .i64 0, .int .i64 0, .int .i64 0, .int .i64 0] 59)).drew.heap.size := ⟨_, rfl⟩
              rw [← hlo'] at HOWN5 hlo5
              obtain ⟨nb, hnb⟩ : ∃ nb, nb = wr.heap.size := ⟨_, rfl⟩
              have hnb5 : sv ≠ nb := by omega
              have hnbw : wr.heap.size ≤ nb := by omega
              rw [← hnb] at HNX5
              clear hW5 HST4 HOWN hck4 hcl4 o0 o1 o2 o3 o4 o5 o6 n0 hck hcl hcka hcla q0 q1 q2 q3 q4 q5 q6 hlo' z0 z1 z2 z3 z4 z5 z6 HNX4
              rw [← hnb]
              clear hnb
              obtain ⟨n0, n1, n2, n3, n4, n5, n6⟩ := HNX5.out.cells
              obtain ⟨o0, o1, o2, o3, o4, o5, o6⟩ := HST5.out.s.cells
              obtain ⟨x1, hx1⟩ : ∃ x1, x1 = S1.cost - co := ⟨_, rfl⟩
              have hz5 : w.heap.size ≤ W5.heap.size := HST5.out.b.size
              have hnlt := HNX5.out.lt
              go_upto_region 10 with (
                at_builtin
                go_must (refine wpList_append_where rfl (.tmp 42) (.tmp 48) 23 rfl w.heap.size 3 i0 (.int .i64 0) 1 8 Tryz.underlying23 hi0 hz0 hz1 hz2 rfl (by decide) _ _ _ rfl (HST5.out.o.alloc _) ⟨W5.heap.size, 0, none⟩ 1 1 [.int .i64 (S1.cost - co)] rfl rfl (cell_one_new _ _ _) (ints_oneCell .i64 [S1.cost - co]) (by unfold maxLen; omega) (by omega) (by simp; omega) ?_)
                go_loud (
                intro v9 w9 hown9 hgrow9 hwhere9
                have HST9 := Lib.hid (HST5.out.appended HOX.out hown9 hgrow9)
                have HNX9 := Lib.hid ((HNX5.out.alloc (.cells #[.int .i64 (S1.cost - co)] 3)).grown hgrow9 (fun e => by have := HLT.out _ e; omega))
                have HAP9 := Lib.hid (show ∀ g, v9.ownBlock = some g → g < lo' ∨ w4.heap.size ≤ g from fun g hg => hwhere9.elim (fun e => .inl (by have := HLT.out g (e ▸ hg); omega)) (fun ⟨g', e, hle⟩ => .inr (by rw [e] at hg; simp only [Option.some.injEq] at hg; subst hg; simp at hle; omega)))
                have HOX9 := Lib.hid (show ∀ g, v9.ownBlock = some g → g ≠ sv from fun g hg => hwhere9.elim (fun e => HOX.out g (e ▸ hg)) (fun ⟨g', e, hle⟩ => by rw [e] at hg; simp only [Option.some.injEq] at hg; subst hg; simp at hle; have := HST5.out.s.lt; omega))
                have HOWN9 := Lib.hid ((HOWN5.out.below ((Below.refl W5.heap.size W5).alloc (Nat.le_refl _) (.cells #[.int .i64 (S1.cost - co)] 3))).kept hgrow9 (fun g hg => .inl (by have := HLT.out g hg; omega)))
                clear hown9 hgrow9 hwhere9))
              clear n0 n1 n2 n3 n4 n5 n6 o0 o1 o2 o3 o4 o5 o6
              obtain ⟨n0, n1, n2, n3, n4, n5, n6⟩ := HNX9.out.cells
              obtain ⟨o0, o1, o2, o3, o4, o5, o6⟩ := HST9.out.s.cells
              have o7 := HST9.out.s.free
              have HST6 := Lib.hid (HST9.out.put (show w.heap.size ≤ sv by omega) HOX9.out (.slice ga S1.front.length gc) (.slice ja S1.items.length jc) S1.back.x S1.back.y S1.back.z S1.flips S1.cost)
              have HOWN6 := Lib.hid (HOWN9.out.set7 (c := sv) (.inl (by omega)) (.slice ga S1.front.length gc) (.slice ja S1.items.length jc) (.int .i64 S1.back.x) (.int .i64 S1.back.y) (.int .i64 S1.back.z) (.int .i64 S1.flips) (.int .i64 S1.cost))
              go_wp2_with fail
              have hS1 := HS1.out
              refine ⟨⟨j + 1, lo', w4.heap.size, .slice ga S1.front.length gc, .slice ja S1.items.length jc, by omega, by go_num, ?_, ?_, ?_, HAP9, Lib.hid (by omega), Lib.hid HST6.out.b⟩, by simp [intOf] <;> omega⟩
              · rw [HNUM.out, List.map_append]
                exact Lib.hid HST6.out.o
              · rw [← hS1]
                exact Lib.hid HST6.out.s
              · rw [← hS1]
                exact Lib.hid HOWN6.out.rows
        · obtain rfl : j = n := by omega
          have hnl : ¬ (j : Int) < (j : Int) := by omega
          go_wp2_with fail
          go_returns
          rw [HLL.out]
          exact ⟨_, j, rfl, OwnR.of (lo := w.heap.size) ho.out (Nat.le_refl _) hw.out.size, hw.out⟩
end Go.Proofs.YtmlkdbmhekiniaaGreat
