import Derived.Test.YtolgclajlklmaaaGreat6zn
import Derived.Test.YtolgclajlklmaaaGreatTb
import Derived.Deep.RegionHeld3
import Derived.Deep.DeepMust
namespace Go.Proofs.YtolgclajlklmaaaGreat
set_option linter.unusedSimpArgs false
set_option linter.unusedVariables false
open Go.RowKit
def DqIn (w : World) (lo hi : Nat) (ja : Option Addr) (jc : Nat) (qa : Option Addr) (qc : Nat) (S : Agg.Dq) : Prop := NumsInD w lo hi ja S.items.length jc S.items ∧ NumsInD w lo hi qa S.places.length qc S.places
section
variable {w w' : World} {lo hi d : Nat} {ja qa : Option Addr} {jc qc : Nat} {S : Agg.Dq} {row : Option Nat}
theorem DqIn.grown (h : DqIn w lo hi ja jc qa qc S) (hg : w.grownBy w' row) (hr : ∀ g, row = some g → g < lo ∨ hi ≤ g) : DqIn w' lo hi ja jc qa qc S := ⟨h.1.grown hg hr, h.2.grown hg hr⟩
theorem DqIn.below (h : DqIn w lo hi ja jc qa qc S) (hb : Below w.heap.size w w') : DqIn w' lo hi ja jc qa qc S := ⟨h.1.below hb, h.2.below hb⟩
theorem DqIn.sets (h : DqIn w lo hi ja jc qa qc S) (hd : d < lo ∨ hi ≤ d) (u0 u1 u2 u3 u4 : Value) : DqIn (((((w.setCell ⟨d, 0, none⟩ u0).setCell ⟨d, 1, none⟩ u1).setCell ⟨d, 2, none⟩ u2).setCell ⟨d, 3, none⟩ u3).setCell ⟨d, 4, none⟩ u4) lo hi ja jc qa qc S :=
  ⟨h.1.sets hd _ _ _ _ _, h.2.sets hd _ _ _ _ _⟩
theorem NumsInD.of {a : Option Addr} {n c : Nat} {l : List Int} (h : Nums .i64 w' a n c l) (hb : ∀ b off, a = some ⟨b, off, none⟩ → w.heap.size ≤ b) : NumsInD w' w.heap.size w'.heap.size a n c l := by
  refine ⟨h, fun b off e => ?_⟩
  rcases h.2.2.2 with h0 | ⟨b2, o2, e2, hlt2, -⟩
  · exact .inl h0
  · have e3 := e2.symm.trans e
    simp only [Option.some.injEq, Addr.mk.injEq] at e3
    obtain ⟨rfl, -, -⟩ := e3
    exact .inr ⟨hb _ _ e2, hlt2⟩
theorem DqIn.of (h1 : Nums .i64 w' ja S.items.length jc S.items) (h2 : Nums .i64 w' qa S.places.length qc S.places) (h3 : (∀ b off, ja = some ⟨b, off, none⟩ → w.heap.size ≤ b) ∧ (∀ b off, qa = some ⟨b, off, none⟩ → w.heap.size ≤ b)) : DqIn w' w.heap.size w'.heap.size ja jc qa qc S :=
  ⟨.of h1 h3.1, .of h2 h3.2⟩
end
theorem s_l6Deque_run {k : Int} {l : List (Bool × Int)} (hk : Agg.isOrd k = true) (h : Agg.opsOk l = true) {j : Nat} (hj : j < l.length) (w : World) (ia : Option Addr) (ic : Nat) (pa : Option Addr) (pc : Nat) (hI : Nums .i64 w ia (Agg.dqAt k l j).items.length ic (Agg.dqAt k l j).items) (hP : Nums .i64 w pa (Agg.dqAt k l j).places.length pc (Agg.dqAt k l j).places) :
    Calls Tryz.prog 39 #[.int .i64 k, .agg #[.slice ia (Agg.dqAt k l j).items.length ic, .slice pa (Agg.dqAt k l j).places.length pc, .int .i64 (Agg.dqAt k l j).first, .int .i64 (Agg.dqAt k l j).next, .int .i64 (Agg.dqAt k l j).drops], .agg #[.bool (Agg.opAt l j).1, .int .i64 (Agg.opAt l j).2]] w (L6Dq (Agg.dqAt k l (j + 1)) w) := by
  obtain ⟨hcan, -, hok⟩ := Agg.dq_run hk h hj
  have e : Agg.dqAt k l (j + 1) = Agg.stepD k (Agg.dqAt k l j) (Agg.opAt l j) := rfl
  rw [e]
  obtain ⟨⟨p, x⟩, hp⟩ : ∃ o, o = Agg.opAt l j := ⟨_, rfl⟩
  obtain ⟨⟨SI, SP, f, nx, dr⟩, hS⟩ : ∃ S, S = Agg.dqAt k l j := ⟨_, rfl⟩
  rw [← hp, ← hS] at hcan
  rw [← hS] at hok hI hP ⊢
  rw [← hp]
  simp only at hI hP ⊢
  simp only [Agg.dqCan, Bool.and_eq_true, decide_eq_true_eq] at hcan
  obtain ⟨⟨⟨-, hnx⟩, hdr⟩, hc⟩ := hcan
  obtain ⟨-, hit, hL, hr, hs, -, -, -⟩ := Agg.dqOk_parts hok
  simp only at hit hL hr hs
  obtain ⟨hr0, hr1, hr2, hr3, hr4, hr5⟩ := hr
  have hlen := Agg.items_len hit
  rw [hL] at hP ⊢
  cases p
  · obtain ⟨rfl, hpos⟩ := Agg.can_pop hc
    have hn0 := Agg.dqOk_some hok (show 0 < nx - f from hpos)
    exact s_l6Deque_pop k ia _ ic pa pc f nx dr SI SP w hI hP hlen hn0 hpos hr0 hr1 hr2 hr3
  · obtain ⟨hx, hpos⟩ := Agg.can_push hc
    exact s_l6Deque_push k ia _ ic pa pc f nx dr SI SP x w hI hP hlen hx hpos hr0 hr1 hr2 hnx hr4 hdr
set_option maxRecDepth 8000 in
set_option maxHeartbeats 4000000 in
theorem s_dequeRun_any (k : Int) (a : Option Addr) (n cap : Nat) (l : List (Bool × Int)) (w : World) (h : Ops w a n cap l) :
    Calls Tryz.prog 8 #[.int .i64 k, .slice a n cap] w (DqRunOut (Agg.dqRunOk k l) (Agg.dqRunS k l) (Agg.dqRunN k l) w) := by
  obtain ⟨i0, hi0, hz0, hz1, hz2⟩ := info_parts infoInt
  have hll : l.length = n := h.1
  have hnc : n ≤ cap := h.2.1
  have hcm : cap ≤ 9223372036854775807 := by have := h.2.2.1; unfold maxLen at this; omega
  obtain ⟨W, hW⟩ : ∃ W, W = (w.alloc (.cells #[.slice none 0 0, .slice none 0 0, .int .i64 0, .int .i64 0, .int .i64 0] 28)).alloc (.cells #[] 3) := ⟨_, rfl⟩
  have HR := Lib.hid (show Box5 W w.heap.size 28 (.slice none 0 0) (.slice none 0 0) (.int .i64 0) (.int .i64 0) (.int .i64 0) from by rw [hW]; exact (Box5.new w _ _ _ _ _ _).alloc _)
  have HB := Lib.hid (show Below w.heap.size w W from by rw [hW]; exact ((Below.refl _ _).alloc (Nat.le_refl _) _).alloc (by simp) _)
  have HO := Lib.hid (show W.ownsRow (w.heap.size + 1) 3 1 (.slice (some ⟨w.heap.size + 1, 0, none⟩) 0 0) 0 [] from by
    rw [hW]; simpa using World.ownsRow_made (base := w.heap.size + 1) (e := 3) (size := 1) (w.alloc (.cells #[.slice none 0 0, .slice none 0 0, .int .i64 0, .int .i64 0, .int .i64 0] 28)) #[] 0 (by simp) (by simp [maxLen]) (by simp))
  have HOPS := Lib.hid (h.below HB.out)
  have H0 := Lib.hid h
  have HLL := Lib.hid hll
  have hH := fun w => s_l6Order_any k w
  obtain ⟨kb, hkb⟩ : ∃ kb, kb = Agg.isOrd k := ⟨_, rfl⟩
  rw [← hkb] at hH
  have HH := Lib.hid hH
  have HKB := Lib.hid hkb
  have hL := fun w h => s_l2Ops_any a n cap l w h
  obtain ⟨lb, hlb⟩ : ∃ lb, lb = Agg.opsOk l := ⟨_, rfl⟩
  rw [← hlb] at hL
  have HL := Lib.hid hL
  have HLB := Lib.hid hlb
  obtain ⟨RB, hRB⟩ : ∃ RB, RB = Agg.dqRunOk k l := ⟨_, rfl⟩
  obtain ⟨RS, hRS⟩ : ∃ RS, RS = Agg.dqRunS k l := ⟨_, rfl⟩
  obtain ⟨RN, hRN⟩ : ∃ RN, RN = Agg.dqRunN k l := ⟨_, rfl⟩
  rw [← hRB, ← hRS, ← hRN]
  have HRB := Lib.hid hRB
  have HRS := Lib.hid hRS
  have HRN := Lib.hid hRN
  have hws : w.heap.size + 1 < W.heap.size := (HO.out.lt (w.heap.size + 1) rfl).2
  clear h hH hkb hL hlb hRB hRS hRN hll
  go_enter Tryz.func8, Tryz.ntmps8
  go_wp2_with fail
  rw [← hW]
  clear hW
  refine (HH.out _).mono ?_
  rintro e w1 ⟨rfl, rfl⟩
  cases kb
  · have hb0 : RB = false := by rw [HRB.out, Agg.dqRunOk, ← HKB.out]; rfl
    obtain rfl : RS = Agg.zeroDq := by rw [HRS.out, Agg.dqRunS, ← HRB.out, hb0]; rfl
    obtain rfl : RN = [] := by rw [HRN.out, Agg.dqRunN, ← HRB.out, hb0]; rfl
    subst hb0
    obtain ⟨s0, s1, s2, s3, s4⟩ := HR.out.cells
    have e0 := HR.out.free
    go_wp2_with fail
    refine bodyPost_ret (by simp [results, Tryz.results8, go_sem, *]; try rfl) rfl ?_
    have hbb := f6_below5 HB.out (Nat.le_refl _) (.slice none 0 0) (.slice none 0 0) (.int .i64 0) (.int .i64 0) (.int .i64 0)
    refine ⟨_, _, 0, rfl, ⟨_, _, rfl, ⟨rfl, hbb.size, Nat.le_refl _, .inl ⟨rfl, rfl⟩⟩, ⟨rfl, hbb.size, Nat.le_refl _, .inl ⟨rfl, rfl⟩⟩, .inl rfl⟩, OwnR.of6d (lo := w.heap.size + 1) ?_ (by omega) hbb.size, hbb⟩
    exact own_sets5 HO.out (fun g hg => by have := (HO.out.lt g hg).1; omega) _ _ _ _ _
  · go_wp2_with fail
    refine (HL.out _ HOPS.out).mono ?_
    rintro e w2 ⟨rfl, hb2⟩
    have HR2 := Lib.hid (HR.out.call hb2)
    have HB2 := Lib.hid (HB.out.trans (hb2.mono HB.out.size))
    have HO2 := Lib.hid (HO.out.kept (Below.grownNone hb2 none) (by simp [Value.ownBlock]))
    have hsz2 : w.heap.size + 1 < w2.heap.size := by have := hb2.size; omega
    clear hb2 HR HB HO HOPS
    cases lb
    · have hb0 : RB = false := by rw [HRB.out, Agg.dqRunOk, ← HKB.out, ← HLB.out]; rfl
      obtain rfl : RS = Agg.zeroDq := by rw [HRS.out, Agg.dqRunS, ← HRB.out, hb0]; rfl
      obtain rfl : RN = [] := by rw [HRN.out, Agg.dqRunN, ← HRB.out, hb0]; rfl
      subst hb0
      obtain ⟨s0, s1, s2, s3, s4⟩ := HR2.out.cells
      have e0 := HR2.out.free
      go_wp2_with fail
      refine bodyPost_ret (by simp [results, Tryz.results8, go_sem, *]; try rfl) rfl ?_
      have hbb := f6_below5 HB2.out (Nat.le_refl _) (.slice none 0 0) (.slice none 0 0) (.int .i64 0) (.int .i64 0) (.int .i64 0)
      refine ⟨_, _, 0, rfl, ⟨_, _, rfl, ⟨rfl, hbb.size, Nat.le_refl _, .inl ⟨rfl, rfl⟩⟩, ⟨rfl, hbb.size, Nat.le_refl _, .inl ⟨rfl, rfl⟩⟩, .inl rfl⟩, OwnR.of6d (lo := w.heap.size + 1) ?_ (by omega) hbb.size, hbb⟩
      exact own_sets5 HO2.out (fun g hg => by have := (HO2.out.lt g hg).1; omega) _ _ _ _ _
    · have hb0 : RB = true := by rw [HRB.out, Agg.dqRunOk, ← HKB.out, ← HLB.out]; rfl
      obtain rfl : RS = Agg.dqAt k l l.length := by rw [HRS.out, Agg.dqRunS, ← HRB.out, hb0]; rfl
      obtain rfl : RN = Agg.dqNs k l := by rw [HRN.out, Agg.dqRunN, ← HRB.out, hb0]; rfl
      subst hb0
      have hrem : Agg.isOrd k = true := HKB.out.symm
      have hops : Agg.opsOk l = true := HLB.out.symm
      have hn2 : n ≤ 200 := by have := (Agg.opsOk_parts hops).1; have := HLL.out; omega
      have HREM := Lib.hid (And.intro hrem hops)
      clear hrem hops
      obtain ⟨W3, hW3⟩ : ∃ W3, W3 = w2.alloc (.cells #[.slice none 0 0, .slice none 0 0, .int .i64 0, .int .i64 0, .int .i64 0] 28) := ⟨_, rfl⟩
      have hbn := (Below.refl w2.heap.size w2).alloc (Nat.le_refl _) (.cells #[.slice none 0 0, .slice none 0 0, .int .i64 0, .int .i64 0, .int .i64 0] 28)
      rw [← hW3] at hbn
      have HR3 := Lib.hid (HR2.out.call hbn)
      have HB3 := Lib.hid (HB2.out.trans (hbn.mono HB2.out.size))
      have HO3 := Lib.hid (HO2.out.kept (Below.grownNone hbn none) (by simp [Value.ownBlock]))
      have HX3 := Lib.hid (show Box5 W3 w2.heap.size 28 (.slice none 0 0) (.slice none 0 0) (.int .i64 0) (.int .i64 0) (.int .i64 0) from by rw [hW3]; exact Box5.new w2 _ _ _ _ _ _)
      clear hbn HR2 HB2 HO2
      go_upto_region 5 with (fail)
      rw [← hW3]
      clear hW3
      obtain ⟨sv, hsv⟩ : ∃ sv, sv = w2.heap.size := ⟨_, rfl⟩
      rw [← hsv] at HX3 hsz2 ⊢
      clear hsv
      go_wp2_with fail
      go_loopw [7, 9] (fun ov i wr => ∃ (j : Nat) (lo hi : Nat) (ja : Option Addr) (jc : Nat) (qa : Option Addr) (qc : Nat), j ≤ n ∧ i = .int .i64 j ∧ Hid (wr.ownsRow (w.heap.size + 1) 3 1 ov j (((Agg.dqNs k l).take j).map (Value.int .i64))) ∧ Hid (Box5 wr sv 28 (.slice ja (Agg.dqAt k l j).items.length jc) (.slice qa (Agg.dqAt k l j).places.length qc) (.int .i64 (Agg.dqAt k l j).first) (.int .i64 (Agg.dqAt k l j).next) (.int .i64 (Agg.dqAt k l j).drops)) ∧ Hid (DqIn wr lo hi ja jc qa qc (Agg.dqAt k l j)) ∧ Hid (∀ g, ov.ownBlock = some g → (g < lo ∨ hi ≤ g) ∧ g ≠ sv) ∧ Hid (sv < lo) ∧ Hid (Box5 wr w.heap.size 28 (.slice none 0 0) (.slice none 0 0) (.int .i64 0) (.int .i64 0) (.int .i64 0)) ∧ Hid (Below w.heap.size w wr)) (fun _ i _ => n - (intOf i).toNat)
      case atStart =>
        have hlx := HX3.out.lt
        refine ⟨0, W3.heap.size, W3.heap.size, none, 0, none, 0, Nat.zero_le _, rfl, HO3, ?_, ?_, ?_, Lib.hid hlx, HR3, HB3⟩
        · exact HX3
        · exact Lib.hid ⟨⟨⟨rfl, Nat.le_refl _, by simp [maxLen], .inl rfl⟩, fun b off e => by cases e⟩, ⟨⟨rfl, Nat.le_refl _, by simp [maxLen], .inl rfl⟩, fun b off e => by cases e⟩⟩
        · exact Lib.hid (fun g hg => ⟨.inl (HO3.out.lt g hg).2, by simp only [Value.ownBlock, Option.some.injEq] at hg; omega⟩)
      case round =>
        obtain ⟨j, lo, hi, ja, jc, ra, rc, hj, rfl, ho, hx, hnm, hap, hlo, hr, hw⟩ := hrel
        clear HO3 HX3 HR3 HB3
        have hwr := hw.out.size
        have hxl := hx.out.lt
        by_cases hlt : j < n
        · rcases H0.out.2.2.2 with h4 | ⟨b, off, rfl, hbl, hcs⟩
          · omega
          · have hc0 := (hcs j hlt).1
            have hd0 := (hcs j hlt).2
            clear hcs
            obtain ⟨hrem, hops⟩ := HREM.out
            have hstp := fun w ia ic pa pc hI hP => s_l6Deque_run hrem hops (show j < l.length by have := HLL.out; omega) w ia ic pa pc hI hP
            have hnum := Agg.dqNs_step k l j (by have := HLL.out; omega)
            obtain ⟨x1, hx1⟩ : ∃ x1, x1 = Agg.dqNum (Agg.dqAt k l (j + 1)) := ⟨_, rfl⟩
            rw [← hx1] at hnum
            have hopat : Agg.opAt l j = l[j]?.getD (false, 0) := rfl
            obtain ⟨⟨p, x⟩, hpx⟩ : ∃ o, o = Agg.opAt l j := ⟨_, rfl⟩
            rw [← hopat, ← hpx] at hc0 hd0
            rw [← hpx] at hstp
            obtain ⟨S1, hS1⟩ : ∃ S1, S1 = Agg.dqAt k l (j + 1) := ⟨_, rfl⟩
            rw [← hS1] at hstp hx1
            obtain ⟨S, hS⟩ : ∃ S, S = Agg.dqAt k l j := ⟨_, rfl⟩
            rw [← hS] at hstp hx hnm
            obtain ⟨I, P, fi, nx, dr⟩ := S
            simp only at hstp hx
            have HSTP := Lib.hid hstp
            have HX1 := Lib.hid hx1
            have HS1 := Lib.hid hS1
            have HNUM := Lib.hid hnum
            have HI := Lib.hid (show Nums .i64 wr ja I.length jc I from hnm.out.1.1)
            have HP := Lib.hid (show Nums .i64 wr ra P.length rc P from hnm.out.2.1)
            have HOX := Lib.hid (fun g hg => (hap.out g hg).2)
            obtain ⟨q0, q1, q2, q3, q4⟩ := hx.out.cells
            have hk0 : (0 : Int) ≤ (j : Int) := Int.natCast_nonneg _
            have hkn : (j : Int) < (n : Int) := by omega
            have hbz := (Below.refl wr.heap.size wr).alloc (Nat.le_refl _) (.cells #[.slice none 0 0, .slice none 0 0, .int .i64 0, .int .i64 0, .int .i64 0] 28)
            have HSTB := Lib.hid (show DqSt w sv (.slice ja I.length jc) (.slice ra P.length rc) fi nx dr u7 j (((Agg.dqNs k l).take j).map (Value.int .i64)) wr from ⟨hx.out, hr.out, ho.out, hw.out⟩)
            have HSTA := Lib.hid (HSTB.out.call hbz)
            have HIA := Lib.hid (HI.out.below hbz)
            have HIB := HI
            have HPA := Lib.hid (HP.out.below hbz)
            have HPB := HP
            have HNX := Lib.hid (show Box5 (wr.alloc (.cells #[.slice none 0 0, .slice none 0 0, .int .i64 0, .int .i64 0, .int .i64 0] 28)) wr.heap.size 28 (.slice none 0 0) (.slice none 0 0) (.int .i64 0) (.int .i64 0) (.int .i64 0) from Box5.new wr _ _ _ _ _ _)
            have hcka := (HSTA.out.b.cell (p := ⟨b, off + j * 2, none⟩) hbl).trans hc0
            have hcla := (HSTA.out.b.cell (p := ⟨b, off + j * 2 + 1, none⟩) hbl).trans hd0
            have hck := (hw.out.cell (p := ⟨b, off + j * 2, none⟩) hbl).trans hc0
            have hcl := (hw.out.cell (p := ⟨b, off + j * 2 + 1, none⟩) hbl).trans hd0
            have HLT := Lib.hid (fun g hg => (ho.out.lt g hg).2)
            have hblr : b < wr.heap.size := by omega
            clear hr hx hnm hbz hstp hS1 hnum hrem hops hx1 hopat hpx hS
            go_wp2_with fail
            go_region_held3 (fun w' => w'.cell? ⟨sv, 0, none⟩ = some (.slice ja I.length jc) ∧ w'.cell? ⟨sv, 1, none⟩ = some (.slice ra P.length rc) ∧ w'.cell? ⟨sv, 2, none⟩ = some (.int .i64 fi) ∧ w'.cell? ⟨sv, 3, none⟩ = some (.int .i64 nx) ∧ w'.cell? ⟨sv, 4, none⟩ = some (.int .i64 dr) ∧ w'.cell? ⟨b, off + j * 2, none⟩ = some (.bool p) ∧ w'.cell? ⟨b, off + j * 2 + 1, none⟩ = some (.int .i64 x)) (first | (refine ⟨?_, ?_, ?_, ?_, ?_, ?_, ?_⟩ <;> (rw [setd_far (by omega)]; assumption)) | (refine ⟨?_, ?_, ?_, ?_, ?_, ?_, ?_⟩ <;> (rw [keepd_alloc (by assumption)]; assumption)) | (refine ⟨?_, ?_, ?_, ?_, ?_, ?_, ?_⟩ <;> assumption) | go_keep)
              (first | (go_at_call 39; refine (HSTP.out (World.drew (wr.alloc (.cells #[.slice none 0 0, .slice none 0 0, .int .i64 0, .int .i64 0, .int .i64 0] 28))) _ _ _ _ (show Nums .i64 (World.drew (wr.alloc (.cells #[.slice none 0 0, .slice none 0 0, .int .i64 0, .int .i64 0, .int .i64 0] 28))) _ _ _ _ from HIA.out) (show Nums .i64 (World.drew (wr.alloc (.cells #[.slice none 0 0, .slice none 0 0, .int .i64 0, .int .i64 0, .int .i64 0] 28))) _ _ _ _ from HPA.out)).mono ?_; rintro e w4 ⟨ga, gc, qa, qc, rfl, hi4, hp4, hbl4', hb4⟩; have HST4 := Lib.hid (HSTA.out.callD hb4); have HSZ4 := Lib.hid hb4.size; have hsv4 := HST4.out.s.lt; have hbl4 : b < w4.heap.size := Nat.lt_of_lt_of_le hbl HST4.out.b.size; have hck4 := (HST4.out.b.cell (p := ⟨b, off + j * 2, none⟩) hbl).trans hc0; have hcl4 := (HST4.out.b.cell (p := ⟨b, off + j * 2 + 1, none⟩) hbl).trans hd0; obtain ⟨o0, o1, o2, o3, o4⟩ := HST4.out.s.cells; have HNM := Lib.hid (show DqIn w4 (World.drew (wr.alloc (.cells #[.slice none 0 0, .slice none 0 0, .int .i64 0, .int .i64 0, .int .i64 0] 28))).heap.size w4.heap.size ga gc qa qc S1 from .of hi4 hp4 hbl4'); have HNX4 := Lib.hid (HNX.out.callD hb4); have n0 := (HNX.out.callD hb4).free; obtain ⟨z0, z1, z2, z3, z4⟩ := (HNX.out.callD hb4).cells; have hne4 : sv ≠ wr.heap.size := (by omega); have hne5 : b ≠ wr.heap.size := (by omega); clear hb4 hi4 hp4 hbl4') | (go_at_call 39; refine (HSTP.out (World.drew wr) _ _ _ _ (show Nums .i64 (World.drew wr) _ _ _ _ from HIB.out) (show Nums .i64 (World.drew wr) _ _ _ _ from HPB.out)).mono ?_; rintro e w4 ⟨ga, gc, qa, qc, rfl, hi4, hp4, hbl4', hb4⟩; have HST4 := Lib.hid (HSTB.out.callD hb4); have HSZ4 := Lib.hid hb4.size; have hsv4 := HST4.out.s.lt; have hbl4 : b < w4.heap.size := Nat.lt_of_lt_of_le hbl HST4.out.b.size; have hck4 := (HST4.out.b.cell (p := ⟨b, off + j * 2, none⟩) hbl).trans hc0; have hcl4 := (HST4.out.b.cell (p := ⟨b, off + j * 2 + 1, none⟩) hbl).trans hd0; obtain ⟨o0, o1, o2, o3, o4⟩ := HST4.out.s.cells; have HNM := Lib.hid (show DqIn w4 (World.drew wr).heap.size w4.heap.size ga gc qa qc S1 from .of hi4 hp4 hbl4'); have n0 := (trivial : True); clear hb4 hi4 hp4 hbl4'))
            · obtain ⟨W5, hW5⟩ : ∃ W5, W5 = w4.alloc (.cells #[.slice ga S1.items.length gc, .slice qa S1.places.length qc, .int .i64 S1.first, .int .i64 S1.next, .int .i64 S1.drops] 28) := ⟨_, rfl⟩
              have hbn : Below w4.heap.size w4 W5 := by rw [hW5]; exact (Below.refl _ _).alloc (Nat.le_refl _) _
              have HST5 := Lib.hid (HST4.out.call hbn)
              have HNM5 := Lib.hid (HNM.out.below hbn)
              have HNX5 := Lib.hid (show Box5 W5 w4.heap.size 28 (.slice ga S1.items.length gc) (.slice qa S1.places.length qc) (.int .i64 S1.first) (.int .i64 S1.next) (.int .i64 S1.drops) from by rw [hW5]; exact Box5.new w4 _ _ _ _ _ _)
              have hlo5 : wr.heap.size ≤ wr.drew.heap.size := Nat.le_refl _
              have hhi5 : w4.heap.size ≤ W5.heap.size := hbn.size
              rw [← hW5]
              obtain ⟨lo', hlo'⟩ : ∃ lo', lo' = wr.drew.heap.size := ⟨_, rfl⟩
              rw [← hlo'] at HNM5 hlo5
              obtain ⟨nb, hnb⟩ : ∃ nb, nb = w4.heap.size := ⟨_, rfl⟩
              have hnb5 : sv ≠ nb := by omega
              rw [← hnb] at HNX5 ⊢
              clear hW5 hbn HST4 HNM hck4 hcl4 o0 o1 o2 o3 o4 n0 hck hcl hcka hcla q0 q1 q2 q3 q4 hlo' hnb
              obtain ⟨W6, hW6⟩ : ∃ W6, W6 = (((((W5.setCell ⟨sv, 0, none⟩ (.slice ga S1.items.length gc)).setCell ⟨sv, 1, none⟩ (.slice qa S1.places.length qc)).setCell ⟨sv, 2, none⟩ (.int .i64 S1.first)).setCell ⟨sv, 3, none⟩ (.int .i64 S1.next)).setCell ⟨sv, 4, none⟩ (.int .i64 S1.drops)) := ⟨_, rfl⟩
              have HST6 := Lib.hid (HST5.out.put (show w.heap.size < sv by omega) HOX.out (.slice ga S1.items.length gc) (.slice qa S1.places.length qc) S1.first S1.next S1.drops)
              have HNM6 := Lib.hid (HNM5.out.sets (d := sv) (.inl (by omega)) (.slice ga S1.items.length gc) (.slice qa S1.places.length qc) (.int .i64 S1.first) (.int .i64 S1.next) (.int .i64 S1.drops))
              rw [← hW6] at HST6 HNM6
              have hz6 : W5.heap.size ≤ W6.heap.size := by rw [hW6, f6_size5]; exact Nat.le_refl _
              obtain ⟨n0, n1, n2, n3, n4⟩ := HNX5.out.cells
              obtain ⟨o0, o1, o2, o3, o4⟩ := HST5.out.s.cells
              have o7 := HST5.out.s.free
              go_upto_region 10 with (fail)
              rw [← hW6]
              clear hW6 n0 n1 n2 n3 n4 o0 o1 o2 o3 o4 o7 HST5 HNM5 HNX5
              obtain ⟨o0, o1, o2, o3, o4⟩ := HST6.out.s.cells
              go_wp2_with fail
              have hC7 := s_l6Number_any ga S1.items.length gc qa S1.places.length qc S1.first S1.next S1.drops S1.items W6 HNM6.out.1.1
              rw [show (if S1.items.length = 0 then (-1 : Int) else S1.items[0]?.getD 0) = x1 from HX1.out.symm] at hC7
              refine hC7.mono ?_
              rintro e w8 ⟨rfl, hb8⟩
              have HST8 := Lib.hid (HST6.out.call hb8)
              have HNM8 := Lib.hid (HNM6.out.below hb8)
              have hz8 : w4.heap.size ≤ w8.heap.size := by have := hb8.size; omega
              have hs8 := HST8.out.b.size
              have hb0 : w.heap.size + 1 ≤ w8.heap.size := by have := HST8.out.s.lt; omega
              clear hb8 HST6 HNM6 hC7 o0 o1 o2 o3 o4
              go_wp2_with (
                at_builtin
                go_must (refine wpList_append_where rfl (.tmp 41) (.tmp 44) 26 rfl (w.heap.size + 1) 3 i0 (.int .i64 0) 1 8 Tryz.underlying26 hi0 hz0 hz1 hz2 rfl (by decide) _ _ _ rfl (HST8.out.o.alloc _) ⟨w8.heap.size, 0, none⟩ 1 1 [.int .i64 x1] rfl rfl (cell_one_new _ _ _) (ints_oneCell .i64 [x1]) (by unfold maxLen; omega) (by omega) (by simp; omega) ?_)
                intro v9 w9 hown9 hgrow9 hwhere9
                have HST9 := Lib.hid (HST8.out.appended HOX.out hown9 hgrow9)
                have HAP9 := Lib.hid (show ∀ g, v9.ownBlock = some g → (g < lo' ∨ w4.heap.size ≤ g) ∧ g ≠ sv from fun g hg => hwhere9.elim (fun e => ⟨.inl (by have := HLT.out g (e ▸ hg); omega), HOX.out g (e ▸ hg)⟩) (fun ⟨g', e, hle⟩ => by rw [e] at hg; simp only [Option.some.injEq] at hg; subst hg; simp at hle; exact ⟨.inr (by omega), by omega⟩))
                have HNM9 := Lib.hid ((HNM8.out.below ((Below.refl w8.heap.size w8).alloc (Nat.le_refl _) _)).grown hgrow9 (fun g hg => .inl (by have := HLT.out g hg; omega)))
                clear hown9 hgrow9 hwhere9)
              have hS1 := HS1.out
              refine ⟨⟨j + 1, lo', w4.heap.size, ga, gc, qa, qc, by omega, by go_num, ?_, ?_, ?_, HAP9, Lib.hid (by omega), Lib.hid HST9.out.r, Lib.hid HST9.out.b⟩, by simp [intOf] <;> omega⟩
              · rw [HNUM.out, List.map_append]
                exact Lib.hid HST9.out.o
              · rw [← hS1]
                exact Lib.hid HST9.out.s
              · rw [← hS1]
                exact HNM9
            · obtain ⟨W5, hW5⟩ : ∃ W5, W5 = (((((w4.setCell ⟨wr.heap.size, 0, none⟩ (.slice ga S1.items.length gc)).setCell ⟨wr.heap.size, 1, none⟩ (.slice qa S1.places.length qc)).setCell ⟨wr.heap.size, 2, none⟩ (.int .i64 S1.first)).setCell ⟨wr.heap.size, 3, none⟩ (.int .i64 S1.next)).setCell ⟨wr.heap.size, 4, none⟩ (.int .i64 S1.drops)) := ⟨_, rfl⟩
              have HST5 := Lib.hid (HST4.out.far (d := wr.heap.size) (by omega) (by omega) (fun g hg => by have := HLT.out g hg; omega) (.slice ga S1.items.length gc) (.slice qa S1.places.length qc) (.int .i64 S1.first) (.int .i64 S1.next) (.int .i64 S1.drops))
              have HNM5 := Lib.hid (HNM.out.sets (d := wr.heap.size) (.inl (by simp [World.drew])) (.slice ga S1.items.length gc) (.slice qa S1.places.length qc) (.int .i64 S1.first) (.int .i64 S1.next) (.int .i64 S1.drops))
              have HNX5 := Lib.hid (((((HNX4.out.set0 (.slice ga S1.items.length gc)).set1 (.slice qa S1.places.length qc)).set2 (.int .i64 S1.first)).set3 (.int .i64 S1.next)).set4 (.int .i64 S1.drops))
              rw [← hW5] at HST5 HNM5 HNX5 ⊢
              have hlo5 : wr.heap.size ≤ (wr.alloc (.cells #[.slice none 0 0, .slice none 0 0, .int .i64 0, .int .i64 0, .int .i64 0] 28)).drew.heap.size := by simp [World.drew]
              have hhi5 : w4.heap.size ≤ W5.heap.size := by rw [hW5, f6_size5]; exact Nat.le_refl _
              obtain ⟨lo', hlo'⟩ : ∃ lo', lo' = (wr.alloc (.cells #[.slice none 0 0, .slice none 0 0, .int .i64 0, .int .i64 0, .int .i64 0] 28)).drew.heap.size := ⟨_, rfl⟩
              rw [← hlo'] at HNM5 hlo5
              obtain ⟨nb, hnb⟩ : ∃ nb, nb = wr.heap.size := ⟨_, rfl⟩
              have hnb5 : sv ≠ nb := by omega
              rw [← hnb] at HNX5
              clear hW5 HST4 HNM hck4 hcl4 o0 o1 o2 o3 o4 n0 hck hcl hcka hcla q0 q1 q2 q3 q4 hlo' z0 z1 z2 z3 z4 HNX4
              rw [← hnb]
              clear hnb
              obtain ⟨W6, hW6⟩ : ∃ W6, W6 = (((((W5.setCell ⟨sv, 0, none⟩ (.slice ga S1.items.length gc)).setCell ⟨sv, 1, none⟩ (.slice qa S1.places.length qc)).setCell ⟨sv, 2, none⟩ (.int .i64 S1.first)).setCell ⟨sv, 3, none⟩ (.int .i64 S1.next)).setCell ⟨sv, 4, none⟩ (.int .i64 S1.drops)) := ⟨_, rfl⟩
              have HST6 := Lib.hid (HST5.out.put (show w.heap.size < sv by omega) HOX.out (.slice ga S1.items.length gc) (.slice qa S1.places.length qc) S1.first S1.next S1.drops)
              have HNM6 := Lib.hid (HNM5.out.sets (d := sv) (.inl (by omega)) (.slice ga S1.items.length gc) (.slice qa S1.places.length qc) (.int .i64 S1.first) (.int .i64 S1.next) (.int .i64 S1.drops))
              rw [← hW6] at HST6 HNM6
              have hz6 : W5.heap.size ≤ W6.heap.size := by rw [hW6, f6_size5]; exact Nat.le_refl _
              obtain ⟨n0, n1, n2, n3, n4⟩ := HNX5.out.cells
              obtain ⟨o0, o1, o2, o3, o4⟩ := HST5.out.s.cells
              have o7 := HST5.out.s.free
              go_upto_region 10 with (fail)
              rw [← hW6]
              clear hW6 n0 n1 n2 n3 n4 o0 o1 o2 o3 o4 o7 HST5 HNM5 HNX5
              obtain ⟨o0, o1, o2, o3, o4⟩ := HST6.out.s.cells
              go_wp2_with fail
              have hC7 := s_l6Number_any ga S1.items.length gc qa S1.places.length qc S1.first S1.next S1.drops S1.items W6 HNM6.out.1.1
              rw [show (if S1.items.length = 0 then (-1 : Int) else S1.items[0]?.getD 0) = x1 from HX1.out.symm] at hC7
              refine hC7.mono ?_
              rintro e w8 ⟨rfl, hb8⟩
              have HST8 := Lib.hid (HST6.out.call hb8)
              have HNM8 := Lib.hid (HNM6.out.below hb8)
              have hz8 : w4.heap.size ≤ w8.heap.size := by have := hb8.size; omega
              have hs8 := HST8.out.b.size
              have hb0 : w.heap.size + 1 ≤ w8.heap.size := by have := HST8.out.s.lt; omega
              clear hb8 HST6 HNM6 hC7 o0 o1 o2 o3 o4
              go_wp2_with (
                at_builtin
                go_must (refine wpList_append_where rfl (.tmp 41) (.tmp 44) 26 rfl (w.heap.size + 1) 3 i0 (.int .i64 0) 1 8 Tryz.underlying26 hi0 hz0 hz1 hz2 rfl (by decide) _ _ _ rfl (HST8.out.o.alloc _) ⟨w8.heap.size, 0, none⟩ 1 1 [.int .i64 x1] rfl rfl (cell_one_new _ _ _) (ints_oneCell .i64 [x1]) (by unfold maxLen; omega) (by omega) (by simp; omega) ?_)
                intro v9 w9 hown9 hgrow9 hwhere9
                have HST9 := Lib.hid (HST8.out.appended HOX.out hown9 hgrow9)
                have HAP9 := Lib.hid (show ∀ g, v9.ownBlock = some g → (g < lo' ∨ w4.heap.size ≤ g) ∧ g ≠ sv from fun g hg => hwhere9.elim (fun e => ⟨.inl (by have := HLT.out g (e ▸ hg); omega), HOX.out g (e ▸ hg)⟩) (fun ⟨g', e, hle⟩ => by rw [e] at hg; simp only [Option.some.injEq] at hg; subst hg; simp at hle; exact ⟨.inr (by omega), by omega⟩))
                have HNM9 := Lib.hid ((HNM8.out.below ((Below.refl w8.heap.size w8).alloc (Nat.le_refl _) _)).grown hgrow9 (fun g hg => .inl (by have := HLT.out g hg; omega)))
                clear hown9 hgrow9 hwhere9)
              have hS1 := HS1.out
              refine ⟨⟨j + 1, lo', w4.heap.size, ga, gc, qa, qc, by omega, by go_num, ?_, ?_, ?_, HAP9, Lib.hid (by omega), Lib.hid HST9.out.r, Lib.hid HST9.out.b⟩, by simp [intOf] <;> omega⟩
              · rw [HNUM.out, List.map_append]
                exact Lib.hid HST9.out.o
              · rw [← hS1]
                exact Lib.hid HST9.out.s
              · rw [← hS1]
                exact HNM9
        · obtain rfl : j = n := by omega
          have hnl : ¬ (j : Int) < (j : Int) := by omega
          have hlen := Agg.dq_run_len HREM.out.1 HREM.out.2 j (by have := HLL.out; omega)
          obtain ⟨S, hS⟩ : ∃ S, S = Agg.dqAt k l j := ⟨_, rfl⟩
          rw [← hS] at hx hnm hlen
          have HS := Lib.hid hS
          have HLEN := Lib.hid hlen
          clear hS hap hlo hlen
          obtain ⟨q0, q1, q2, q3, q4⟩ := hx.out.cells
          go_wp2_with fail
          refine (s_l6Copy_any ja S.items.length jc ra S.places.length rc S.first S.next S.drops S.items S.places wr hnm.out.1.1 hnm.out.2.1 (by have := HLEN.out; omega) (by have := HLEN.out; omega)).mono ?_
          rintro e w4 ⟨v4, rfl, hd4, hb4⟩
          have HR4 := Lib.hid (hr.out.call hb4)
          have HO4 := Lib.hid (ho.out.kept (Below.grownNone hb4 none) (by cases hv : u7.ownBlock <;> simp))
          have HB4 := Lib.hid (hw.out.trans (hb4.mono hw.out.size))
          obtain ⟨ia4, ic4, pa4, pc4, rfl, -, -⟩ := hd4.read
          simp only at hd4
          have HD := Lib.hid hd4
          clear hb4 hd4 hx hr ho hw hnm q0 q1 q2 q3 q4
          obtain ⟨s0, s1, s2, s3, s4⟩ := HR4.out.cells
          have sf := HR4.out.free
          go_wp2_with fail
          refine bodyPost_ret (by simp [results, Tryz.results8, go_sem, *]; try rfl) rfl ?_
          have hbb := f6_below5 HB4.out (Nat.le_refl _) (.slice ia4 S.items.length ic4) (.slice pa4 S.places.length pc4) (.int .i64 S.first) (.int .i64 S.next) (.int .i64 S.drops)
          have hql : (Agg.dqNs k l).take j = Agg.dqNs k l := List.take_of_length_le (by rw [Agg.dqNs_len]; have := HLL.out; omega)
          rw [hql] at HO4
          have hSl : Agg.dqAt k l l.length = S := by rw [HLL.out]; exact HS.out.symm
          rw [hSl]
          refine ⟨_, _, j, rfl, (HD.out.set5 (.inl (by omega)) _ _ _ _ _).wide (by omega) (by rw [f6_size5]; exact Nat.le_refl _) (by rw [f6_size5]; exact Nat.le_refl _), OwnR.of6d (own_sets5 HO4.out (fun g hg => by have := (HO4.out.lt g hg).1; omega) _ _ _ _ _) (by omega) hbb.size, hbb⟩
end Go.Proofs.YtolgclajlklmaaaGreat
