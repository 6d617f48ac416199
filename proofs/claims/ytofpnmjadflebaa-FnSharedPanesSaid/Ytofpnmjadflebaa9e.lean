/-
  A query added, in the program and in the model.
-/
import Derived.Test.Ytofpnmjadflebaa9d
import Derived.Test.YtofpnmjadflebaaRw
import Derived.Lib.SliceRun
import Derived.Deep.DeepMust
namespace Go.Proofs.Ytofpnmjadflebaa
set_option linter.unusedSimpArgs false
set_option linter.unusedVariables false
open Go.RowKit
theorem qrys_news {w : World} {b off n cap : Nat} {l : List (Int × Int)} (h : Qrs w (some ⟨b, off, none⟩) n cap l) : ∀ j u, (qryRow l)[j]? = some u → w.cell? ((⟨b, off, none⟩ : Addr).add j) = some u := by
  intro j u hj
  obtain ⟨h1, h2, h3, h4⟩ := h
  have hjl : j < l.length * 2 := by rw [← qryRow_length]; exact (List.getElem?_eq_some_iff.1 hj).1
  rcases h4 with h4 | ⟨b', off', ha, hb, hc⟩
  · omega
  · simp only [Option.some.injEq, Addr.mk.injEq, and_true] at ha
    obtain ⟨rfl, rfl⟩ := ha
    rw [Addr.add_lit]
    obtain ⟨q, hq⟩ : ∃ q, j = q * 2 ∨ j = q * 2 + 1 := ⟨j / 2, by omega⟩
    have hqn : q < l.length := by omega
    have hv := qryRow_at l q hqn
    have hw := hc q (by omega)
    rcases hq with rfl | rfl
    · rw [hv.1] at hj; rw [← hj]; exact hw.1
    · rw [hv.2] at hj; rw [← hj, ← Nat.add_assoc]; exact hw.2
theorem qryRow_oneCell (l : List (Int × Int)) : ∀ u ∈ qryRow l, u.oneCell' = true := by
  intro u hu
  simp only [qryRow, List.mem_flatMap] at hu
  obtain ⟨v, -, hv⟩ := hu
  exact two_oneCellQ _ _ u hv
theorem Qrs.src {w : World} {a : Option Addr} {n cap : Nat} {l : List (Int × Int)} (h : Qrs w a n cap l) : SrcOk w a n 2 (qryRow l) := by
  refine ⟨?_, ?_, by rw [qryRow_length, h.1], qryRow_oneCell l⟩
  · intro ha
    subst ha
    rcases h.2.2.2 with h0 | ⟨b, off, ha, -⟩
    · have : l = [] := List.eq_nil_of_length_eq_zero (by rw [h.1]; exact h0)
      subst this
      exact ⟨h0, rfl⟩
    · cases ha
  · intro ad ha j u hj
    subst ha
    rcases h.2.2.2 with h0 | ⟨b, off, ha, hrest⟩
    · have : l = [] := List.eq_nil_of_length_eq_zero (by rw [h.1]; exact h0)
      subst this
      simp [qryRow] at hj
    · obtain rfl := Option.some.inj ha
      exact qrys_news h j u hj
theorem own_emptyQ_new (w : World) : (w.alloc (.cells #[] 28)).ownsRow w.heap.size 28 2 (.slice (some ⟨w.heap.size, 0, none⟩) 0 0) 0 (qryRow []) :=
  World.ownsRow_made (base := w.heap.size) (e := 28) (size := 2) w #[] 0 (Nat.le_refl _) (by simp [maxLen]) (by simp)
theorem qrow_slice {w : World} {base n : Nat} {v : Value} {xs : List Value} (h : w.ownsRow base 28 2 v n xs) : ∃ a c, v = .slice a n c := by
  rcases h.2 with ⟨rfl, rfl⟩ | ⟨g, cap, cur, rfl, -⟩
  · exact ⟨none, 0, rfl⟩
  · exact ⟨_, cap, rfl⟩
/-- What AddQuery answers, in memory of its own. -/
def QrysOut (b : Bool) (l : List (Int × Int)) (w : World) (e : Ending) (w' : World) : Prop :=
  ∃ v m, e = .returned (.tuple #[v, .bool b]) ∧ OwnQy w' w.heap.size w'.heap.size v m l ∧ Below w.heap.size w w'
theorem OwnQy.nil (w : World) {lo : Nat} (h : lo ≤ w.heap.size) : OwnQy w lo w.heap.size (.slice none 0 0) 0 [] :=
  ⟨World.ownsRow_nil _ _ _ _, h, Nat.le_refl _, fun g hg => by simp [Value.ownBlock] at hg⟩
theorem OwnQy.of {w : World} {lo lo' n : Nat} {v : Value} {l : List (Int × Int)} (h : w.ownsRow lo 28 2 v n (qryRow l)) (hb : lo' ≤ lo) (hs : lo' ≤ w.heap.size) : OwnQy w lo' w.heap.size v n l :=
  ⟨owns_lower h hb, hs, Nat.le_refl _, fun g hg => (h.lt g hg).2⟩
theorem OwnQy.wide {w : World} {lo hi lo' hi' n : Nat} {v : Value} {l : List (Int × Int)} (h : OwnQy w lo hi v n l) (h1 : lo' ≤ lo) (h2 : hi ≤ hi') (h3 : hi' ≤ w.heap.size) : OwnQy w lo' hi' v n l :=
  ⟨owns_lower h.1 h1, by have := h.2.1; omega, h3, fun g hg => Nat.lt_of_lt_of_le (h.2.2.2 g hg) h2⟩
set_option maxRecDepth 8000 in
set_option maxHeartbeats 1000000 in
theorem cloneQ_any (a : Option Addr) (n cap : Nat) (l : List (Int × Int)) (w : World) (h : Qrs w a n cap l) (hn : n ≤ 1048576) :
    Calls Try.prog 33 #[.slice a n cap] w (fun e w' => ∃ v, e = .returned v ∧ w'.ownsRow w.heap.size 28 2 v n (qryRow l) ∧ Below w.heap.size w w') := by
  obtain ⟨i0, hi0, hz0, hz1, hz2⟩ := info_parts infoQy
  have hll : l.length = n := h.1
  have hnc := h.2.1
  have hcm : cap ≤ 9223372036854775807 := by have := h.2.2.1; unfold maxLen at this; omega
  cases a with
  | none =>
    have h0 : n = 0 := by
      rcases h.2.2.2 with h0 | ⟨b, off, ha, -⟩
      · exact h0
      · simp at ha
    subst h0
    obtain rfl := List.eq_nil_of_length_eq_zero hll
    clear h
    have q22 : ∀ (w : World) (a : Option Addr) (n c n' c' : Nat), (binOp .eql 23 (.slice a n c) (.slice none n' c')).run Try.prog w = .ok (.bool a.isNone) w := fun w a n c n' c' => Lib.run_eql_slice_nil w _ _ a n c n' c' Try.underlying23
    go_enter Try.func33, Try.ntmps33
    go_wp2
    go_returns
    exact ⟨_, rfl, World.ownsRow_nil _ _ _ _, Below.refl _ _⟩
  | some ad =>
    have hnews : ∀ j u, (qryRow l)[j]? = some u → (w.alloc (.cells #[] 28)).cell? (ad.add j) = some u := by
      rcases h.2.2.2 with h0 | ⟨b, off, ha, -⟩
      · subst h0
        obtain rfl := List.eq_nil_of_length_eq_zero hll
        intro j u hj
        simp [qryRow] at hj
      · obtain rfl := Option.some.inj ha
        exact qrys_news (h.below ((Below.refl _ _).alloc (Nat.le_refl _) _))
    have HN := Lib.hid hnews
    have HE := Lib.hid (own_emptyQ_new w)
    have hvl : (qryRow l).length = n * 2 := by rw [qryRow_length, hll]
    clear hnews h
    have q22 : ∀ (w : World) (a : Option Addr) (n c n' c' : Nat), (binOp .eql 23 (.slice a n c) (.slice none n' c')).run Try.prog w = .ok (.bool a.isNone) w := fun w a n c n' c' => Lib.run_eql_slice_nil w _ _ a n c n' c' Try.underlying23
    go_enter Try.func33, Try.ntmps33
    go_wp2_with (at_builtin; go_must (refine wpList_append_own _ rfl (.tmp 5) (.tmp 6) 23 rfl w.heap.size 28 i0 (.agg #[.int .i64 0, .int .i64 0]) 2 16 Try.underlying23 hi0 hz0 hz1 hz2 rfl (by decide) _ _ _ rfl HE.out ad n cap (qryRow l) rfl hvl HN.out (qryRow_oneCell _) (by unfold maxLen; omega) (by omega) (by simp) ?_); go_must (intro v' w' hown' hgrow' hnil'; have HO := Lib.hid hown'; have HB := Lib.hid (show Below w.heap.size w w' from Below.grown (((Below.refl _ _).alloc (Nat.le_refl _) _)) hgrow' (by simp) (fun k hk => Nat.le_of_eq (Option.some.inj hk))); clear hown' hgrow' hnil'))
    go_wp2
    go_returns
    exact ⟨v', rfl, by have := HO.out; simpa [qryRow] using this, HB.out⟩
set_option maxRecDepth 8000 in
set_option maxHeartbeats 2000000 in
theorem addQuery_any (a : Option Addr) (n cap : Nat) (l : List (Int × Int)) (x y : Int) (w : World) (h : Qrs w a n cap l) (hn : n ≤ 1048576) :
    Calls Try.prog 13 #[.slice a n cap, .agg #[.int .i64 x, .int .i64 y]] w (QrysOut (Agg.addOk l (x, y)) (Agg.addOut l (x, y)) w) := by
  obtain ⟨i0, hi0, hz0, hz1, hz2⟩ := info_parts infoQy
  obtain ⟨W, hW⟩ : ∃ W, W = w.alloc (.cells #[.int .i64 x, .int .i64 y] 28) := ⟨_, rfl⟩
  have HX := Lib.hid (show Box2h W w.heap.size 28 x y from by rw [hW]; exact Box2h.new _ _ _ _)
  have HB := Lib.hid (show Below w.heap.size w W from by rw [hW]; exact (Below.refl _ _).alloc (Nat.le_refl _) _)
  have HCL := Lib.hid (cloneQ_any a n cap l W (h.below HB.out) hn)
  have H0 := Lib.hid h
  obtain ⟨has, hhas⟩ : ∃ has, has = l.contains (x, y) := ⟨_, rfl⟩
  have HCT := Lib.hid (fun X (hX : Below w.heap.size w X) => containsQ_any a n cap l x y X (H0.out.below hX))
  rw [← hhas] at HCT
  obtain ⟨R, hR⟩ : ∃ R, R = Agg.addQ l (x, y) := ⟨_, rfl⟩
  have HR := Lib.hid (show R = if has then l else l ++ [(x, y)] from by rw [hR, Agg.addQ, hhas])
  obtain ⟨b, hb⟩ : ∃ b, b = Agg.addOk l (x, y) := ⟨_, rfl⟩
  have hb2 : b = Agg.qrysOk R := by rw [hb, Agg.addOk, hR]
  have hO : Agg.addOut l (x, y) = if b then R else [] := by rw [Agg.addOut, hb, hR]
  rw [← hb, hO]
  obtain ⟨RO, hRO⟩ : ∃ RO, RO = (if b then R else []) := ⟨_, rfl⟩
  rw [← hRO]
  have HRO := Lib.hid hRO
  have HQV := Lib.hid (fun X v m lo hi (hX : OwnQy X lo hi v m R) => show Calls Try.prog 10 #[v] X fun e w' => e = .returned (.bool b) ∧ Below X.heap.size X w' from by
    obtain ⟨a', c', rfl, hq⟩ := hX.ops
    rw [hb2]
    exact queriesValid_any a' m c' R X hq)
  have hnn : n + 1 ≤ 1048577 := by omega
  have hWs : w.heap.size < W.heap.size := HX.out.lt
  clear h hhas hb hb2 hO hRO hR
  go_enter Try.func13, Try.ntmps13
  go_upto_region 1 with (fail)
  rw [← hW]
  clear hW
  go_wp2_with fail
  refine HCL.out.mono ?_
  rintro e w1 ⟨v1, rfl, ho1, hb1⟩
  obtain ⟨a1, c1, rfl⟩ := qrow_slice ho1
  have HO1 := Lib.hid ho1
  have HX1 := Lib.hid (HX.out.call hb1)
  have HB1 := Lib.hid (HB.out.trans (hb1.mono HB.out.size))
  have HW1 := Lib.hid (show W.heap.size ≤ w1.heap.size from hb1.size)
  clear ho1 hb1 HCL HX HB
  obtain ⟨q0, q1⟩ := HX1.out.cells
  go_wp2_with fail
  refine (HCT.out _ HB1.out).mono ?_
  rintro e w2 ⟨rfl, hb2⟩
  have HO2 := Lib.hid (HO1.out.kept (Below.grownNone hb2 none) (Classical.em _))
  have HX2 := Lib.hid (HX1.out.call hb2)
  have HB2 := Lib.hid (HB1.out.trans (hb2.mono HB1.out.size))
  have HW2 := Lib.hid (show W.heap.size ≤ w2.heap.size from Nat.le_trans HW1.out hb2.size)
  clear hb2 HO1 HX1 HB1 q0 q1
  obtain ⟨q0, q1⟩ := HX2.out.cells
  cases has
  · have e1 : R = l ++ [(x, y)] := by rw [HR.out]; rfl
    have HE1 := Lib.hid e1
    clear e1
    go_wp2_with (at_builtin; go_must (refine wpList_append_own _ rfl (.tmp 13) (.tmp 15) 23 rfl W.heap.size 28 i0 (.agg #[.int .i64 0, .int .i64 0]) 2 16 Try.underlying23 hi0 hz0 hz1 hz2 rfl (by decide) _ _ _ rfl (HO2.out.alloc _) ⟨w2.heap.size, 0, none⟩ 1 1 [.int .i64 x, .int .i64 y] rfl rfl (cell_two_newQ _ _ _ _) (two_oneCellQ _ _) (by unfold maxLen; omega) (by omega) (by have := HB2.out.size; have := HW2.out; simp; omega) ?_); intro v9 w9 hown9 hgrow9 hnil9; have HO9 := Lib.hid hown9; have HB9 := Lib.hid ((HB2.out.alloc HB2.out.size _).grown hgrow9 (by have := HB2.out.size; simp; omega) (fun g hg => by have := (HO2.out.lt g hg).1; omega)); clear hown9 hgrow9 hnil9)
    have HOWN := Lib.hid (show OwnQy w9 w.heap.size w9.heap.size v9 (n + 1) R from OwnQy.of (lo := W.heap.size) (by rw [HE1.out, qryRow_snoc]; exact HO9.out) (Nat.le_of_lt hWs) HB9.out.size)
    refine (HQV.out _ _ _ _ _ HOWN.out).mono ?_
    rintro e w10 ⟨rfl, hb10⟩
    have HB10 := Lib.hid (HB9.out.trans (hb10.mono HB9.out.size))
    have HOW10 := Lib.hid (HOWN.out.below hb10)
    have hs10 := hb10.size
    clear hb10 q0 q1 HO2 HX2 HB2 HO9
    cases b
    · obtain rfl : RO = [] := HRO.out
      go_wp2_with fail
      go_returns
      exact ⟨_, 0, rfl, OwnQy.nil _ HB10.out.size, HB10.out⟩
    · obtain rfl : RO = R := HRO.out
      go_wp2_with fail
      go_returns
      exact ⟨_, _, rfl, HOW10.out.wide (Nat.le_refl _) hs10 (Nat.le_refl _), HB10.out⟩
  · have e1 : R = l := by rw [HR.out]; rfl
    have HOWN := Lib.hid (show OwnQy w2 w.heap.size w2.heap.size (.slice a1 n c1) n R from OwnQy.of (lo := W.heap.size) (by rw [e1]; exact HO2.out) (Nat.le_of_lt hWs) HB2.out.size)
    clear e1
    go_wp2_with fail
    refine (HQV.out _ _ _ _ _ HOWN.out).mono ?_
    rintro e w10 ⟨rfl, hb10⟩
    have HB10 := Lib.hid (HB2.out.trans (hb10.mono HB2.out.size))
    have HOW10 := Lib.hid (HOWN.out.below hb10)
    have hs10 := hb10.size
    clear hb10 q0 q1 HO2 HX2 HB2
    cases b
    · obtain rfl : RO = [] := HRO.out
      go_wp2_with fail
      go_returns
      exact ⟨_, 0, rfl, OwnQy.nil _ HB10.out.size, HB10.out⟩
    · obtain rfl : RO = R := HRO.out
      go_wp2_with fail
      go_returns
      exact ⟨_, _, rfl, HOW10.out.wide (Nat.le_refl _) hs10 (Nat.le_refl _), HB10.out⟩
end Go.Proofs.Ytofpnmjadflebaa
