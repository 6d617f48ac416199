/-
  Aggregates that the model draws: a fold of items that are drawn, one field of it replaced at times.
-/
import Derived.Test.YtfmkjpbmaogjpaaGreatDq
import Derived.Test.YtfmkjpbmaogjpaaGreatG1
import Derived.Test.YtfmkjpbmaogjpaaGreatG2
import Derived.Test.YtfmkjpbmaogjpaaGreatG3
import Derived.Test.YtfmkjpbmaogjpaaGreatG4
import Derived.Test.YtfmkjpbmaogjpaaGreatMa
namespace Go.Proofs.YtfmkjpbmaogjpaaGreat
set_option linter.unusedSimpArgs false
set_option linter.unusedVariables false
open Go.RowKit

theorem Nums.of_drawn {w : World} {base e n : Nat} {v : Value} {l : List Int} (h : w.ownsRow base e 1 v n (l.map (Value.int .i64))) (hv : v ≠ .slice none 0 0) : ∃ b cap, v = .slice (some ⟨b, 0, none⟩) n cap ∧ Nums .i64 w (some ⟨b, 0, none⟩) n cap l := by
  rcases h.2 with ⟨rfl, rfl⟩ | ⟨g, cap, cur, rfl, -, hg, h1, h2, -⟩
  · exact absurd rfl hv
  · exact ⟨g, cap, rfl, Nums.of_owns (g := g) h⟩

theorem grown_set {a b : World} {c d o : Nat} {v : Value} (h : a.grownBy b (some c)) (hd : a.heap.size ≤ d) : a.grownBy (b.setCell ⟨d, o, none⟩ v) (some c) :=
  ⟨h.os, h.tape, h.output, by have := h.size; simpa [World.setCell] using this, fun i hi hne => (Below.heap_setCell _ _ _ _ (by show i ≠ d; omega)).trans (h.block i hi hne)⟩
theorem rd_set {w : World} {B c d o : Nat} {p : Int} {v : Value} (h : Rd w B c p) (hd : c < d) : Rd (w.setCell ⟨d, o, none⟩ v) B c p := by
  obtain ⟨h1, h2, h3, a, n, cap, l, h4, h5, h6⟩ := h
  refine ⟨h1, by simpa [World.setCell] using h2, h3, a, n, cap, l, (Below.heap_setCell _ _ _ _ (by show c ≠ d; omega)).trans h4, h5, ?_⟩
  rcases h6 with h6 | ⟨b, off, ha, hb, hc⟩
  · exact .inl h6
  · exact .inr ⟨b, off, ha, hb, fun i hi => ⟨(World.cell?_of_block (Below.heap_setCell _ _ _ _ (by show b ≠ d; omega))).trans (hc i hi).1, (hc i hi).2⟩⟩
theorem rd_below {w w' : World} {B c : Nat} {p : Int} (h : Rd w B c p) (hb : Below w.heap.size w w') : Rd w' B c p := by
  obtain ⟨h1, h2, h3, a, n, cap, l, h4, h5, h6⟩ := h
  refine ⟨h1, Nat.lt_of_lt_of_le h2 hb.size, h3, a, n, cap, l, (hb.block c h2).trans h4, h5, ?_⟩
  rcases h6 with h6 | ⟨b, off, ha, hb2, hc⟩
  · exact .inl h6
  · exact .inr ⟨b, off, ha, hb2, fun i hi => ⟨(World.cell?_of_block (hb.block b (by omega))).trans (hc i hi).1, (hc i hi).2⟩⟩
theorem grown_call {a b d : World} {c : Nat} (h : a.grownBy b (some c)) (hb : Below b.heap.size b d) : a.grownBy d (some c) :=
  ⟨hb.os.trans h.os, hb.tape.trans h.tape, hb.output.trans h.output, Nat.le_trans h.size hb.size, fun i hi hne => (hb.block i (Nat.lt_of_lt_of_le hi h.size)).trans (h.block i hi hne)⟩

theorem Box.grown {w w' : World} {c d : Nat} {T : TypeId} {x y z : Int} (h : Box w d T x y z) (hg : w.grownBy w' (some c)) (hd : d ≠ c) : Box w' d T x y z := (hg.block d h.lt (fun e => hd (Option.some.inj e))).trans h

theorem s_fold_any (k : Int) (hk : Agg.isKind k = true) (a : Option Addr) (n cap : Nat) (l : List Int) (w : World) (h : Nums .i64 w a n cap l) (hi : Agg.itemsOk l = true) :
    Calls Tryz.prog 68 #[.int .i64 k, .slice a n cap] w fun e w' => e = .returned (.agg #[.int .i64 (Agg.fold k l).x, .int .i64 (Agg.fold k l).y, .int .i64 (Agg.fold k l).z]) ∧ Below w.heap.size w w' := by
  rcases Agg.kinds hk with rfl | rfl | rfl | rfl | rfl | rfl | rfl | rfl | rfl | rfl
  · exact s_fold_1 a n cap l w h hi
  · exact s_fold_2 a n cap l w h hi
  · exact s_fold_3 a n cap l w h hi
  · exact s_fold_4 a n cap l w h hi
  · exact s_fold_5 a n cap l w h hi
  · exact s_fold_6 a n cap l w h hi
  · exact s_fold_7 a n cap l w h hi
  · exact s_fold_8 a n cap l w h hi
  · exact s_fold_9 a n cap l w h hi
  · exact s_fold_10 a n cap l w h hi

/-- An aggregate is drawn: its fields are not great; the reader is some steps further. -/
def ValDrawn (B c : Nat) (p : Int) (w : World) (e : Ending) (w' : World) : Prop :=
  ∃ (x y z p' : Int), e = .returned (.agg #[.int .i64 x, .int .i64 y, .int .i64 z]) ∧ Agg.few ⟨x, y, z⟩ ∧ p ≤ p' ∧ p' ≤ p + 10 ∧ Rd w' B c p' ∧ w.grownBy w' (some c)

set_option maxHeartbeats 4000000 in
theorem l1Value_any (k : Int) (hk : Agg.isKind k = true) (B c : Nat) (p : Int) (w : World) (h : Rd w B c p) (hp : p ≤ 800000) :
    Calls Tryz.prog 50 #[.pointer (some ⟨c, 0, none⟩), .int .i64 k] w (ValDrawn B c p w) := by
  have hlt := h.2.1
  have HR := Lib.hid h; clear h
  go_enter Tryz.func50, Tryz.ntmps50
  go_wp2_with fail
  refine (l1List_any 4 B c p _ (HR.out.kept (World.grownBy_alloc _ _ _)) (by omega) (by omega) (by omega)).mono ?_
  rintro e w1 ⟨vv, n, xs, p1, rfl, hvv, ho, hn, hxs, hp1, hq1, hr1, hg1⟩
  obtain ⟨b, cap, rfl, hnums⟩ := Nums.of_drawn ho hvv
  clear hvv
  have hxl : xs.length = n := hnums.1
  have hi : Agg.itemsOk xs = true := Agg.items_of (by omega) (fun x hx => by have := hxs x hx; simp [Agg.isItem]; omega)
  have hfew : Agg.few (Agg.fold k xs) := Agg.small_few hk (Agg.small_fold_all hk hi) (by omega) (by omega)
  have hs1 := hg1.size
  simp at hs1
  have HR1 := Lib.hid hr1; clear hr1
  have HN1 := Lib.hid hnums; clear hnums ho hxs
  have hbox : w1.heap[w.heap.size]? = some (.cells #[.int .i64 0, .int .i64 0, .int .i64 0] 24 (0, 0)) := (hg1.block _ (by simp) (by simp; omega)).trans (heap_alloc_new w _)
  have HG1 := Lib.hid (grown_trans (grown_alloc (grown_refl w c) _) hg1); clear hg1
  go_wp2_with fail
  refine (s_fold_any k hk _ _ _ xs _ HN1.out hi).mono ?_
  rintro e w2 ⟨rfl, hb2⟩
  obtain ⟨⟨x, y, z⟩, hV⟩ : ∃ V, V = Agg.fold k xs := ⟨_, rfl⟩
  rw [← hV] at hfew ⊢
  clear hV
  obtain ⟨f1, f2, f3⟩ := hfew
  simp only at f1 f2 f3
  have hs2 := hb2.size
  have hr2 : Box w2 w.heap.size 24 0 0 0 := (hb2.block _ (by omega)).trans hbox
  clear hbox
  have HV := Lib.hid (Box.new w2 24 x y z)
  have HZ := Lib.hid (hr2.below ((Below.refl (w2.heap.size) w2).alloc (Nat.le_refl _) (.cells #[.int .i64 x, .int .i64 y, .int .i64 z] 24)) (by omega))
  clear hr2
  have HR2 := Lib.hid ((rd_below HR1.out hb2).kept (World.grownBy_alloc w2 (.cells #[.int .i64 x, .int .i64 y, .int .i64 z] 24) none))
  have HG2 := Lib.hid (grown_alloc (grown_call HG1.out hb2) (.cells #[.int .i64 x, .int .i64 y, .int .i64 z] 24))
  clear hb2
  clear HR1 HN1 HG1
  go_wp2_with fail
  refine (pick_any 24 B c p1 _ HR2.out (by omega) (by omega)).mono ?_
  rintro e w3 ⟨u, rfl, hu0, hu1, -, hr3, hg3⟩
  have hs3 := hg3.size
  simp at hs3
  have HV3 := Lib.hid (HV.out.grown hg3 (by omega))
  have HZ3 := Lib.hid (HZ.out.grown hg3 (by omega))
  have HR3 := Lib.hid hr3
  have HG3 := Lib.hid (grown_trans HG2.out hg3)
  clear hr3 hg3 HV HZ HR2 HG2 hu1
  obtain ⟨d, hd⟩ : ∃ d, d = w2.heap.size := ⟨_, rfl⟩
  rw [← hd] at HV3 ⊢
  have hwd : w.heap.size < d := by omega
  have hcd : c < d := by omega
  have hd3 : d < w3.heap.size := by omega
  clear hs3 hd
  by_cases h0 : u = 0
  · subst h0
    go_wp2_with fail
    refine (num_any w3.heap.size 4 [97, -1, 5, 0] B c (p1 + 1) _ (HR3.out.kept (World.grownBy_alloc _ _ _)) (by omega) (ListAt.new w3 [97, -1, 5, 0] _) (by omega) (by decide) (by decide)).mono ?_
    rintro e w4 ⟨m, rfl, hm, hr4, hg4⟩
    have hs4 := hg4.size
    simp at hs4
    have hm2 : m ≤ 1000 := by simp at hm; omega
    have HV4 := Lib.hid ((HV3.out.below ((Below.refl w3.heap.size w3).alloc (Nat.le_refl _) _) (by omega)).grown hg4 (by omega))
    have HZ4 := Lib.hid ((HZ3.out.below ((Below.refl w3.heap.size w3).alloc (Nat.le_refl _) _) (by omega)).grown hg4 (by omega))
    have HR4 := Lib.hid hr4
    have HG4 := Lib.hid (grown_trans (grown_alloc HG3.out _) hg4)
    clear hr4 hg4 hm HV3 HZ3 HR3 HG3
    obtain ⟨q0, q1, q2⟩ := HV4.out.cells
    obtain ⟨r0, r1, r2⟩ := HZ4.out.cells
    have z0 := HZ4.out.free 0
    have z1 := HZ4.out.free 1
    have z2 := HZ4.out.free 2
    have y0 := HV4.out.free 0
    have y1 := HV4.out.free 1
    have y2 := HV4.out.free 2
    go_wp2_with fail
    refine bodyPost_ret (by simp [results, Tryz.results50, go_sem, *]; try rfl) rfl ?_
    exact ⟨m, y, z, p1 + 1 + 1, rfl, ⟨hm2, f2, f3⟩, by omega, by omega, rd_set (rd_set (rd_set (rd_set HR4.out (by omega)) (by omega)) (by omega)) (by omega), grown_set (grown_set (grown_set (grown_set HG4.out (by omega)) (Nat.le_refl _)) (Nat.le_refl _)) (Nat.le_refl _)⟩
  · by_cases h1 : u = 1
    · subst h1
      go_wp2_with fail
      refine (num_any w3.heap.size 4 [2, -1, 97, 1] B c (p1 + 1) _ (HR3.out.kept (World.grownBy_alloc _ _ _)) (by omega) (ListAt.new w3 [2, -1, 97, 1] _) (by omega) (by decide) (by decide)).mono ?_
      rintro e w4 ⟨m, rfl, hm, hr4, hg4⟩
      have hs4 := hg4.size
      simp at hs4
      have hm2 : m ≤ 1000 := by simp at hm; omega
      have HV4 := Lib.hid ((HV3.out.below ((Below.refl w3.heap.size w3).alloc (Nat.le_refl _) _) (by omega)).grown hg4 (by omega))
      have HZ4 := Lib.hid ((HZ3.out.below ((Below.refl w3.heap.size w3).alloc (Nat.le_refl _) _) (by omega)).grown hg4 (by omega))
      have HR4 := Lib.hid hr4
      have HG4 := Lib.hid (grown_trans (grown_alloc HG3.out _) hg4)
      clear hr4 hg4 hm HV3 HZ3 HR3 HG3
      obtain ⟨q0, q1, q2⟩ := HV4.out.cells
      obtain ⟨r0, r1, r2⟩ := HZ4.out.cells
      have z0 := HZ4.out.free 0
      have z1 := HZ4.out.free 1
      have z2 := HZ4.out.free 2
      have y0 := HV4.out.free 0
      have y1 := HV4.out.free 1
      have y2 := HV4.out.free 2
      go_wp2_with fail
      refine bodyPost_ret (by simp [results, Tryz.results50, go_sem, *]; try rfl) rfl ?_
      exact ⟨x, m, z, p1 + 1 + 1, rfl, ⟨f1, hm2, f3⟩, by omega, by omega, rd_set (rd_set (rd_set (rd_set HR4.out (by omega)) (by omega)) (by omega)) (by omega), grown_set (grown_set (grown_set (grown_set HG4.out (by omega)) (Nat.le_refl _)) (Nat.le_refl _)) (Nat.le_refl _)⟩
    · by_cases h2 : u = 2
      · subst h2
        go_wp2_with fail
        refine (num_any w3.heap.size 3 [1, -1, 3] B c (p1 + 1) _ (HR3.out.kept (World.grownBy_alloc _ _ _)) (by omega) (ListAt.new w3 [1, -1, 3] _) (by omega) (by decide) (by decide)).mono ?_
        rintro e w4 ⟨m, rfl, hm, hr4, hg4⟩
        have hs4 := hg4.size
        simp at hs4
        have hm2 : m ≤ 1000 := by simp at hm; omega
        have HV4 := Lib.hid ((HV3.out.below ((Below.refl w3.heap.size w3).alloc (Nat.le_refl _) _) (by omega)).grown hg4 (by omega))
        have HZ4 := Lib.hid ((HZ3.out.below ((Below.refl w3.heap.size w3).alloc (Nat.le_refl _) _) (by omega)).grown hg4 (by omega))
        have HR4 := Lib.hid hr4
        have HG4 := Lib.hid (grown_trans (grown_alloc HG3.out _) hg4)
        clear hr4 hg4 hm HV3 HZ3 HR3 HG3
        obtain ⟨q0, q1, q2⟩ := HV4.out.cells
        obtain ⟨r0, r1, r2⟩ := HZ4.out.cells
        have z0 := HZ4.out.free 0
        have z1 := HZ4.out.free 1
        have z2 := HZ4.out.free 2
        have y0 := HV4.out.free 0
        have y1 := HV4.out.free 1
        have y2 := HV4.out.free 2
        go_wp2_with fail
        refine bodyPost_ret (by simp [results, Tryz.results50, go_sem, *]; try rfl) rfl ?_
        exact ⟨x, y, m, p1 + 1 + 1, rfl, ⟨f1, f2, hm2⟩, by omega, by omega, rd_set (rd_set (rd_set (rd_set HR4.out (by omega)) (by omega)) (by omega)) (by omega), grown_set (grown_set (grown_set (grown_set HG4.out (by omega)) (Nat.le_refl _)) (Nat.le_refl _)) (Nat.le_refl _)⟩
      · obtain ⟨q0, q1, q2⟩ := HV3.out.cells
        obtain ⟨r0, r1, r2⟩ := HZ3.out.cells
        have z0 := HZ3.out.free 0
        have z1 := HZ3.out.free 1
        have z2 := HZ3.out.free 2
        go_wp2_with fail
        refine bodyPost_ret (by simp [results, Tryz.results50, go_sem, *]; try rfl) rfl ?_
        exact ⟨x, y, z, p1 + 1, rfl, ⟨f1, f2, f3⟩, by omega, by omega, rd_set (rd_set (rd_set HR3.out (by omega)) (by omega)) (by omega), grown_set (grown_set (grown_set HG3.out (Nat.le_refl _)) (Nat.le_refl _)) (Nat.le_refl _)⟩
end Go.Proofs.YtfmkjpbmaogjpaaGreat
