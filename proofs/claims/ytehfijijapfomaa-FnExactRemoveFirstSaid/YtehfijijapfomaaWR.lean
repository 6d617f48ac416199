/-
  The exact law of RemoveFirst, walked.
-/
import Derived.Test.YtehfijijapfomaaV
import Derived.Test.YtehfijijapfomaaO
namespace Go.Proofs.Ytehfijijapfomaa
set_option linter.unusedSimpArgs false
set_option linter.unusedVariables false
open Go.RowKit
set_option maxHeartbeats 16000000 in
theorem law_FnExactRemoveFirst (k ax ay az bx by' bz : Int) (w : World) :
    Calls Try.prog 8 #[.int .i64 k, .agg #[.int .i64 ax, .int .i64 ay, .int .i64 az], .agg #[.int .i64 bx, .int .i64 by', .int .i64 bz]] w fun e w' => e = .returned (.bool true) ∧ Below w.heap.size w w' := by
  obtain ⟨⟨v, b⟩, hb⟩ : ∃ p, p = Agg.aRest k ⟨ax, ay, az⟩ ⟨bx, by', bz⟩ := ⟨_, rfl⟩
  have h1 := fun w => s_removeFirst_any k ax ay az bx by' bz w
  have h2 := fun w => removeFirst_any k ax ay az bx by' bz w
  rw [← hb] at h1 h2
  have H1 := Lib.hid h1
  have H2 := Lib.hid h2
  clear h1 h2 hb
  go_enter Try.func8, Try.ntmps8
  go_upto_region 1 with fail
  have Q0 : ((w.alloc (.cells #[.int .i64 ax, .int .i64 ay, .int .i64 az] 24)).alloc (.cells #[.int .i64 bx, .int .i64 by', .int .i64 bz] 24)).cell? ⟨w.heap.size, 0, none⟩ = some (.int .i64 ax) := by simp
  have Q1 : ((w.alloc (.cells #[.int .i64 ax, .int .i64 ay, .int .i64 az] 24)).alloc (.cells #[.int .i64 bx, .int .i64 by', .int .i64 bz] 24)).cell? ⟨w.heap.size, 1, none⟩ = some (.int .i64 ay) := by simp
  have Q2 : ((w.alloc (.cells #[.int .i64 ax, .int .i64 ay, .int .i64 az] 24)).alloc (.cells #[.int .i64 bx, .int .i64 by', .int .i64 bz] 24)).cell? ⟨w.heap.size, 2, none⟩ = some (.int .i64 az) := by simp
  have Q3 : ((w.alloc (.cells #[.int .i64 ax, .int .i64 ay, .int .i64 az] 24)).alloc (.cells #[.int .i64 bx, .int .i64 by', .int .i64 bz] 24)).cell? ⟨w.heap.size + 1, 0, none⟩ = some (.int .i64 bx) := by simp
  have Q4 : ((w.alloc (.cells #[.int .i64 ax, .int .i64 ay, .int .i64 az] 24)).alloc (.cells #[.int .i64 bx, .int .i64 by', .int .i64 bz] 24)).cell? ⟨w.heap.size + 1, 1, none⟩ = some (.int .i64 by') := by simp
  have Q5 : ((w.alloc (.cells #[.int .i64 ax, .int .i64 ay, .int .i64 az] 24)).alloc (.cells #[.int .i64 bx, .int .i64 by', .int .i64 bz] 24)).cell? ⟨w.heap.size + 1, 2, none⟩ = some (.int .i64 bz) := by simp
  have hBW : Below w.heap.size w ((w.alloc (.cells #[.int .i64 ax, .int .i64 ay, .int .i64 az] 24)).alloc (.cells #[.int .i64 bx, .int .i64 by', .int .i64 bz] 24)) := ((Below.refl _ _).alloc (Nat.le_refl _) _).alloc (by simp) _
  have Q7 : w.heap.size + 1 < ((w.alloc (.cells #[.int .i64 ax, .int .i64 ay, .int .i64 az] 24)).alloc (.cells #[.int .i64 bx, .int .i64 by', .int .i64 bz] 24)).heap.size := by simp
  generalize ((w.alloc (.cells #[.int .i64 ax, .int .i64 ay, .int .i64 az] 24)).alloc (.cells #[.int .i64 bx, .int .i64 by', .int .i64 bz] 24)) = W at Q0 Q1 Q2 Q3 Q4 Q5 Q7 hBW ⊢
  have Q6 : w.heap.size < W.heap.size := by omega
  go_cut [7, 8] (fun s s' wx => ∃ c : Nat, s = .pointer (some ⟨c, 0, none⟩) ∧ s' = .bool b ∧ Got W wx c v)
  case first =>
    have HT : Since W W := Since.refl W
    have HN : NewAt W.heap.size W none := trivial
    have q0 := Q0
    have q1 := Q1
    have q2 := Q2
    have q3 := Q3
    have q4 := Q4
    have q5 := Q5
    go_region_with (first | (go_at_call 36; refine (toValue_any _ _ _ _).mono ?_; rintro e w2 ⟨rfl, hb2⟩; have HN := NewAt.call (by first | exact NewAt.fresh HT.2 | exact (NewAt.fresh HT.2).drew | exact HN | exact HN.drew) hb2; have HT := Since.call (by first | exact HT | exact HT.alloc _ | exact HT.drew | exact (HT.alloc _).drew) hb2; have hs2 : w.heap.size + 1 < w2.heap.size := (by have := HT.2; omega); have ht2 : w.heap.size < w2.heap.size := (by omega); have q0 := HT.cell Q0 Q6; have q1 := HT.cell Q1 Q6; have q2 := HT.cell Q2 Q6; have q3 := HT.cell Q3 Q7; have q4 := HT.cell Q4 Q7; have q5 := HT.cell Q5 Q7; (try (obtain ⟨gl, n0, n1, n2, g0, g1, g2, gs⟩ := id HN)); clear hb2) | (go_at_call 35; refine (H1.out _).mono ?_; rintro e w2 ⟨rfl, hb2⟩; have HN := NewAt.call (by first | exact NewAt.fresh HT.2 | exact (NewAt.fresh HT.2).drew | exact HN | exact HN.drew) hb2; have HT := Since.call (by first | exact HT | exact HT.alloc _ | exact HT.drew | exact (HT.alloc _).drew) hb2; have hs2 : w.heap.size + 1 < w2.heap.size := (by have := HT.2; omega); have ht2 : w.heap.size < w2.heap.size := (by omega); have q0 := HT.cell Q0 Q6; have q1 := HT.cell Q1 Q6; have q2 := HT.cell Q2 Q6; have q3 := HT.cell Q3 Q7; have q4 := HT.cell Q4 Q7; have q5 := HT.cell Q5 Q7; (try (obtain ⟨gl, n0, n1, n2, g0, g1, g2, gs⟩ := id HN)); clear hb2))
    all_goals (go_wp2_with fail; go_meet; first | exact ⟨_, rfl, rfl, Got.new HT⟩ | exact ⟨_, rfl, rfl, Got.set HT gl n0 n1 n2 gs⟩)
  case rest =>
    obtain ⟨c, rfl, rfl, hcW, hcx, n0, n1, n2, HS⟩ := hcut
    have Q0 := HS.cell Q0 Q6
    have Q1 := HS.cell Q1 Q6
    have Q2 := HS.cell Q2 Q6
    have Q3 := HS.cell Q3 Q7
    have Q4 := HS.cell Q4 Q7
    have Q5 := HS.cell Q5 Q7
    have hBx : Below w.heap.size w wc := hBW.trans (HS.1.mono (by omega))
    have Q7 : w.heap.size + 1 < wc.heap.size := by have := HS.2; omega
    have Q6 : w.heap.size < wc.heap.size := by omega
    clear HS hcW
    obtain ⟨W, hW⟩ : ∃ W, W = wc := ⟨_, rfl⟩
    subst hW
    go_upto_region 2 with fail
    go_cut [9, 10] (fun s s' wx => ∃ c : Nat, s = .pointer (some ⟨c, 0, none⟩) ∧ s' = .bool b ∧ Got W wx c v)
    case first =>
      have HT : Since W W := Since.refl W
      have HN : NewAt W.heap.size W none := trivial
      have q0 := Q0
      have q1 := Q1
      have q2 := Q2
      have q3 := Q3
      have q4 := Q4
      have q5 := Q5
      go_region_with (first | (go_at_call 36; refine (toValue_any _ _ _ _).mono ?_; rintro e w2 ⟨rfl, hb2⟩; have HN := NewAt.call (by first | exact NewAt.fresh HT.2 | exact (NewAt.fresh HT.2).drew | exact HN | exact HN.drew) hb2; have HT := Since.call (by first | exact HT | exact HT.alloc _ | exact HT.drew | exact (HT.alloc _).drew) hb2; have hs2 : w.heap.size + 1 < w2.heap.size := (by have := HT.2; omega); have ht2 : w.heap.size < w2.heap.size := (by omega); have q0 := HT.cell Q0 Q6; have q1 := HT.cell Q1 Q6; have q2 := HT.cell Q2 Q6; have q3 := HT.cell Q3 Q7; have q4 := HT.cell Q4 Q7; have q5 := HT.cell Q5 Q7; (try (obtain ⟨gl, n0, n1, n2, g0, g1, g2, gs⟩ := id HN)); clear hb2) | (go_at_call 37; refine (H2.out _).mono ?_; rintro e w2 ⟨rfl, hb2⟩; have HN := NewAt.call (by first | exact NewAt.fresh HT.2 | exact (NewAt.fresh HT.2).drew | exact HN | exact HN.drew) hb2; have HT := Since.call (by first | exact HT | exact HT.alloc _ | exact HT.drew | exact (HT.alloc _).drew) hb2; have hs2 : w.heap.size + 1 < w2.heap.size := (by have := HT.2; omega); have ht2 : w.heap.size < w2.heap.size := (by omega); have q0 := HT.cell Q0 Q6; have q1 := HT.cell Q1 Q6; have q2 := HT.cell Q2 Q6; have q3 := HT.cell Q3 Q7; have q4 := HT.cell Q4 Q7; have q5 := HT.cell Q5 Q7; (try (obtain ⟨gl, n0, n1, n2, g0, g1, g2, gs⟩ := id HN)); clear hb2))
      all_goals (go_wp2_with fail; go_meet; first | exact ⟨_, rfl, rfl, Got.new HT⟩ | exact ⟨_, rfl, rfl, Got.set HT gl n0 n1 n2 gs⟩)
    case rest =>

      obtain ⟨d, rfl, rfl, hdW, hdx, m0, m1, m2, HS⟩ := hcut
      have n0 := HS.cell n0 hcx
      have n1 := HS.cell n1 hcx
      have n2 := HS.cell n2 hcx
      have hBx := hBx.trans (HS.1.mono (by omega))
      clear HS Q0 Q1 Q2 Q3 Q4 Q5
      cases b
      all_goals
        go_wp2_with (go_at_call 38; refine (eqValue_same _ _ _ _).mono ?_; rintro e w3 ⟨rfl, hb3⟩)
        go_returns
        exact ⟨rfl, hBx.trans (hb3.mono (by have := hBx.size; omega))⟩
end Go.Proofs.Ytehfijijapfomaa
