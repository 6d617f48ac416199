/-
  Laws of divisors, counts and costs.
-/
import Derived.Test.Ytohllpdmopofoaa5c
import Derived.Deep.RegionHeld3
import Derived.Deep.RegionWith
namespace Go.Proofs.Ytohllpdmopofoaa
set_option linter.unusedSimpArgs false
set_option linter.unusedVariables false
open Go.RowKit
theorem Agg.gcd_comm5 (a b : Int) : Agg.gcdA b a = Agg.gcdA a b ∧ Agg.gcdOk b a = Agg.gcdOk a b := by
  have h : Agg.gcdOk b a = Agg.gcdOk a b := by simp [Agg.gcdOk, Bool.and_comm]
  refine ⟨?_, h⟩
  unfold Agg.gcdA
  rw [h, Nat.gcd_comm]
set_option maxRecDepth 8000 in
set_option maxHeartbeats 1000000 in
theorem law_FnGcdOf (a : Option Addr) (n cap : Nat) (zs : List Int) (w : World) (hrow : IsRow .u8 w a n cap zs) :
    Calls Try.prog 3 #[.slice a n cap] w fun e w' => e = .returned (.bool true) ∧ Below w.heap.size w w' := by
  have HB := Lib.hid (Bytes.of_row hrow)
  have hm : cap ≤ 9223372036854775807 := HB.out.2.1
  have hnc : n ≤ cap := HB.out.1
  clear hrow
  by_cases hn : n ≤ 1048576
  · go_enter Try.func3, Try.ntmps3
    go_wp2_with fail
    refine (drawGcdOf_any _ _ _ _ _ HB.out).mono ?_
    rintro e w1 ⟨p, q, rfl, hb1⟩
    have hs1 := hb1.size
    have HW1 := Lib.hid hb1
    clear hb1
    have h1 := fun w => gcdOf_any p q w
    have h2 := fun w => s_gcdOf_any p q w
    have h3 := fun w => gcdOf_any q p w
    rw [(Agg.gcd_comm5 p q).1, (Agg.gcd_comm5 p q).2] at h3
    cases ho : Agg.gcdOk p q
    · rw [ho] at h1 h2 h3
      have hg : Agg.gcdA p q = 0 := by simp [Agg.gcdA, ho]
      rw [hg] at h1 h2 h3
      have H1 := Lib.hid h1
      have H2 := Lib.hid h2
      have H3 := Lib.hid h3
      clear h1 h2 h3 ho hg
      go_wp2_with fail
      refine (H1.out _).mono ?_
      rintro e w2 ⟨rfl, hb2⟩
      have HW2 := Lib.hid (HW1.out.trans (hb2.mono hs1))
      have hs2 := HW2.out.size
      clear hb2
      go_wp2_with fail
      refine (H2.out _).mono ?_
      rintro e w3 ⟨rfl, hb3⟩
      have HW3 := Lib.hid (HW2.out.trans (hb3.mono hs2))
      have hs3 := HW3.out.size
      clear hb3
      go_wp2_with fail
      refine (H3.out _).mono ?_
      rintro e w4 ⟨rfl, hb4⟩
      have HW4 := Lib.hid (HW3.out.trans (hb4.mono hs3))
      clear hb4
      go_wp2_with fail
      go_returns
      exact ⟨rfl, HW4.out⟩
    · have hab : 1 ≤ p ∧ p ≤ 1000000 ∧ 1 ≤ q ∧ q ≤ 1000000 := by simp [Agg.gcdOk] at ho; omega
      obtain ⟨ha1, ha2, hb1, hb2⟩ := hab
      obtain ⟨x, rfl⟩ := Int.eq_ofNat_of_zero_le (show 0 ≤ p by omega)
      obtain ⟨y, rfl⟩ := Int.eq_ofNat_of_zero_le (show 0 ≤ q by omega)
      rw [ho, Agg.gcdA_of ho] at h1 h2 h3
      obtain ⟨g1, g2⟩ := Agg.gcd_le (x := x) (y := y) (by omega)
      have hd1 : x % Nat.gcd x y = 0 := Nat.mod_eq_zero_of_dvd (Nat.gcd_dvd_left _ _)
      have hd2 : y % Nat.gcd x y = 0 := Nat.mod_eq_zero_of_dvd (Nat.gcd_dvd_right _ _)
      have hmax : ∀ m : Nat, x % m = 0 → y % m = 0 → m ≤ Nat.gcd x y := fun m e1 e2 => Nat.le_of_dvd (by omega) (Nat.dvd_gcd (Nat.dvd_of_mod_eq_zero e1) (Nat.dvd_of_mod_eq_zero e2))
      obtain ⟨G, hG⟩ : ∃ G, G = Nat.gcd x y := ⟨_, rfl⟩
      rw [← hG] at h1 h2 h3 g1 g2 hd1 hd2 hmax
      have H1 := Lib.hid h1
      have H2 := Lib.hid h2
      have H3 := Lib.hid h3
      have HM := Lib.hid hmax
      have D1 := Lib.hid hd1
      have D2 := Lib.hid hd2
      clear h1 h2 h3 ho hG hmax hd1 hd2
      go_wp2_with fail
      refine (H1.out _).mono ?_
      rintro e w2 ⟨rfl, hb2'⟩
      have HW2 := Lib.hid (HW1.out.trans (hb2'.mono hs1))
      have hs2 := HW2.out.size
      clear hb2'
      go_wp2_with fail
      refine (H2.out _).mono ?_
      rintro e w3 ⟨rfl, hb3⟩
      have HW3 := Lib.hid (HW2.out.trans (hb3.mono hs2))
      have hs3 := HW3.out.size
      clear hb3
      go_wp2_with fail
      refine (H3.out _).mono ?_
      rintro e w4 ⟨rfl, hb4⟩
      have HW4 := Lib.hid (HW3.out.trans (hb4.mono hs3))
      clear hb4
      go_wp2_with fail
      go_loopw [11] (fun i wr => ∃ j : Nat, G + 1 ≤ j ∧ j ≤ G + 51 ∧ i = .int .i64 j ∧ Hid (Below w.heap.size w wr)) (fun i _ => G + 51 - (intOf i).toNat)
      case atStart => exact ⟨G + 1, by omega, by omega, by go_num, HW4⟩
      case round =>
        obtain ⟨j, hj1, hj2, rfl, hw⟩ := hrel
        by_cases hlt : j ≤ G + 50
        · have hj0 : ¬ ((j : Int) = 0) := by omega
          have hj3 : 1 ≤ (j : Int) := by omega
          have hj4 : (j : Int) ≤ (G : Int) + 50 := by omega
          by_cases hx : x % j = 0
          · have hy : ¬ (y % j = 0) := fun hy => by have := HM.out j hx hy; omega
            have hx' : ((x : Int) % (j : Int)) = 0 := by exact_mod_cast hx
            have hy' : ¬ (((y : Int) % (j : Int)) = 0) := fun h => hy (by exact_mod_cast h)
            clear hx hy
            go_wp2_with fail
            go_roundw
            case rel => exact ⟨j + 1, by omega, by omega, by go_num, hw⟩
            case measure => simp [intOf]; omega
          · have hx' : ¬ (((x : Int) % (j : Int)) = 0) := fun h => hx (by exact_mod_cast h)
            clear hx
            go_wp2_with fail
            go_roundw
            case rel => exact ⟨j + 1, by omega, by omega, by go_num, hw⟩
            case measure => simp [intOf]; omega
        · obtain rfl : j = G + 51 := by omega
          have hj4 : ¬ (((G + 51 : Nat) : Int) ≤ (G : Int) + 50) := by omega
          have hd1' : ((x : Int) % (G : Int)) = 0 := by exact_mod_cast D1.out
          have hd2' : ((y : Int) % (G : Int)) = 0 := by exact_mod_cast D2.out
          have hG0 : ¬ ((G : Int) = 0) := by omega
          have hG1 : 1 ≤ (G : Int) := by omega
          go_wp2_with fail
          go_returns
          exact ⟨rfl, hw.out⟩
  · go_enter Try.func3, Try.ntmps3
    go_wp2
    go_returns
    exact ⟨rfl, Below.refl _ _⟩
set_option maxRecDepth 8000 in
set_option maxHeartbeats 1000000 in
theorem law_FnGcdMultiple (a : Option Addr) (n cap : Nat) (zs : List Int) (w : World) (hrow : IsRow .u8 w a n cap zs) :
    Calls Try.prog 4 #[.slice a n cap] w fun e w' => e = .returned (.bool true) ∧ Below w.heap.size w w' := by
  have HB := Lib.hid (Bytes.of_row hrow)
  have hm : cap ≤ 9223372036854775807 := HB.out.2.1
  have hnc : n ≤ cap := HB.out.1
  clear hrow
  by_cases hn : n ≤ 1048576
  · go_enter Try.func4, Try.ntmps4
    go_wp2_with fail
    refine (drawGcdOf_any _ _ _ _ _ HB.out).mono ?_
    rintro e w1 ⟨p, q, rfl, hb1⟩
    have hs1 := hb1.size
    have HW1 := Lib.hid hb1
    clear hb1
    have h1 := fun w => gcdOf_any p q w
    have h2 := fun w => s_gcdOf_any p q w
    cases ho : Agg.gcdOk p q
    · rw [ho] at h1 h2
      have hg : Agg.gcdA p q = 0 := by simp [Agg.gcdA, ho]
      rw [hg] at h1 h2
      have H1 := Lib.hid h1
      have H2 := Lib.hid h2
      clear h1 h2 ho hg
      go_wp2_with fail
      refine (H1.out _).mono ?_
      rintro e w2 ⟨rfl, hb2⟩
      have HW2 := Lib.hid (HW1.out.trans (hb2.mono hs1))
      have hs2 := HW2.out.size
      clear hb2
      go_wp2_with fail
      refine (H2.out _).mono ?_
      rintro e w3 ⟨rfl, hb3⟩
      have HW3 := Lib.hid (HW2.out.trans (hb3.mono hs2))
      clear hb3
      go_wp2_with fail
      go_returns
      exact ⟨rfl, HW3.out⟩
    · have hab : 1 ≤ p ∧ p ≤ 1000000 ∧ 1 ≤ q ∧ q ≤ 1000000 := by simp [Agg.gcdOk] at ho; omega
      obtain ⟨ha1, ha2, hb1, hb2⟩ := hab
      obtain ⟨x, rfl⟩ := Int.eq_ofNat_of_zero_le (show 0 ≤ p by omega)
      obtain ⟨y, rfl⟩ := Int.eq_ofNat_of_zero_le (show 0 ≤ q by omega)
      rw [ho, Agg.gcdA_of ho] at h1 h2
      obtain ⟨g1, g2⟩ := Agg.gcd_le (x := x) (y := y) (by omega)
      have g3 : Nat.gcd x y ≤ y := Nat.gcd_le_right _ (by omega)
      have h3 := fun w => gcdOf_any (3 * (x : Int)) (3 * (y : Int)) w
      have e3 : Agg.gcdOk (3 * (x : Int)) (3 * (y : Int)) = true → Agg.gcdA (3 * (x : Int)) (3 * (y : Int)) = 3 * ((Nat.gcd x y : Nat) : Int) := by
        intro h
        have := Agg.gcdA_of (x := 3 * x) (y := 3 * y) (by exact_mod_cast h)
        rw [Nat.gcd_mul_left] at this
        exact_mod_cast this
      have d1 : 1 ≤ x / Nat.gcd x y := (Nat.le_div_iff_mul_le (by omega)).2 (by omega)
      have d2 : 1 ≤ y / Nat.gcd x y := (Nat.le_div_iff_mul_le (by omega)).2 (by omega)
      have d3 : x / Nat.gcd x y ≤ x := Nat.div_le_self _ _
      have d4 : y / Nat.gcd x y ≤ y := Nat.div_le_self _ _
      have d5 : Nat.gcd (x / Nat.gcd x y) (y / Nat.gcd x y) = 1 := by rw [Nat.gcd_div (Nat.gcd_dvd_left _ _) (Nat.gcd_dvd_right _ _), Nat.div_self (by omega)]
      have ok4 : Agg.gcdOk ((x / Nat.gcd x y : Nat) : Int) ((y / Nat.gcd x y : Nat) : Int) = true := by simp only [Agg.gcdOk, Bool.and_eq_true, decide_eq_true_eq]; omega
      have h4 := fun w => gcdOf_any ((x / Nat.gcd x y : Nat) : Int) ((y / Nat.gcd x y : Nat) : Int) w
      rw [ok4, Agg.gcdA_of ok4, d5] at h4
      obtain ⟨G, hG⟩ : ∃ G, G = Nat.gcd x y := ⟨_, rfl⟩
      rw [← hG] at h1 h2 g1 g2 h4 e3
      rw [show ((x / G : Nat) : Int) = (x : Int) / (G : Int) from Int.natCast_ediv _ _, show ((y / G : Nat) : Int) = (y : Int) / (G : Int) from Int.natCast_ediv _ _] at h4
      obtain ⟨o3, ho3⟩ : ∃ o, o = Agg.gcdOk (3 * (x : Int)) (3 * (y : Int)) := ⟨_, rfl⟩
      obtain ⟨g3', hg3⟩ : ∃ g, g = Agg.gcdA (3 * (x : Int)) (3 * (y : Int)) := ⟨_, rfl⟩
      rw [← ho3, ← hg3] at h3 e3
      have H1 := Lib.hid h1
      have H2 := Lib.hid h2
      have H3 := Lib.hid h3
      have H4 := Lib.hid h4
      have E3 := Lib.hid e3
      have b1 : 0 ≤ (x : Int) / (G : Int) := Int.ediv_nonneg (by omega) (by omega)
      have b2 : (x : Int) / (G : Int) ≤ x := Int.ediv_le_self _ (by omega)
      have b3 : 0 ≤ (y : Int) / (G : Int) := Int.ediv_nonneg (by omega) (by omega)
      have b4 : (y : Int) / (G : Int) ≤ y := Int.ediv_le_self _ (by omega)
      have q1 : IntKind.i64.wrap ((x : Int) / (G : Int)) = (x : Int) / (G : Int) := IntWalk.i64_in _ (by omega)
      have q2 : IntKind.i64.wrap ((y : Int) / (G : Int)) = (y : Int) / (G : Int) := IntWalk.i64_in _ (by omega)
      have q3 : wrap64 ((x : Int) / (G : Int)) = (x : Int) / (G : Int) := by unfold wrap64; omega
      have q4 : wrap64 ((y : Int) / (G : Int)) = (y : Int) / (G : Int) := by unfold wrap64; omega
      have hG0 : ¬ ((G : Int) = 0) := by omega
      have hG1 : 1 ≤ (G : Int) := by omega
      clear h1 h2 h3 h4 ho hG d1 d2 d3 d4 d5 ok4 e3 ho3 hg3 g3
      go_wp2_with fail
      refine (H1.out _).mono ?_
      rintro e w2 ⟨rfl, hb2'⟩
      have HW2 := Lib.hid (HW1.out.trans (hb2'.mono hs1))
      have hs2 := HW2.out.size
      clear hb2'
      go_wp2_with fail
      refine (H2.out _).mono ?_
      rintro e w3 ⟨rfl, hb3⟩
      have HW3 := Lib.hid (HW2.out.trans (hb3.mono hs2))
      have hs3 := HW3.out.size
      clear hb3
      go_wp2_with fail
      refine (H3.out _).mono ?_
      rintro e w4 ⟨rfl, hb4⟩
      have HW4 := Lib.hid (HW3.out.trans (hb4.mono hs3))
      have hs4 := HW4.out.size
      clear hb4
      go_wp2_with fail
      go_region_with (go_at_call 10; (try rw [q1]); (try rw [q2]); (try rw [q3]); (try rw [q4]); refine (H4.out _).mono ?_; rintro e w5 ⟨rfl, hb5⟩; have HW5 := Lib.hid (HW4.out.drew.trans (hb5.mono hs4)); clear hb5)
      all_goals
        cases o3
        · go_wp2_with fail
          go_returns
          exact ⟨rfl, HW5.out⟩
        · obtain rfl := E3.out rfl
          go_wp2_with fail
          go_returns
          exact ⟨rfl, HW5.out⟩
  · go_enter Try.func4, Try.ntmps4
    go_wp2
    go_returns
    exact ⟨rfl, Below.refl _ _⟩
theorem Agg.hop_next {n s h : Int} (e1 : Agg.hopOk n s h = true) : Agg.hopN (n + 1) s h = Agg.hopN n s h ∨ Agg.hopN (n + 1) s h = Agg.hopN n s h + 1 := by
  obtain ⟨h1, h2, h3, h4, h5, h6⟩ := Agg.hopOk_parts e1
  unfold Agg.hopN
  by_cases a : n < s
  · by_cases b : n + 1 < s
    · simp [a, b]
    · have : n + 1 - s = 0 := by omega
      simp [a, b, this]
  · have b : ¬ (n + 1 < s) := by omega
    rw [if_neg a, if_neg b]
    have e0 : n + 1 - s = (n - s) + 1 := by omega
    rw [e0]
    obtain ⟨x, hx⟩ := Int.eq_ofNat_of_zero_le (show 0 ≤ n - s by omega)
    obtain ⟨y, rfl⟩ := Int.eq_ofNat_of_zero_le (show 0 ≤ h by omega)
    rw [hx]
    have hm := Nat.div_add_mod x y
    have hm2 := Nat.div_add_mod (x + 1) y
    have hl := Nat.mod_lt x (show 0 < y by omega)
    have hl2 := Nat.mod_lt (x + 1) (show 0 < y by omega)
    have key : (x + 1) / y = x / y ∨ (x + 1) / y = x / y + 1 := by
      have a1 : x / y ≤ (x + 1) / y := Nat.div_le_div_right (by omega)
      have a2 : (x + 1) / y < x / y + 2 := by
        rw [Nat.div_lt_iff_lt_mul (by omega), Nat.add_mul, Nat.mul_comm (x / y) y]
        omega
      omega
    have c1 : ((x : Int) + 1) / (y : Int) = (((x + 1) / y : Nat) : Int) := by rw [Int.natCast_ediv]; simp
    have c2 : (x : Int) / (y : Int) = ((x / y : Nat) : Int) := (Int.natCast_ediv _ _).symm
    rw [c1, c2]
    omega
set_option maxRecDepth 8000 in
set_option maxHeartbeats 1000000 in
theorem law_FnHopCount (a : Option Addr) (n cap : Nat) (zs : List Int) (w : World) (hrow : IsRow .u8 w a n cap zs) :
    Calls Try.prog 5 #[.slice a n cap] w fun e w' => e = .returned (.bool true) ∧ Below w.heap.size w w' := by
  have HB := Lib.hid (Bytes.of_row hrow)
  have hm : cap ≤ 9223372036854775807 := HB.out.2.1
  have hnc : n ≤ cap := HB.out.1
  clear hrow
  by_cases hn : n ≤ 1048576
  · go_enter Try.func5, Try.ntmps5
    go_wp2_with fail
    refine (drawHopCount_any _ _ _ _ _ HB.out).mono ?_
    rintro e w1 ⟨p, s, h, rfl, hb1⟩
    have HW1 := Lib.hid hb1
    clear hb1
    have h1 := fun w => hopCount_any p s h w
    have h2 := fun w => s_hopCount_any p s h w
    cases ho : Agg.hopOk p s h
    · rw [ho, show Agg.hopA p s h = 0 by simp [Agg.hopA, ho]] at h1 h2
      have H1 := Lib.hid h1
      have H2 := Lib.hid h2
      clear h1 h2 ho
      go_wp2_with fail
      refine (H1.out _).mono ?_
      rintro e w2 ⟨rfl, rfl⟩
      go_wp2_with fail
      refine (H2.out _).mono ?_
      rintro e w3 ⟨rfl, rfl⟩
      go_wp2_with fail
      go_returns
      exact ⟨rfl, HW1.out⟩
    · have h3 := fun w => hopCount_any (p + 1) s h w
      have hnx : Agg.hopOk (p + 1) s h = true → Agg.hopA (p + 1) s h = Agg.hopN p s h ∨ Agg.hopA (p + 1) s h = Agg.hopN p s h + 1 := by
        intro h; simp only [Agg.hopA, h, if_true]; exact Agg.hop_next ho
      rw [ho, show Agg.hopA p s h = Agg.hopN p s h by simp [Agg.hopA, ho]] at h1 h2
      obtain ⟨hp1, hp2, -⟩ := Agg.hopOk_parts ho
      obtain ⟨hc1, hc2⟩ := Agg.hopN_le ho
      obtain ⟨C, hC⟩ : ∃ C, C = Agg.hopN p s h := ⟨_, rfl⟩
      obtain ⟨D, hD⟩ : ∃ D, D = Agg.hopA (p + 1) s h := ⟨_, rfl⟩
      obtain ⟨o, hO⟩ : ∃ o, o = Agg.hopOk (p + 1) s h := ⟨_, rfl⟩
      rw [← hC] at h1 h2 hnx hc1 hc2
      rw [← hD, ← hO] at h3 hnx
      have H1 := Lib.hid h1
      have H2 := Lib.hid h2
      have H3 := Lib.hid h3
      clear h1 h2 h3 ho hC hD hO
      cases o
      · clear hnx
        go_wp2_with fail
        refine (H1.out _).mono ?_
        rintro e w2 ⟨rfl, rfl⟩
        go_wp2_with fail
        refine (H2.out _).mono ?_
        rintro e w3 ⟨rfl, rfl⟩
        go_wp2_with fail
        refine (H3.out _).mono ?_
        rintro e w4 ⟨rfl, rfl⟩
        go_wp2_with fail
        go_returns
        exact ⟨rfl, HW1.out⟩
      · rcases hnx rfl with hD | hD
        all_goals
          rw [hD] at H3
          clear hnx hD
          have hne : ¬ (C + 1 = C) := by omega
          have hne2 : IntKind.i64.wrap (C + 1) = C + 1 := IntWalk.i64_in _ (by omega)
          go_wp2_with fail
          refine (H1.out _).mono ?_
          rintro e w2 ⟨rfl, rfl⟩
          go_wp2_with fail
          refine (H2.out _).mono ?_
          rintro e w3 ⟨rfl, rfl⟩
          go_wp2_with fail
          refine (H3.out _).mono ?_
          rintro e w4 ⟨rfl, rfl⟩
          go_wp2_with fail
          go_returns
          exact ⟨rfl, HW1.out⟩
  · go_enter Try.func5, Try.ntmps5
    go_wp2
    go_returns
    exact ⟨rfl, Below.refl _ _⟩
theorem Agg.hop_fewer {n s h : Int} (e : Agg.hopOk n s h = true) : Agg.hopOk n s 1 = true ∧ Agg.hopN n s h ≤ Agg.hopN n s 1 ∧ (Agg.hopN n s 1 = 0 ↔ Agg.hopN n s h = 0) ∧ (Agg.hopN n s h = 0 ∨ (Agg.hopN n s h - 1) * h ≤ Agg.hopN n s 1 - 1) ∧ Agg.hopN n s 1 ≤ 60 ∧ 0 ≤ Agg.hopN n s h ∧ (Agg.hopN n s h = 0 ∨ 0 ≤ (Agg.hopN n s h - 1) * h) := by
  obtain ⟨h1, h2, h3, h4, h5, h6⟩ := Agg.hopOk_parts e
  have e1 : Agg.hopOk n s 1 = true := by simp [Agg.hopOk, Agg.hopsOk]; omega
  obtain ⟨b1, b2⟩ := Agg.hopN_le e1
  obtain ⟨b3, b4⟩ := Agg.hopN_le e
  refine ⟨e1, ?_⟩
  have v1 : Agg.hopN n s h = if n < s then 0 else (n - s) / h + 1 := rfl
  have v2 : Agg.hopN n s 1 = if n < s then 0 else (n - s) / 1 + 1 := rfl
  by_cases a : n < s
  · rw [if_pos a] at v1 v2
    rw [v1, v2]; simp
  · rw [if_neg a] at v1 v2
    rw [Int.ediv_one] at v2
    have d1 : (n - s) / h ≤ n - s := Int.ediv_le_self _ (by omega)
    have d2 : (n - s) / h * h ≤ n - s := Int.ediv_mul_le _ (by omega)
    have d3 : 0 ≤ (n - s) / h * h := Int.mul_nonneg (Int.ediv_nonneg (by omega) (by omega)) (by omega)
    have d4 : (n - s) / h + 1 - 1 = (n - s) / h := by omega
    rw [v1] at b3 ⊢
    rw [v2] at b2 ⊢
    rw [d4]
    have d5 : 0 ≤ (n - s) / h := Int.ediv_nonneg (by omega) (by omega)
    exact ⟨by omega, by omega, .inr (by omega), by omega, by omega, .inr d3⟩
set_option maxRecDepth 8000 in
set_option maxHeartbeats 1000000 in
theorem law_FnHopFewer (a : Option Addr) (n cap : Nat) (zs : List Int) (w : World) (hrow : IsRow .u8 w a n cap zs) :
    Calls Try.prog 7 #[.slice a n cap] w fun e w' => e = .returned (.bool true) ∧ Below w.heap.size w w' := by
  have HB := Lib.hid (Bytes.of_row hrow)
  have hm : cap ≤ 9223372036854775807 := HB.out.2.1
  have hnc : n ≤ cap := HB.out.1
  clear hrow
  by_cases hn : n ≤ 1048576
  · go_enter Try.func7, Try.ntmps7
    go_wp2_with fail
    refine (drawHopCount_any _ _ _ _ _ HB.out).mono ?_
    rintro e w1 ⟨p, s, h, rfl, hb1⟩
    have HW1 := Lib.hid hb1
    clear hb1
    have h1 := fun w => hopCount_any p s h w
    have h2 := fun w => s_hopCount_any p s h w
    cases ho : Agg.hopOk p s h
    · rw [ho, show Agg.hopA p s h = 0 by simp [Agg.hopA, ho]] at h1 h2
      have H1 := Lib.hid h1
      have H2 := Lib.hid h2
      clear h1 h2 ho
      go_wp2_with fail
      refine (H1.out _).mono ?_
      rintro e w2 ⟨rfl, rfl⟩
      go_wp2_with fail
      refine (H2.out _).mono ?_
      rintro e w3 ⟨rfl, rfl⟩
      go_wp2_with fail
      go_returns
      exact ⟨rfl, HW1.out⟩
    · have h3 := fun w => hopCount_any p s 1 w
      obtain ⟨o1, f1, f2, f3, f4, f5, f6⟩ := Agg.hop_fewer ho
      rw [ho, show Agg.hopA p s h = Agg.hopN p s h by simp [Agg.hopA, ho]] at h1 h2
      rw [o1, show Agg.hopA p s 1 = Agg.hopN p s 1 by simp [Agg.hopA, o1]] at h3
      obtain ⟨hp1, hp2, hp3, hp4, hp5, hp6⟩ := Agg.hopOk_parts ho
      obtain ⟨C, hC⟩ : ∃ C, C = Agg.hopN p s h := ⟨_, rfl⟩
      obtain ⟨D, hD⟩ : ∃ D, D = Agg.hopN p s 1 := ⟨_, rfl⟩
      rw [← hC] at h1 h2
      rw [← hD] at h3
      simp only [← hC, ← hD] at f1 f2 f3 f4 f5 f6
      have H1 := Lib.hid h1
      have H2 := Lib.hid h2
      have H3 := Lib.hid h3
      have HF2 := Lib.hid f2
      clear h1 h2 h3 ho hC hD o1 f2
      by_cases hz : C = 0
      · have hz1 : D = 0 := HF2.out.2 hz
        subst hz
        subst hz1
        clear f3 f6 HF2
        go_wp2_with fail
        refine (H1.out _).mono ?_
        rintro e w2 ⟨rfl, rfl⟩
        go_wp2_with fail
        refine (H2.out _).mono ?_
        rintro e w3 ⟨rfl, rfl⟩
        go_wp2_with fail
        refine (H3.out _).mono ?_
        rintro e w4 ⟨rfl, rfl⟩
        go_wp2_with fail
        go_returns
        exact ⟨rfl, HW1.out⟩
      · have hz1 : ¬ (D = 0) := fun h => hz (HF2.out.1 h)
        have hb1 : (D == 0) = false := by simpa using hz1
        have hb2 : (C == 0) = false := by simpa using hz
        have f3' : (C - 1) * h ≤ D - 1 := by rcases f3 with f | f <;> omega
        have f6' : 0 ≤ (C - 1) * h := by rcases f6 with f | f <;> omega
        have q1 : IntKind.i64.wrap (C - 1) = C - 1 := IntWalk.i64_in _ (by omega)
        have q2 : IntKind.i64.wrap ((C - 1) * h) = (C - 1) * h := IntWalk.i64_in _ (by omega)
        have q3 : IntKind.i64.wrap (D - 1) = D - 1 := IntWalk.i64_in _ (by omega)
        clear f3 f6 HF2
        go_wp2_with fail
        refine (H1.out _).mono ?_
        rintro e w2 ⟨rfl, rfl⟩
        go_wp2_with fail
        refine (H2.out _).mono ?_
        rintro e w3 ⟨rfl, rfl⟩
        go_wp2_with fail
        refine (H3.out _).mono ?_
        rintro e w4 ⟨rfl, rfl⟩
        go_wp2_with fail
        go_returns
        exact ⟨rfl, HW1.out⟩
  · go_enter Try.func7, Try.ntmps7
    go_wp2
    go_returns
    exact ⟨rfl, Below.refl _ _⟩
theorem Agg.cost_law {n s h : Int} (e : Agg.hopOk n s h = true) :
    (Agg.costs n s h).1 = Agg.hopN n s h * s ∧ (Agg.costs n s h).2 ≤ n + (Agg.costs n s h).1 ∧ (1 < Agg.gcdA s h ∨ (Agg.costs n s h).2 = n + (Agg.costs n s h).1) ∧ Agg.hopN n s h * (s / Agg.gcdA s h) ≤ (Agg.costs n s h).2 ∧ 0 ≤ (Agg.costs n s h).1 ∧ (Agg.costs n s h).1 ≤ 3600 ∧ 0 ≤ (Agg.costs n s h).2 ∧ (Agg.costs n s h).2 ≤ 3660 := by
  obtain ⟨m1, m2, m3, m4, m5, m6, m7, m8, m9, m10, m11⟩ := Agg.cost_facts e
  obtain ⟨c1, c2⟩ := Agg.hopN_le e
  obtain ⟨hg, g1, g2, g3, g4, g5⟩ := Agg.gcd_sizes e
  have hle : Agg.hopN n s h * (s / Agg.gcdA s h) ≤ Agg.hopN n s h * s := Int.mul_le_mul_of_nonneg_left (Int.ediv_le_self _ (by omega)) c1
  have hone : Agg.gcdA s h = 1 → Agg.hopN n s h * (s / Agg.gcdA s h) = Agg.hopN n s h * s ∧ n / Agg.gcdA s h * Agg.gcdA s h = n := by
    intro h1; rw [h1]; simp
  simp only [Agg.costs, e, if_true]
  refine ⟨trivial, by omega, ?_, by omega, m1, m2, by omega, by omega⟩
  by_cases h1 : Agg.gcdA s h = 1
  · obtain ⟨e1, e2⟩ := hone h1
    right; omega
  · left; omega
set_option maxRecDepth 8000 in
set_option maxHeartbeats 1000000 in
theorem law_FnPaneCosts (a : Option Addr) (n cap : Nat) (zs : List Int) (w : World) (hrow : IsRow .u8 w a n cap zs) :
    Calls Try.prog 6 #[.slice a n cap] w fun e w' => e = .returned (.bool true) ∧ Below w.heap.size w w' := by
  have HB := Lib.hid (Bytes.of_row hrow)
  have hm : cap ≤ 9223372036854775807 := HB.out.2.1
  have hnc : n ≤ cap := HB.out.1
  clear hrow
  by_cases hn : n ≤ 1048576
  · go_enter Try.func6, Try.ntmps6
    go_wp2_with fail
    refine (drawPaneCosts_any _ _ _ _ _ HB.out).mono ?_
    rintro e w1 ⟨p, s, h, rfl, hb1⟩
    have hs1 := hb1.size
    have HW1 := Lib.hid hb1
    clear hb1
    have h1 := fun w => paneCosts_any p s h w
    have h2 := fun w => s_paneCosts_any p s h w
    cases ho : Agg.hopOk p s h
    · rw [ho, show Agg.costs p s h = (0, 0) by simp [Agg.costs, ho]] at h1 h2
      have H1 := Lib.hid h1
      have H2 := Lib.hid h2
      clear h1 h2 ho
      go_wp2_with fail
      refine (H1.out _).mono ?_
      rintro e w2 ⟨rfl, hb2⟩
      have HW2 := Lib.hid (HW1.out.trans (hb2.mono hs1))
      have hs2 := HW2.out.size
      clear hb2
      go_wp2_with fail
      refine (H2.out _).mono ?_
      rintro e w3 ⟨rfl, hb3⟩
      have HW3 := Lib.hid (HW2.out.trans (hb3.mono hs2))
      clear hb3
      go_wp2_with fail
      go_returns
      exact ⟨rfl, HW3.out⟩
    · have h3 := fun w => hopCount_any p s h w
      have h4 := fun w => gcdOf_any s h w
      obtain ⟨l1, l2, l3, l4, l5, l6, l7, l8⟩ := Agg.cost_law ho
      obtain ⟨m1, m2, m3, m4, -⟩ := Agg.cost_facts ho
      obtain ⟨hg, g1, g2, g3, g4, g5⟩ := Agg.gcd_sizes ho
      obtain ⟨hp1, hp2, hp3, hp4, hp5, hp6⟩ := Agg.hopOk_parts ho
      obtain ⟨c1, c2⟩ := Agg.hopN_le ho
      rw [ho] at h1 h2 h3
      rw [show Agg.hopA p s h = Agg.hopN p s h by simp [Agg.hopA, ho]] at h3
      rw [hg] at h4
      obtain ⟨C, hC⟩ : ∃ C, C = Agg.hopN p s h := ⟨_, rfl⟩
      obtain ⟨G, hG⟩ : ∃ G, G = Agg.gcdA s h := ⟨_, rfl⟩
      obtain ⟨⟨X, Y⟩, hXY⟩ : ∃ Z, Z = Agg.costs p s h := ⟨_, rfl⟩
      simp only [← hC, ← hG, ← hXY] at h1 h2 h3 h4 l1 l2 l3 l4 l5 l6 l7 l8 m1 m2 m3 m4 g1 g2 g3 g4 g5 c1 c2
      have H1 := Lib.hid h1
      have H2 := Lib.hid h2
      have H3 := Lib.hid h3
      have H4 := Lib.hid h4
      have HL1 := Lib.hid l1
      have q1 : IntKind.i64.wrap (C * s) = C * s := IntWalk.i64_in _ (by omega)
      have q2 : IntKind.i64.wrap (C * (s / G)) = C * (s / G) := IntWalk.i64_in _ (by omega)
      have q3 : IntKind.i64.wrap (p + X) = p + X := IntWalk.i64_in _ (by omega)
      have hG0 : ¬ (G = 0) := by omega
      have L1 : (X == C * s) = true := by rw [l1]; simp
      clear h1 h2 h3 h4 ho hC hG hXY l1 hg
      go_wp2_with fail
      refine (H1.out _).mono ?_
      rintro e w2 ⟨rfl, hb2⟩
      have HW2 := Lib.hid (HW1.out.trans (hb2.mono hs1))
      have hs2 := HW2.out.size
      clear hb2
      go_wp2_with fail
      refine (H2.out _).mono ?_
      rintro e w3 ⟨rfl, hb3⟩
      have HW3 := Lib.hid (HW2.out.trans (hb3.mono hs2))
      have hs3 := HW3.out.size
      clear hb3
      go_wp2_with fail
      refine (H3.out _).mono ?_
      rintro e w4 ⟨rfl, rfl⟩
      go_wp2_with fail
      refine (H4.out _).mono ?_
      rintro e w5 ⟨rfl, hb5⟩
      have HW5 := Lib.hid (HW3.out.trans (hb5.mono hs3))
      clear hb5
      obtain rfl := HL1.out
      rcases l3 with l3 | l3
      · go_wp2_with fail
        go_returns
        exact ⟨by first | rfl | exact ret_bool (by simp <;> omega), HW5.out⟩
      · by_cases hg1 : 1 < G
        · go_wp2_with fail
          go_returns
          exact ⟨by first | rfl | exact ret_bool (by simp <;> omega), HW5.out⟩
        · have LY := Lib.hid l3
          subst l3
          go_wp2_with fail
          go_returns
          exact ⟨by first | rfl | exact ret_bool (by simp <;> omega), HW5.out⟩
  · go_enter Try.func6, Try.ntmps6
    go_wp2
    go_returns
    exact ⟨rfl, Below.refl _ _⟩
end Go.Proofs.Ytohllpdmopofoaa
