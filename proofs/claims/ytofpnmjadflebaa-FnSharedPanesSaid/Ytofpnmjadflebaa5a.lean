/-
  Divisors, counts and costs of windows that begin some items apart, in the program and in the model.
-/
import Derived.Test.YtofpnmjadflebaaA
namespace Go.Proofs.Ytofpnmjadflebaa
set_option linter.unusedSimpArgs false
set_option linter.unusedVariables false
open Go.RowKit
theorem Agg.gcd_turn (p q : Nat) : Nat.gcd q (p % q) = Nat.gcd p q := by
  rw [Nat.gcd_comm q, ← Nat.gcd_rec, Nat.gcd_comm]
/-- What GcdOf answers. -/
def Agg.gcdOk (a b : Int) : Bool := decide (1 ≤ a ∧ a ≤ 1000000) && decide (1 ≤ b ∧ b ≤ 1000000)
def Agg.gcdA (a b : Int) : Int := if Agg.gcdOk a b then (Nat.gcd a.toNat b.toNat : Nat) else 0
theorem Agg.gcdA_of {x y : Nat} (h : Agg.gcdOk x y = true) : Agg.gcdA x y = (Nat.gcd x y : Nat) := by simp [Agg.gcdA, h]
theorem Agg.gcd_le {x y : Nat} (h : 1 ≤ x) : 1 ≤ Nat.gcd x y ∧ Nat.gcd x y ≤ x := ⟨Nat.gcd_pos_of_pos_left _ h, Nat.gcd_le_left _ h⟩
/-- What HopCount answers. -/
def Agg.hopsOk (s h : Int) : Bool := decide (1 ≤ s ∧ s ≤ 60) && decide (1 ≤ h ∧ h ≤ 60)
def Agg.hopOk (n s h : Int) : Bool := decide (0 ≤ n ∧ n ≤ 60) && Agg.hopsOk s h
def Agg.hopN (n s h : Int) : Int := if n < s then 0 else (n - s) / h + 1
def Agg.hopA (n s h : Int) : Int := if Agg.hopOk n s h then Agg.hopN n s h else 0
theorem Agg.hopOk_parts {n s h : Int} (e : Agg.hopOk n s h = true) : 0 ≤ n ∧ n ≤ 60 ∧ 1 ≤ s ∧ s ≤ 60 ∧ 1 ≤ h ∧ h ≤ 60 := by
  simp [Agg.hopOk, Agg.hopsOk] at e; omega
theorem Agg.hopN_le {n s h : Int} (e : Agg.hopOk n s h = true) : 0 ≤ Agg.hopN n s h ∧ Agg.hopN n s h ≤ 60 := by
  obtain ⟨h1, h2, h3, h4, h5, h6⟩ := Agg.hopOk_parts e
  unfold Agg.hopN
  split
  · omega
  · have h7 : 0 ≤ (n - s) / h := Int.ediv_nonneg (by omega) (by omega)
    have h8 : (n - s) / h ≤ n - s := Int.ediv_le_self _ (by omega)
    omega
/-- What PaneCosts answers. -/
def Agg.costs (n s h : Int) : Int × Int :=
  if Agg.hopOk n s h then (Agg.hopN n s h * s, n / Agg.gcdA s h * Agg.gcdA s h + Agg.hopN n s h * (s / Agg.gcdA s h)) else (0, 0)
set_option maxHeartbeats 1000000 in
theorem gcdOf_any (a b : Int) (w : World) :
    Calls Try.prog 47 #[.int .i64 a, .int .i64 b] w fun e w' => e = .returned (.tuple #[.int .i64 (Agg.gcdA a b), .bool (Agg.gcdOk a b)]) ∧ Below w.heap.size w w' := by
  cases h : Agg.gcdOk a b
  · have e : Agg.gcdA a b = 0 := by simp [Agg.gcdA, h]
    rw [e]
    cases ha : (decide (1 ≤ a) && decide (a ≤ 1000000))
    · go_enter Try.func47, Try.ntmps47
      go_wp2_with (first | (go_at_call 35; refine (within_any _ _ _ _).mono ?_; rintro e wk ⟨rfl, rfl⟩) | (go_at_call 27; refine (hopsValid_any _ _ _).mono ?_; rintro e wk ⟨rfl, rfl⟩))
      go_returns
      exact ⟨rfl, Below.refl _ _⟩
    · cases hb : (decide (1 ≤ b) && decide (b ≤ 1000000))
      · go_enter Try.func47, Try.ntmps47
        go_wp2_with (first | (go_at_call 35; refine (within_any _ _ _ _).mono ?_; rintro e wk ⟨rfl, rfl⟩) | (go_at_call 27; refine (hopsValid_any _ _ _).mono ?_; rintro e wk ⟨rfl, rfl⟩))
        go_returns
        exact ⟨rfl, Below.refl _ _⟩
      · simp [Agg.gcdOk] at h ha hb; omega
  · have hab : 1 ≤ a ∧ a ≤ 1000000 ∧ 1 ≤ b ∧ b ≤ 1000000 := by simp [Agg.gcdOk] at h; omega
    obtain ⟨ha1, ha2, hb1, hb2⟩ := hab
    obtain ⟨x, rfl⟩ := Int.eq_ofNat_of_zero_le (show 0 ≤ a by omega)
    obtain ⟨y, rfl⟩ := Int.eq_ofNat_of_zero_le (show 0 ≤ b by omega)
    rw [Agg.gcdA_of h]
    obtain ⟨g, hg⟩ : ∃ g, g = Nat.gcd x y := ⟨_, rfl⟩
    rw [← hg]
    have HG := Lib.hid hg.symm
    clear hg h
    go_enter Try.func47, Try.ntmps47
    go_wp2_with (first | (go_at_call 35; refine (within_any _ _ _ _).mono ?_; rintro e wk ⟨rfl, rfl⟩) | (go_at_call 27; refine (hopsValid_any _ _ _).mono ?_; rintro e wk ⟨rfl, rfl⟩))
    go_loopw [0, 1] (fun va vb wr => ∃ p q : Nat, va = .int .i64 p ∧ vb = .int .i64 q ∧ p ≤ 1000000 ∧ q ≤ 1000000 ∧ Hid (Nat.gcd p q = g) ∧ Hid (Below w.heap.size w wr)) (fun _ vb _ => (intOf vb).toNat)
    case atStart => exact ⟨x, y, rfl, rfl, by omega, by omega, HG, Below.refl _ _⟩
    case round =>
      obtain ⟨p, q, rfl, rfl, hp, hq, hgg, hw⟩ := hrel
      clear HG
      by_cases hq0 : q = 0
      · subst hq0
        have hpg : p = g := by have := hgg.out; simpa using this
        subst hpg
        go_wp2
        go_returns
        exact ⟨rfl, hw.out⟩
      · have hlt : p % q < q := Nat.mod_lt _ (by omega)
        have hq1 : 1 ≤ (q : Int) := by omega
        have hqn : ¬ ((q : Int) = 0) := by omega
        go_wp2
        go_region
        all_goals (try go_wp2)
        all_goals (
          go_roundw
          case rel => exact ⟨q, p % q, rfl, by go_num, hq, by omega, Lib.hid ((Agg.gcd_turn p q).trans hgg.out), by first | exact hw | exact below_drewN hw.out _⟩
          case measure => simp [intOf] <;> omega)
theorem hopsValid_any (s h : Int) (w : World) :
    Calls Try.prog 27 #[.int .i64 s, .int .i64 h] w fun e w' => e = .returned (.bool (Agg.hopsOk s h)) ∧ w = w' := by
  cases hs : (decide (1 ≤ s) && decide (s ≤ 60))
  · have e : Agg.hopsOk s h = false := by simp [Agg.hopsOk] at hs ⊢; omega
    rw [e]
    go_enter Try.func27, Try.ntmps27
    go_wp2_with (first | (go_at_call 35; refine (within_any _ _ _ _).mono ?_; rintro e wk ⟨rfl, rfl⟩) | (go_at_call 27; refine (hopsValid_any _ _ _).mono ?_; rintro e wk ⟨rfl, rfl⟩))
    go_returns
    exact ⟨rfl, rfl⟩
  · cases hh : (decide (1 ≤ h) && decide (h ≤ 60))
    · have e : Agg.hopsOk s h = false := by simp [Agg.hopsOk] at hh ⊢; omega
      rw [e]
      go_enter Try.func27, Try.ntmps27
      go_wp2_with (first | (go_at_call 35; refine (within_any _ _ _ _).mono ?_; rintro e wk ⟨rfl, rfl⟩) | (go_at_call 27; refine (hopsValid_any _ _ _).mono ?_; rintro e wk ⟨rfl, rfl⟩))
      go_returns
      exact ⟨rfl, rfl⟩
    · have e : Agg.hopsOk s h = true := by simp [Agg.hopsOk] at hs hh ⊢; omega
      rw [e]
      go_enter Try.func27, Try.ntmps27
      go_wp2_with (first | (go_at_call 35; refine (within_any _ _ _ _).mono ?_; rintro e wk ⟨rfl, rfl⟩) | (go_at_call 27; refine (hopsValid_any _ _ _).mono ?_; rintro e wk ⟨rfl, rfl⟩))
      go_returns
      exact ⟨rfl, rfl⟩
set_option maxHeartbeats 1000000 in
theorem hopCount_any (n s h : Int) (w : World) :
    Calls Try.prog 19 #[.int .i64 n, .int .i64 s, .int .i64 h] w fun e w' => e = .returned (.tuple #[.int .i64 (Agg.hopA n s h), .bool (Agg.hopOk n s h)]) ∧ w = w' := by
  cases hok : Agg.hopOk n s h
  · have e : Agg.hopA n s h = 0 := by simp [Agg.hopA, hok]
    rw [e]
    cases hn : (decide (0 ≤ n) && decide (n ≤ 60))
    · go_enter Try.func19, Try.ntmps19
      go_wp2_with (first | (go_at_call 35; refine (within_any _ _ _ _).mono ?_; rintro e wk ⟨rfl, rfl⟩) | (go_at_call 27; refine (hopsValid_any _ _ _).mono ?_; rintro e wk ⟨rfl, rfl⟩))
      go_returns
      exact ⟨rfl, rfl⟩
    · have hv : Agg.hopsOk s h = false := by
        cases hv : Agg.hopsOk s h
        · rfl
        · simp [Agg.hopOk, hv] at hok hn; omega
      go_enter Try.func19, Try.ntmps19
      go_wp2_with (first | (go_at_call 35; refine (within_any _ _ _ _).mono ?_; rintro e wk ⟨rfl, rfl⟩) | (go_at_call 27; refine (hopsValid_any _ _ _).mono ?_; rintro e wk ⟨rfl, rfl⟩))
      go_returns
      exact ⟨rfl, rfl⟩
  · obtain ⟨h1, h2, h3, h4, h5, h6⟩ := Agg.hopOk_parts hok
    have hv : Agg.hopsOk s h = true := by simp [Agg.hopsOk]; omega
    have e : Agg.hopA n s h = Agg.hopN n s h := by simp [Agg.hopA, hok]
    rw [e]
    clear hok e
    by_cases hlt : n < s
    · have e : Agg.hopN n s h = 0 := by simp [Agg.hopN, hlt]
      rw [e]
      clear e
      go_enter Try.func19, Try.ntmps19
      go_wp2_with (first | (go_at_call 35; refine (within_any _ _ _ _).mono ?_; rintro e wk ⟨rfl, rfl⟩) | (go_at_call 27; refine (hopsValid_any _ _ _).mono ?_; rintro e wk ⟨rfl, rfl⟩))
      go_returns
      exact ⟨rfl, rfl⟩
    · have e : Agg.hopN n s h = (n - s) / h + 1 := by simp [Agg.hopN, hlt]
      rw [e]
      clear e
      have h7 : 0 ≤ (n - s) / h := Int.ediv_nonneg (by omega) (by omega)
      have h8 : (n - s) / h ≤ n - s := Int.ediv_le_self _ (by omega)
      go_enter Try.func19, Try.ntmps19
      go_wp2_with (first | (go_at_call 35; refine (within_any _ _ _ _).mono ?_; rintro e wk ⟨rfl, rfl⟩) | (go_at_call 27; refine (hopsValid_any _ _ _).mono ?_; rintro e wk ⟨rfl, rfl⟩))
      go_returns
      exact ⟨rfl, rfl⟩
theorem Agg.gcd_sizes {n s h : Int} (e : Agg.hopOk n s h = true) : Agg.gcdOk s h = true ∧ 1 ≤ Agg.gcdA s h ∧ Agg.gcdA s h ≤ s ∧ Agg.gcdA s h ≤ 60 ∧ 1 ≤ s / Agg.gcdA s h ∧ s / Agg.gcdA s h ≤ 60 := by
  obtain ⟨h1, h2, h3, h4, h5, h6⟩ := Agg.hopOk_parts e
  have hg : Agg.gcdOk s h = true := by simp [Agg.gcdOk]; omega
  obtain ⟨x, rfl⟩ := Int.eq_ofNat_of_zero_le (show 0 ≤ s by omega)
  obtain ⟨y, rfl⟩ := Int.eq_ofNat_of_zero_le (show 0 ≤ h by omega)
  rw [Agg.gcdA_of hg]
  obtain ⟨g1, g2⟩ := Agg.gcd_le (x := x) (y := y) (by omega)
  have g3 : 1 ≤ x / Nat.gcd x y := (Nat.le_div_iff_mul_le (by omega)).2 (by omega)
  have g4 : x / Nat.gcd x y ≤ x := Nat.div_le_self _ _
  refine ⟨hg, by omega, by omega, by omega, ?_, ?_⟩
  · exact_mod_cast g3
  · have : ((x / Nat.gcd x y : Nat) : Int) ≤ (x : Int) := by exact_mod_cast g4
    have e2 : ((x / Nat.gcd x y : Nat) : Int) = (x : Int) / ((Nat.gcd x y : Nat) : Int) := Int.natCast_ediv _ _
    omega
theorem paneSize_any (n s h : Int) (w : World) (hok : Agg.hopOk n s h = true) :
    Calls Try.prog 41 #[.int .i64 s, .int .i64 h] w fun e w' => e = .returned (.int .i64 (Agg.gcdA s h)) ∧ Below w.heap.size w w' := by
  obtain ⟨hg, -⟩ := Agg.gcd_sizes hok
  have HC := Lib.hid (fun w => gcdOf_any s h w)
  rw [hg] at HC
  clear hok hg
  go_enter Try.func41, Try.ntmps41
  go_wp2_with fail
  refine (HC.out _).mono ?_
  rintro e w1 ⟨rfl, hb⟩
  have HB := Lib.hid hb; clear hb
  go_wp2_with fail
  go_returns
  exact ⟨rfl, HB.out⟩
theorem Agg.cost_facts {n s h : Int} (e : Agg.hopOk n s h = true) :
    0 ≤ Agg.hopN n s h * s ∧ Agg.hopN n s h * s ≤ 3600 ∧ 0 ≤ Agg.hopN n s h * (s / Agg.gcdA s h) ∧ Agg.hopN n s h * (s / Agg.gcdA s h) ≤ 3600 ∧
    0 ≤ n / Agg.gcdA s h * Agg.gcdA s h ∧ n / Agg.gcdA s h * Agg.gcdA s h ≤ 60 ∧ n - n % Agg.gcdA s h = n / Agg.gcdA s h * Agg.gcdA s h ∧ 0 ≤ n / Agg.gcdA s h ∧ n / Agg.gcdA s h ≤ 60 ∧ 0 ≤ n % Agg.gcdA s h ∧ n % Agg.gcdA s h ≤ 60 := by
  obtain ⟨h1, h2, h3, h4, h5, h6⟩ := Agg.hopOk_parts e
  obtain ⟨c1, c2⟩ := Agg.hopN_le e
  obtain ⟨-, g1, g2, g3, g4, g5⟩ := Agg.gcd_sizes e
  obtain ⟨m1, m2⟩ := Agg.mul_bounds c1 c2 (show 0 ≤ s by omega) h4
  obtain ⟨m3, m4⟩ := Agg.mul_bounds c1 c2 (show 0 ≤ s / Agg.gcdA s h by omega) g5
  have d1 : 0 ≤ n / Agg.gcdA s h := Int.ediv_nonneg (by omega) (by omega)
  have d2 : n / Agg.gcdA s h ≤ n := Int.ediv_le_self _ (by omega)
  have d3 : Agg.gcdA s h * (n / Agg.gcdA s h) + n % Agg.gcdA s h = n := Int.mul_ediv_add_emod _ _
  have d4 : 0 ≤ n % Agg.gcdA s h := Int.emod_nonneg _ (by omega)
  have d5 : n % Agg.gcdA s h < Agg.gcdA s h := Int.emod_lt_of_pos _ (by omega)
  have d6 : n / Agg.gcdA s h * Agg.gcdA s h = Agg.gcdA s h * (n / Agg.gcdA s h) := Int.mul_comm _ _
  have d7 : 0 ≤ Agg.gcdA s h * (n / Agg.gcdA s h) := Int.mul_nonneg (by omega) d1
  omega
/-- Two numbers, and whether there are some. -/
def TwoNums (x y : Int) (b : Bool) (w : World) (e : Ending) (w' : World) : Prop := e = .returned (.tuple #[.int .i64 x, .int .i64 y, .bool b]) ∧ Below w.heap.size w w'
set_option maxHeartbeats 1000000 in
theorem paneCosts_any (n s h : Int) (w : World) :
    Calls Try.prog 24 #[.int .i64 n, .int .i64 s, .int .i64 h] w (TwoNums (Agg.costs n s h).1 (Agg.costs n s h).2 (Agg.hopOk n s h) w) := by
  have H1 := Lib.hid (fun w => hopCount_any n s h w)
  cases hok : Agg.hopOk n s h
  · have e : Agg.costs n s h = (0, 0) := by simp [Agg.costs, hok]
    rw [e]
    rw [hok] at H1
    clear e hok
    go_enter Try.func24, Try.ntmps24
    go_wp2_with fail
    refine (H1.out _).mono ?_
    rintro e w1 ⟨rfl, rfl⟩
    go_wp2_with fail
    go_returns
    exact ⟨rfl, Below.refl _ _⟩
  · have e : Agg.costs n s h = (Agg.hopN n s h * s, n / Agg.gcdA s h * Agg.gcdA s h + Agg.hopN n s h * (s / Agg.gcdA s h)) := by simp [Agg.costs, hok]
    have e2 : Agg.hopA n s h = Agg.hopN n s h := by simp [Agg.hopA, hok]
    have H2 := Lib.hid (fun w => paneSize_any n s h w hok)
    rw [e]
    rw [hok, e2] at H1
    obtain ⟨m1, m2, m3, m4, m5, m6, m7, m8, m9, m10, m11⟩ := Agg.cost_facts hok; obtain ⟨h1, h2, h3, h4, h5, h6⟩ := Agg.hopOk_parts hok; obtain ⟨c1, c2⟩ := Agg.hopN_le hok; obtain ⟨hg, g1, g2, g3, g4, g5⟩ := Agg.gcd_sizes hok
    obtain ⟨C, hC⟩ : ∃ C, C = Agg.hopN n s h := ⟨_, rfl⟩
    obtain ⟨G, hG⟩ : ∃ G, G = Agg.gcdA s h := ⟨_, rfl⟩
    simp only [← hC, ← hG] at m1 m2 m3 m4 m5 m6 m7 m8 m9 m10 m11 c1 c2 g1 g2 g3 g4 g5 H1 H2 ⊢
    rw [← m7]
    obtain ⟨P, hP⟩ : ∃ P, P = n / G * G := ⟨_, rfl⟩
    simp only [← hP] at m5 m6 m7
    have M7 := Lib.hid m7
    have m12 : n - n % G ≤ 60 := by omega
    have m13 : 0 ≤ n - n % G := by omega
    have q1 : IntKind.i64.wrap (C * s) = C * s := IntWalk.i64_in _ (by omega)
    have q2 : IntKind.i64.wrap (C * (s / G)) = C * (s / G) := IntWalk.i64_in _ (by omega)
    have q3 : IntKind.i64.wrap (n - n % G) = n - n % G := IntWalk.i64_in _ (by omega)
    have q4 : IntKind.i64.wrap (n - n % G + C * (s / G)) = n - n % G + C * (s / G) := IntWalk.i64_in _ (by omega)
    have hG0 : ¬ (G = 0) := by omega
    clear e e2 hok hg hC hG hP m7 m5 m6
    go_enter Try.func24, Try.ntmps24
    go_wp2_with fail
    refine (H1.out _).mono ?_
    rintro e w1 ⟨rfl, rfl⟩
    go_wp2_with fail
    refine (H2.out _).mono ?_
    rintro e w2 ⟨rfl, hb⟩
    have HB := Lib.hid hb; clear hb
    go_wp2_with fail
    go_quiet (fail)
    go_wp2_with fail
    go_returns
    exact ⟨rfl, by first | exact HB.out | exact below_drewN HB.out _⟩
end Go.Proofs.Ytofpnmjadflebaa
