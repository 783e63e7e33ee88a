/-
  The walks of the other laws of package fix.
-/
import Derived.Test.YtcmohdfhbnfoaaaFixE
namespace Go.Proofs.Ytcmohdfhbnfoaaa.FixF
open Go.RowKit FixA FixB FixC FixD FixE
set_option linter.unusedVariables false
set_option linter.unusedSimpArgs false
set_option maxRecDepth 4000

theorem near_mono {n m d : Int} (hd : 0 < d) (h : n ≤ m) : near n d ≤ near m d := by
  unfold near
  exact Int.ediv_le_ediv (by omega) (by omega)
theorem near_mul (q d : Int) (hd : 0 < d) : near (q * d) d = q := near_q _ d q 0 hd (by omega) (by omega) (by omega)
theorem near_mul' (q d : Int) (hd : 0 < d) : near (d * q) d = q := by rw [Int.mul_comm]; exact near_mul q d hd
theorem near_zero (d : Int) (hd : 0 < d) : near 0 d = 0 := near_q _ d 0 0 hd (by omega) (by omega) (by omega)
theorem near_one (n : Int) : near n 1 = n := near_q _ 1 n 0 (by omega) (by omega) (by omega) (by omega)
theorem near_two (n d : Int) (hd : 0 < d) : near (2 * n) (2 * d) = near n d := by
  have h1 := near_lo n d hd
  have h2 := near_hi n d hd
  apply near_iff _ _ _ (by omega)
  · have : 2 * near n d * (2 * d) = 2 * (2 * near n d * d) := by rw [Int.mul_left_comm]
    omega
  · have : 2 * (near n d + 1) * (2 * d) = 2 * (2 * near n d * d) + 4 * d := by
      rw [Int.mul_left_comm, Int.mul_add, Int.add_mul]; omega
    omega
theorem near_neg (n d : Int) (hd : 0 < d) : near (-n) d = - near n d ∨ near (-n) d = 1 - near n d := by
  have h1 := near_lo n d hd
  have h2 := near_hi n d hd
  have h3 := near_lo (-n) d hd
  have h4 := near_hi (-n) d hd
  have e3 : 2 * (near n d + near (-n) d) * d = 2 * near n d * d + 2 * near (-n) d * d := by rw [Int.mul_add, Int.add_mul]
  rcases Int.lt_trichotomy (near n d + near (-n) d) 0 with h | h | h
  · have : 2 * (near n d + near (-n) d) * d ≤ (-2) * d := Int.mul_le_mul_of_nonneg_right (by omega) (by omega)
    omega
  · omega
  · by_cases h5 : near n d + near (-n) d = 1
    · omega
    · have : 4 * d ≤ 2 * (near n d + near (-n) d) * d := Int.mul_le_mul_of_nonneg_right (by omega) (by omega)
      omega

theorem FixNear_walk (n d : Int) (w0 : (Lit.int .i64 n).wf = true) (w1 : (Lit.int .i64 d).wf = true) (w : World) :
    Calls Try.prog 4 #[.int .i64 n, .int .i64 d] w fun e w' => e = .returned (.bool true) ∧ Grown w w' := by
  by_cases h : -1125899906842624 ≤ n ∧ n ≤ 1125899906842624 ∧ 1 ≤ d ∧ d ≤ 1024
  · obtain ⟨h1, h2, h3, h4⟩ := h
    have e1 : roundV n d = (near n d, 0) := by
      unfold roundV; rw [if_neg (by omega), if_neg (by omega)]
    have l1 := near_lo n d (by omega)
    have l2 := near_hi n d (by omega)
    have ⟨b1, b2⟩ := near_bd n d 1125899906842624 (by omega) h1 h2
    go_enter Try.func4, Try.ntmps4
    go_wp2_with (first
      | (go_at_call 15; refine (round_any _ _ _ w0 w1).mono ?_; rintro e w' ⟨rfl, k, rfl⟩)
      | (go_at_call 23; refine (awake_any _).mono ?_; rintro e w' ⟨rfl, k, rfl⟩))
    all_goals (go_ret; exact ⟨rfl, drewN_grown (Grown.refl _) _⟩)
  · have hB : (decide (n < -1125899906842624) || decide (1125899906842624 < n) || decide (d < 1) || decide (1024 < d)) = true := by
      simp; omega
    go_enter Try.func4, Try.ntmps4
    go_wp2_with (first
      | (go_at_call 23; refine (awake_any _).mono ?_; rintro e w' ⟨rfl, k, rfl⟩))
    all_goals (go_ret; exact ⟨rfl, drewN_grown (Grown.refl _) _⟩)

theorem lerp_yes {a b t : Int} (h : okB a = true) (h' : okB b = true) (t1 : 0 ≤ t) (t2 : t ≤ 65536) : lerpV a b t = (a + near (t * (b - a)) 65536, 0) := by
  unfold lerpV; rw [h, h']; simp; omega

theorem FixLerps_walk (a b s t : Int) (w0 : (Lit.int .i64 a).wf = true) (w1 : (Lit.int .i64 b).wf = true) (w2 : (Lit.int .i64 s).wf = true) (w3 : (Lit.int .i64 t).wf = true) (w : World) :
    Calls Try.prog 5 #[.int .i64 a, .int .i64 b, .int .i64 s, .int .i64 t] w fun e w' => e = .returned (.bool true) ∧ Grown w w' := by
  cases h : okB a
  · go_enter Try.func5, Try.ntmps5
    go_wp2_with (first
      | (go_at_call 20; refine (rok_any _ _ (by assumption)).mono ?_; rintro e w' ⟨rfl, rfl⟩)
      | (go_at_call 23; refine (awake_any _).mono ?_; rintro e w' ⟨rfl, k, rfl⟩))
    all_goals (go_ret; exact ⟨rfl, drewN_grown (Grown.refl _) _⟩)
  · cases h' : okB b
    · go_enter Try.func5, Try.ntmps5
      go_wp2_with (first
        | (go_at_call 20; refine (rok_any _ _ (by assumption)).mono ?_; rintro e w' ⟨rfl, rfl⟩)
        | (go_at_call 23; refine (awake_any _).mono ?_; rintro e w' ⟨rfl, k, rfl⟩))
      all_goals (go_ret; exact ⟨rfl, drewN_grown (Grown.refl _) _⟩)
    · by_cases hs : s < 0 ∨ t < s ∨ 65536 < t
      · go_enter Try.func5, Try.ntmps5
        go_wp2_with (first
          | (go_at_call 20; refine (rok_any _ _ (by assumption)).mono ?_; rintro e w' ⟨rfl, rfl⟩)
          | (go_at_call 23; refine (awake_any _).mono ?_; rintro e w' ⟨rfl, k, rfl⟩))
        all_goals first | (go_ret; exact ⟨rfl, drewN_grown (Grown.refl _) _⟩) | (exfalso; omega)
      · have s1 : 0 ≤ s := by omega
        have s2 : s ≤ t := by omega
        have s3 : t ≤ 65536 := by omega
        clear hs
        have ⟨a1, a2⟩ := ok_yes h
        have ⟨b1, b2⟩ := ok_yes h'
        have e1 := lerp_yes h h' s1 (by omega)
        have e2 := lerp_yes h h' (t := t) (by omega) s3
        have e3 : lerpV a b 0 = (a, 0) := by rw [lerp_yes h h' (by omega) (by omega), Int.zero_mul, near_zero _ (by omega)]; simp
        have e4 : lerpV a b 65536 = (b, 0) := by rw [lerp_yes h h' (by omega) (by omega), near_mul' _ _ (by omega)]; simp; omega
        by_cases hab : a ≤ b
        · have m1 : 0 * (b - a) ≤ s * (b - a) := Int.mul_le_mul_of_nonneg_right (by omega) (by omega)
          have m2 : s * (b - a) ≤ t * (b - a) := Int.mul_le_mul_of_nonneg_right (by omega) (by omega)
          have m3 : t * (b - a) ≤ 65536 * (b - a) := Int.mul_le_mul_of_nonneg_right (by omega) (by omega)
          have n1 := near_mono (d := 65536) (by omega) m1
          have n2 := near_mono (d := 65536) (by omega) m2
          have n3 := near_mono (d := 65536) (by omega) m3
          rw [Int.zero_mul, near_zero _ (by omega)] at n1
          rw [near_mul' _ _ (by omega)] at n3
          generalize near (s * (b - a)) 65536 = x at *
          generalize near (t * (b - a)) 65536 = y at *
          clear m1 m2 m3
          go_enter Try.func5, Try.ntmps5
          go_wp2_with (first
            | (go_at_call 20; refine (rok_any _ _ (by assumption)).mono ?_; rintro e w' ⟨rfl, rfl⟩)
            | (go_at_call 17; refine (lerp_any _ _ _ _ w0 w1 (by first | assumption | decide)).mono ?_; rintro e w' ⟨rfl, k, rfl⟩)
            | (go_at_call 23; refine (awake_any _).mono ?_; rintro e w' ⟨rfl, k, rfl⟩))
          all_goals (go_ret; exact ⟨rfl, drewN_grown (Grown.refl _) _⟩)
        · have m1 : s * (b - a) ≤ 0 * (b - a) := Int.mul_le_mul_of_nonpos_right (by omega) (by omega)
          have m2 : t * (b - a) ≤ s * (b - a) := Int.mul_le_mul_of_nonpos_right (by omega) (by omega)
          have m3 : 65536 * (b - a) ≤ t * (b - a) := Int.mul_le_mul_of_nonpos_right (by omega) (by omega)
          have n1 := near_mono (d := 65536) (by omega) m1
          have n2 := near_mono (d := 65536) (by omega) m2
          have n3 := near_mono (d := 65536) (by omega) m3
          rw [Int.zero_mul, near_zero _ (by omega)] at n1
          rw [near_mul' _ _ (by omega)] at n3
          generalize near (s * (b - a)) 65536 = x at *
          generalize near (t * (b - a)) 65536 = y at *
          clear m1 m2 m3
          have hab' : b < a := by omega
          clear hab
          go_enter Try.func5, Try.ntmps5
          go_wp2_with (first
            | (go_at_call 20; refine (rok_any _ _ (by assumption)).mono ?_; rintro e w' ⟨rfl, rfl⟩)
            | (go_at_call 17; refine (lerp_any _ _ _ _ w0 w1 (by first | assumption | decide)).mono ?_; rintro e w' ⟨rfl, k, rfl⟩)
            | (go_at_call 23; refine (awake_any _).mono ?_; rintro e w' ⟨rfl, k, rfl⟩))
          all_goals (go_ret; exact ⟨rfl, drewN_grown (Grown.refl _) _⟩)

theorem log2_pow (k : Nat) : ∀ n : Int, (2 : Int) ^ k ≤ n → n < 2 ^ (k + 1) → k + 1 ≤ 63 → log2V n = k := by
  induction k with
  | zero => intro n h1 h2 _; have : n = 1 := by omega
            subst this; decide
  | succ k ih =>
    intro n h1 h2 h3
    have p1 : (2 : Int) ^ (k + 1) = 2 * 2 ^ k := by rw [Int.pow_succ]; omega
    have p2 : (2 : Int) ^ (k + 1 + 1) = 4 * 2 ^ k := by rw [Int.pow_succ, p1]; omega
    have p3 : (0 : Int) < 2 ^ k := Int.pow_pos (by omega)
    have p4 : (2 : Nat) ^ (k + 1 + 1) ≤ 2 ^ 63 := Nat.pow_le_pow_right (by omega) (by omega)
    have p5 : ((2 ^ (k + 1 + 1) : Nat) : Int) = 2 ^ (k + 1 + 1) := by rw [Int.natCast_pow]; rfl
    have p6 : (2 : Nat) ^ 63 = 9223372036854775808 := by decide
    rw [log2_half (by omega) (by omega), ih (n / 2) (by omega) (by omega) (by omega)]
    omega

theorem log2_exists (j : Nat) : ∀ n : Int, 1 ≤ n → n < 2 ^ j → ∃ k : Nat, k < j ∧ (2 : Int) ^ k ≤ n ∧ n < 2 ^ (k + 1) := by
  induction j with
  | zero => intro n h1 h2; exfalso; have : (2 : Int) ^ 0 = 1 := rfl; omega
  | succ j ih =>
    intro n h1 h2
    by_cases h : n < 2 ^ j
    · obtain ⟨k, a, b, c⟩ := ih n h1 h
      exact ⟨k, by omega, b, c⟩
    · exact ⟨j, by omega, by omega, h2⟩
theorem log2_of (a : Int) (h1 : 1 ≤ a) (h2 : a ≤ 2147483648) : ∃ K : Nat, log2V a = K ∧ K ≤ 31 ∧ (2 : Int) ^ K ≤ a ∧ a < 2 * 2 ^ K := by
  obtain ⟨k, b, c, d⟩ := log2_exists 32 a h1 (by have : (2 : Int) ^ 32 = 4294967296 := by decide
                                                 omega)
  refine ⟨k, log2_pow k a c d (by omega), by omega, c, ?_⟩
  rw [Int.pow_succ] at d; omega

theorem FixOnes_walk (a b : Int) (w0 : (Lit.int .i64 a).wf = true) (w1 : (Lit.int .i64 b).wf = true) (w : World) :
    Calls Try.prog 6 #[.int .i64 a, .int .i64 b] w fun e w' => e = .returned (.bool true) ∧ Grown w w' := by
  cases h : okB a
  · go_enter Try.func6, Try.ntmps6
    go_wp2_with (first
      | (go_at_call 20; refine (rok_any _ _ (by assumption)).mono ?_; rintro e w' ⟨rfl, rfl⟩)
      | (go_at_call 23; refine (awake_any _).mono ?_; rintro e w' ⟨rfl, k, rfl⟩))
    all_goals (go_ret; exact ⟨rfl, drewN_grown (Grown.refl _) _⟩)
  · cases h' : okB b
    · go_enter Try.func6, Try.ntmps6
      go_wp2_with (first
        | (go_at_call 20; refine (rok_any _ _ (by assumption)).mono ?_; rintro e w' ⟨rfl, rfl⟩)
        | (go_at_call 23; refine (awake_any _).mono ?_; rintro e w' ⟨rfl, k, rfl⟩))
      all_goals (go_ret; exact ⟨rfl, drewN_grown (Grown.refl _) _⟩)
    · have ⟨a1, a2⟩ := ok_yes h
      have e1 : mulV a 65536 = (a, 0) := by
        unfold mulV; rw [h, show okB 65536 = true by decide, near_mul _ _ (by omega), fits_yes h]; rfl
      have e2 : divV a 65536 = (a, 0) := by
        unfold divV; rw [h, show okB 65536 = true by decide, near_mul' _ _ (by omega), fits_yes h]; rfl
      have e3 : mulV b a = mulV a b := by
        unfold mulV; rw [h, h', Int.mul_comm]
      by_cases hp : a < 1
      · have e4 : log2V a = -1 := log2_none hp
        go_enter Try.func6, Try.ntmps6
        go_wp2_with (first
          | (go_at_call 20; refine (rok_any _ _ (by assumption)).mono ?_; rintro e w' ⟨rfl, rfl⟩)
          | (go_at_call 11; refine (mul_any _ _ _ (by first | assumption | decide) (by first | assumption | decide)).mono ?_; rintro e w' ⟨rfl, k, rfl⟩)
          | (go_at_call 13; refine (div_any _ _ _ (by first | assumption | decide) (by first | assumption | decide)).mono ?_; rintro e w' ⟨rfl, k, rfl⟩)
          | (go_at_call 21; refine (log2_any _ _ (by assumption)).mono ?_; rintro e w' ⟨rfl, rfl⟩)
          | (go_at_call 23; refine (awake_any _).mono ?_; rintro e w' ⟨rfl, k, rfl⟩))
        all_goals (go_ret; exact ⟨rfl, drewN_grown (Grown.refl _) _⟩)
      · have hp1 : 1 ≤ a := by omega
        clear hp
        obtain ⟨K, hK, K1, p1, p2⟩ := log2_of a hp1 a2
        go_enter Try.func6, Try.ntmps6
        go_wp2_with (first
          | (go_at_call 20; refine (rok_any _ _ (by assumption)).mono ?_; rintro e w' ⟨rfl, rfl⟩)
          | (go_at_call 11; refine (mul_any _ _ _ (by first | assumption | decide) (by first | assumption | decide)).mono ?_; rintro e w' ⟨rfl, k, rfl⟩)
          | (go_at_call 13; refine (div_any _ _ _ (by first | assumption | decide) (by first | assumption | decide)).mono ?_; rintro e w' ⟨rfl, k, rfl⟩)
          | (go_at_call 21; refine (log2_any _ _ (by assumption)).mono ?_; rintro e w' ⟨rfl, rfl⟩)
          | (go_at_call 23; refine (awake_any _).mono ?_; rintro e w' ⟨rfl, k, rfl⟩))
        all_goals (go_ret; exact ⟨rfl, drewN_grown (Grown.refl _) _⟩)
end Go.Proofs.Ytcmohdfhbnfoaaa.FixF
