/-
  Plain facts on whole numbers that are divided and rounded. Nothing of the program.
-/
import Derived.Test.YtkklppjimnkibaaChecked
import Derived.WalkKit
namespace Go.Proofs.Ytkklppjimnkibaa.FixA
open Go.RowKit
set_option linter.unusedVariables false
set_option linter.unusedSimpArgs false

/-- n over d (above 0), to the nearest, a half upward. -/
def near (n d : Int) : Int := (2 * n + d) / (2 * d)

theorem near_iff (n d q : Int) (hd : 0 < d) (h1 : 2 * q * d ≤ 2 * n + d) (h2 : 2 * n + d < 2 * (q + 1) * d) : near n d = q := by
  unfold near
  have h3 : q ≤ (2 * n + d) / (2 * d) := by
    apply (Int.le_ediv_iff_mul_le (by omega)).2
    have e : q * (2 * d) = 2 * q * d := by rw [← Int.mul_assoc, Int.mul_comm q 2]
    omega
  have h4 : (2 * n + d) / (2 * d) < q + 1 := by
    apply (Int.ediv_lt_iff_lt_mul (by omega)).2
    have e : (q + 1) * (2 * d) = 2 * (q + 1) * d := by rw [← Int.mul_assoc, Int.mul_comm (q + 1) 2]
    omega
  omega

theorem near_lo (n d : Int) (hd : 0 < d) : 2 * near n d * d ≤ 2 * n + d := by
  unfold near
  have h := Int.ediv_mul_le (2 * n + d) (b := 2 * d) (by omega)
  have e : (2 * n + d) / (2 * d) * (2 * d) = 2 * ((2 * n + d) / (2 * d)) * d := by rw [← Int.mul_assoc, Int.mul_comm _ 2]
  omega

theorem near_hi (n d : Int) (hd : 0 < d) : 2 * n + d < 2 * near n d * d + 2 * d := by
  unfold near
  have h := Int.lt_ediv_add_one_mul_self (2 * n + d) (b := 2 * d) (by omega)
  have e : ((2 * n + d) / (2 * d) + 1) * (2 * d) = 2 * ((2 * n + d) / (2 * d)) * d + 2 * d := by rw [Int.add_mul, Int.one_mul, ← Int.mul_assoc, Int.mul_comm _ 2]
  omega

/-- Go's quotient and remainder, of a divisor above 0. -/
theorem tdiv_parts (n d : Int) (hd : 0 < d) : n = n.tdiv d * d + n.tmod d ∧ -d < n.tmod d ∧ n.tmod d < d ∧ (0 ≤ n → 0 ≤ n.tmod d) ∧ (n ≤ 0 → n.tmod d ≤ 0) := by
  have h := Int.tdiv_mul_add_tmod n d
  have h1 := Int.tmod_lt_of_pos n hd
  have h4 : n ≤ 0 → n.tmod d ≤ 0 := fun h0 => by
    have := Int.tmod_nonneg d (a := -n) (by omega)
    rw [Int.neg_tmod] at this; omega
  have h2 := Int.tmod_lt_of_pos (-n) hd
  rw [Int.neg_tmod] at h2
  exact ⟨h.symm, by omega, h1, fun h0 => Int.tmod_nonneg d h0, h4⟩

theorem near_q (n d q r : Int) (hd : 0 < d) (e : n = q * d + r) (h1 : -d ≤ 2 * r) (h2 : 2 * r < d) : near n d = q := by
  apply near_iff n d q hd
  · rw [Int.mul_assoc]; omega
  · rw [Int.mul_assoc, Int.add_mul]; omega

/-- the four ways of Go's text -/
theorem near_neg_up (n d : Int) (hd : 0 < d) (_ : n.tmod d < 0) (h2 : d ≤ 2 * (n.tmod d + d)) : near n d = n.tdiv d := by
  have ⟨e, a, b, c, c'⟩ := tdiv_parts n d hd
  exact near_q n d _ (n.tmod d) hd e (by omega) (by omega)
theorem near_neg_down (n d : Int) (hd : 0 < d) (h : n.tmod d < 0) (h2 : ¬ d ≤ 2 * (n.tmod d + d)) : near n d = n.tdiv d - 1 := by
  have ⟨e, a, b, c, c'⟩ := tdiv_parts n d hd
  exact near_q n d _ (n.tmod d + d) hd (by rw [Int.sub_mul]; omega) (by omega) (by omega)
theorem near_pos_up (n d : Int) (hd : 0 < d) (h : ¬ n.tmod d < 0) (h2 : d ≤ 2 * n.tmod d) : near n d = n.tdiv d + 1 := by
  have ⟨e, a, b, c, c'⟩ := tdiv_parts n d hd
  exact near_q n d _ (n.tmod d - d) hd (by rw [Int.add_mul]; omega) (by omega) (by omega)
theorem near_pos_down (n d : Int) (hd : 0 < d) (_ : ¬ n.tmod d < 0) (h2 : ¬ d ≤ 2 * n.tmod d) : near n d = n.tdiv d := by
  have ⟨e, a, b, c, c'⟩ := tdiv_parts n d hd
  exact near_q n d _ (n.tmod d) hd e (by omega) (by omega)

theorem tdiv_bd (n d B : Int) (hd : 0 < d) (h1 : -B ≤ n) (h2 : n ≤ B) : -B ≤ n.tdiv d ∧ n.tdiv d ≤ B := by
  have ⟨e, a, b, c, c'⟩ := tdiv_parts n d hd
  constructor
  · by_cases hq : n.tdiv d < 0
    · have h3 : n.tdiv d * d ≤ (-1) * d := Int.mul_le_mul_of_nonneg_right (by omega) (by omega)
      have h4 : n.tdiv d * d ≤ n.tdiv d * 1 := Int.mul_le_mul_of_nonpos_left (by omega) (by omega)
      have := c' (by omega)
      by_cases h5 : n.tdiv d < -B
      · have h6 : n.tdiv d * d ≤ (-B - 1) * d := Int.mul_le_mul_of_nonneg_right (by omega) (by omega)
        have h7 : (-B - 1) * d ≤ (-B - 1) * 1 := Int.mul_le_mul_of_nonpos_left (by omega) (by omega)
        have h8 : B * 1 ≤ B * d := Int.mul_le_mul_of_nonneg_left (by omega) (by omega)
        have e1 : (-B - 1) * d = -(B * d) - d := by rw [Int.sub_mul, Int.neg_mul, Int.one_mul]
        omega
      · omega
    · omega
  · by_cases h5 : B < n.tdiv d
    · have h6 : (B + 1) * d ≤ n.tdiv d * d := Int.mul_le_mul_of_nonneg_right (by omega) (by omega)
      have h8 : B * 1 ≤ B * d := Int.mul_le_mul_of_nonneg_left (by omega) (by omega)
      have e1 : (B + 1) * d = B * d + d := by rw [Int.add_mul, Int.one_mul]
      omega
    · omega

theorem ediv_neg (n d : Int) (hd : 0 < d) (h : n.tmod d < 0) : n / d = n.tdiv d - 1 := by
  have ⟨e, a, b, c, c'⟩ := tdiv_parts n d hd
  have h1 := Int.ediv_mul_le n (b := d) (by omega)
  have h2 := Int.lt_ediv_add_one_mul_self n (b := d) hd
  have e2 : (n.tdiv d - 1) * d = n.tdiv d * d - d := by rw [Int.sub_mul, Int.one_mul]
  rcases Int.lt_trichotomy (n / d) (n.tdiv d - 1) with h3 | h3 | h3
  · have : (n / d + 1) * d ≤ (n.tdiv d - 1) * d := Int.mul_le_mul_of_nonneg_right (by omega) (by omega)
    omega
  · exact h3
  · have : (n.tdiv d) * d ≤ (n / d) * d := Int.mul_le_mul_of_nonneg_right (by omega) (by omega)
    omega
theorem ediv_pos (n d : Int) (hd : 0 < d) (h : 0 ≤ n.tmod d) : n / d = n.tdiv d := by
  have ⟨e, a, b, c, c'⟩ := tdiv_parts n d hd
  have h1 := Int.ediv_mul_le n (b := d) (by omega)
  have h2 := Int.lt_ediv_add_one_mul_self n (b := d) hd
  rcases Int.lt_trichotomy (n / d) (n.tdiv d) with h3 | h3 | h3
  · have : (n / d + 1) * d ≤ (n.tdiv d) * d := Int.mul_le_mul_of_nonneg_right (by omega) (by omega)
    omega
  · exact h3
  · have : (n.tdiv d + 1) * d ≤ (n / d) * d := Int.mul_le_mul_of_nonneg_right (by omega) (by omega)
    rw [Int.add_mul, Int.one_mul] at this
    omega
theorem ediv_parts (n d : Int) (hd : 0 < d) : n / d * d ≤ n ∧ n < n / d * d + d := by
  have h1 := Int.ediv_mul_le n (b := d) (by omega)
  have h2 := Int.lt_ediv_add_one_mul_self n (b := d) hd
  rw [Int.add_mul, Int.one_mul] at h2
  omega
theorem ediv_bd (n d B : Int) (hd : 0 < d) (h1 : -B ≤ n) (h2 : n ≤ B) : -B - 1 ≤ n / d ∧ n / d ≤ B := by
  obtain ⟨a, b⟩ := tdiv_bd n d B hd h1 h2
  by_cases h : n.tmod d < 0
  · rw [ediv_neg n d hd h]; omega
  · rw [ediv_pos n d hd (by omega)]; omega
theorem near_ediv_up (n d : Int) (hd : 0 < d) (h : d - (n - n / d * d) ≤ n - n / d * d) : near n d = n / d + 1 := by
  have ⟨a, b⟩ := ediv_parts n d hd
  exact near_q n d _ (n - n / d * d - d) hd (by rw [Int.add_mul]; omega) (by omega) (by omega)
theorem near_ediv_down (n d : Int) (hd : 0 < d) (h : n - n / d * d < d - (n - n / d * d)) : near n d = n / d := by
  have ⟨a, b⟩ := ediv_parts n d hd
  exact near_q n d _ (n - n / d * d) hd (by omega) (by omega) (by omega)
theorem near_bd (n d B : Int) (hd : 0 < d) (h1 : -B ≤ n) (h2 : n ≤ B) : -B - 1 ≤ near n d ∧ near n d ≤ B + 1 := by
  have ⟨a, b⟩ := ediv_bd n d B hd h1 h2
  by_cases h : d - (n - n / d * d) ≤ n - n / d * d
  · rw [near_ediv_up n d hd h]; omega
  · rw [near_ediv_down n d hd (by omega)]; omega

end Go.Proofs.Ytkklppjimnkibaa.FixA
