/-
  The sum byte by byte by the table is the one bit by bit; and sums are linear.
-/
import Derived.Test.YtnlppgdkimaddaaCrcB
namespace Go.Proofs.Ytnlppgdkimaddaa.CrcC
open Go.RowKit Rd Go.Proofs.Ytnlppgdkimaddaa.Row CrcA CrcB
set_option linter.unusedVariables false
set_option linter.unusedSimpArgs false
set_option maxRecDepth 10000

theorem xor_half2 (x y : Nat) : (x ^^^ y) / 2 = x / 2 ^^^ y / 2 := by
  apply Nat.eq_of_testBit_eq
  intro i
  simp [Nat.testBit_xor, Nat.testBit_div_two]
theorem xor_par (x y : Nat) : (x ^^^ y) % 2 = (x % 2 + y % 2) % 2 := by
  have h := Nat.testBit_xor x y 0
  simp only [Nat.testBit_zero] at h
  rcases Nat.mod_two_eq_zero_or_one x with hx | hx <;> rcases Nat.mod_two_eq_zero_or_one y with hy | hy <;> rcases Nat.mod_two_eq_zero_or_one (x ^^^ y) with hz | hz <;> simp [hx, hy, hz] at h ⊢
theorem xor_swap (a b p : Nat) : (a ^^^ p) ^^^ (b ^^^ p) = a ^^^ b := by
  apply Nat.eq_of_testBit_eq
  intro i
  simp only [Nat.testBit_xor]
  cases a.testBit i <;> cases b.testBit i <;> cases p.testBit i <;> rfl
theorem xor_in (a b p : Nat) : (a ^^^ b) ^^^ p = (a ^^^ p) ^^^ b := by
  apply Nat.eq_of_testBit_eq
  intro i
  simp only [Nat.testBit_xor]
  cases a.testBit i <;> cases b.testBit i <;> cases p.testBit i <;> rfl
theorem bstep_xor (x y : Nat) : bstep (x ^^^ y) = bstep x ^^^ bstep y := by
  unfold bstep
  rw [xor_par, xor_half2]
  rcases Nat.mod_two_eq_zero_or_one x with hx | hx <;> rcases Nat.mod_two_eq_zero_or_one y with hy | hy <;> simp only [hx, hy]
  · simp
  · simp [Nat.xor_assoc]
  · simp [xor_in]
  · simp [xor_swap]
theorem iterB_xor (x y : Nat) : ∀ k, iterB k (x ^^^ y) = iterB k x ^^^ iterB k y
  | 0 => rfl
  | k + 1 => by
    show bstep (iterB k (x ^^^ y)) = bstep (iterB k x) ^^^ bstep (iterB k y)
    rw [iterB_xor x y k, bstep_xor]
theorem bstep_two (m : Nat) : bstep (2 * m) = m := by
  unfold bstep
  rw [if_neg (by omega)]
  omega
theorem iterB_shift : ∀ (k m : Nat), iterB k (2 ^ k * m) = m
  | 0, m => by simp [iterB]
  | k + 1, m => by
    show bstep (iterB k (2 ^ (k + 1) * m)) = m
    rw [show 2 ^ (k + 1) * m = 2 ^ k * (2 * m) by rw [Nat.pow_succ, Nat.mul_assoc], iterB_shift k, bstep_two]
theorem split8 (c : Nat) : c = 2 ^ 8 * (c / 256) ^^^ c % 256 := by
  apply Nat.eq_of_testBit_eq
  intro i
  rw [Nat.testBit_xor, show c % 256 = c % 2 ^ 8 from rfl, Nat.testBit_mod_two_pow, Nat.testBit_two_pow_mul, show c / 256 = c / 2 ^ 8 from rfl, Nat.testBit_div_two_pow]
  by_cases h : i < 8
  · have h2 : ¬ i ≥ 8 := by omega
    simp [h, h2]
  · have h2 : i ≥ 8 := by omega
    simp [h, h2]
theorem step_eq (c b : Nat) : byteN (c ^^^ b) = stepN c b := by
  unfold stepN byteN
  have e : c ^^^ b = 2 ^ 8 * (c / 256) ^^^ (c % 256 ^^^ b) := by
    rw [← Nat.xor_assoc, ← split8]
  rw [e, iterB_xor, iterB_shift]
theorem byteN_xor (x y : Nat) : byteN (x ^^^ y) = byteN x ^^^ byteN y := iterB_xor x y 8
theorem stepN_xor (c d b e : Nat) : stepN (c ^^^ d) (b ^^^ e) = stepN c b ^^^ stepN d e := by
  rw [← step_eq, ← step_eq, ← step_eq, ← byteN_xor]
  congr 1
  rw [Nat.xor_assoc, Nat.xor_assoc, ← Nat.xor_assoc d b e, Nat.xor_comm d b, Nat.xor_assoc]
end Go.Proofs.Ytnlppgdkimaddaa.CrcC
