/-
  Three bits that are turned, one behind the other, in a row of 2000 bytes or fewer: its sum is another one.
-/
import Derived.Test.YtnlppgdkimaddaaCrcO
namespace Go.Proofs.Ytnlppgdkimaddaa.CrcP
open CrcA CrcB CrcC CrcO
set_option linter.unusedVariables false
/-- one bit is turned -/
def flip (zs : List Int) (k : Nat) : List Int := zs.set (k / 8) (((zs.getD (k / 8) 0).toNat ^^^ 2 ^ (k % 8) : Nat) : Int)
theorem flip_len (zs : List Int) (k : Nat) : (flip zs k).length = zs.length := by simp [flip]
theorem stepN_zero (y : Nat) : stepN y 0 = iterB 8 y := by rw [← step_eq, Nat.xor_zero]; rfl
/-- what is more at the start is carried along -/
theorem onF_carry : ∀ (zs : List Int) (x y : Nat), onF (x ^^^ y) zs = onF x zs ^^^ iterB (8 * zs.length) y
  | [], x, y => rfl
  | z :: zs, x, y => by
    show onF (stepN (x ^^^ y) z.toNat) zs = onF (stepN x z.toNat) zs ^^^ iterB (8 * (zs.length + 1)) y
    have e : stepN (x ^^^ y) z.toNat = stepN x z.toNat ^^^ iterB 8 y := by
      rw [← stepN_zero, ← stepN_xor, Nat.xor_zero]
    rw [e, onF_carry zs, show 8 * (zs.length + 1) = 8 * zs.length + 8 by omega, iterB_add]
theorem stepN_bit {r : Nat} (hr : r < 8) : stepN 0 (2 ^ r) = iterB (8 - r) 1 := by
  rw [← step_eq, Nat.zero_xor]
  show iterB 8 (2 ^ r) = _
  have h := iterB_shift r 1
  rw [Nat.mul_one] at h
  rw [show 8 = 8 - r + r by omega, iterB_add, h]
  congr 1
  omega
theorem onF_app (c : Nat) (xs ys : List Int) : onF c (xs ++ ys) = onF (onF c xs) ys := by unfold onF; rw [List.foldl_append]
theorem flip_at {pre post : List Int} {z : Int} {k : Nat} (h : k / 8 = pre.length) : flip (pre ++ z :: post) k = pre ++ ((z.toNat ^^^ 2 ^ (k % 8) : Nat) : Int) :: post := by
  unfold flip
  rw [h]
  have e : (pre ++ z :: post).getD pre.length 0 = z := by
    rw [List.getD_eq_getElem?_getD, List.getElem?_append_right (Nat.le_refl _), Nat.sub_self]
    rfl
  rw [e, List.set_append_right _ _ (Nat.le_refl _), Nat.sub_self]
  rfl
theorem onF_flip {zs : List Int} {k : Nat} (c : Nat) (hk : k < 8 * zs.length) : onF c (flip zs k) = onF c zs ^^^ iterB (8 * zs.length - k) 1 := by
  have hj : k / 8 < zs.length := by omega
  obtain ⟨pre, z, post, e, hp⟩ : ∃ pre z post, zs = pre ++ z :: post ∧ k / 8 = pre.length := by
    refine ⟨zs.take (k / 8), zs[k / 8], zs.drop (k / 8 + 1), ?_, by rw [List.length_take]; omega⟩
    rw [List.getElem_cons_drop, List.take_append_drop]
  subst e
  rw [flip_at hp, onF_app, onF_app]
  show onF (stepN (onF c pre) (z.toNat ^^^ 2 ^ (k % 8))) post = onF (stepN (onF c pre) z.toNat) post ^^^ _
  have e1 : stepN (onF c pre) (z.toNat ^^^ 2 ^ (k % 8)) = stepN (onF c pre) z.toNat ^^^ iterB (8 - k % 8) 1 := by
    rw [← stepN_bit (Nat.mod_lt _ (by omega)), ← stepN_xor, Nat.xor_zero]
  rw [e1, onF_carry, ← iterB_add]
  congr 2
  rw [List.length_append, List.length_cons]
  omega
theorem three_any {n i j k : Nat} (hn : n ≤ 16000) (hi : i < n) (hj : j < n) (hk : k < n) : iterB (n - i) 1 ^^^ iterB (n - j) 1 ^^^ iterB (n - k) 1 ≠ 0 := by
  by_cases h1 : i = j
  · subst h1
    rw [Nat.xor_self, Nat.zero_xor]
    exact one_bit _
  · by_cases h2 : i = k
    · subst h2
      rw [Nat.xor_comm (iterB (n - i) 1), Nat.xor_assoc, Nat.xor_self, Nat.xor_zero]
      exact one_bit _
    · by_cases h3 : j = k
      · subst h3
        rw [Nat.xor_assoc, Nat.xor_self, Nat.xor_zero]
        exact one_bit _
      · exact three_bits (by omega) (by omega) (by omega) (by omega) (by omega) (by omega)
theorem flips_ne {zs : List Int} {i j k : Nat} (hl : zs.length ≤ 2000) (hi : i < 8 * zs.length) (hj : j < 8 * zs.length) (hk : k < 8 * zs.length) (c : Nat) : onF c (flip (flip (flip zs i) j) k) ≠ onF c zs := fun h => by
  rw [onF_flip c (by rw [flip_len, flip_len]; exact hk), onF_flip c (by rw [flip_len]; exact hj), onF_flip c hi] at h
  simp only [flip_len] at h
  have h2 : onF c zs ^^^ (iterB (8 * zs.length - i) 1 ^^^ iterB (8 * zs.length - j) 1 ^^^ iterB (8 * zs.length - k) 1) = onF c zs ^^^ 0 := by
    rw [Nat.xor_zero, ← Nat.xor_assoc, ← Nat.xor_assoc]; exact h
  have h3 : iterB (8 * zs.length - i) 1 ^^^ iterB (8 * zs.length - j) 1 ^^^ iterB (8 * zs.length - k) 1 = 0 := by
    have h4 : onF c zs ^^^ (onF c zs ^^^ (iterB (8 * zs.length - i) 1 ^^^ iterB (8 * zs.length - j) 1 ^^^ iterB (8 * zs.length - k) 1)) = onF c zs ^^^ (onF c zs ^^^ 0) := by rw [h2]
    rw [← Nat.xor_assoc (onF c zs) (onF c zs), ← Nat.xor_assoc (onF c zs) (onF c zs), Nat.xor_self, Nat.zero_xor, Nat.zero_xor] at h4
    exact h4
  exact three_any (by omega) hi hj hk h3
end Go.Proofs.Ytnlppgdkimaddaa.CrcP
