/-
  The registers behind 0 to 15999 nought steps of 1, halved, are distinct.
-/
import Derived.Test.YtnlppgdkimaddaaCrcNb
namespace Go.Proofs.Ytnlppgdkimaddaa.CrcN
open CrcA CrcC CrcNa CrcNb
set_option maxRecDepth 1000000
def chk : Nat → Nat → Nat → Nat → Bool
  | 0, _, x, xe => Nat.beq x xe
  | f + 1, k, x, xe => Nat.beq (lookup_ tr (x / 2)) k && chk f (k + 1) (bstep x) xe
theorem chk_all : ∀ (f k x xe : Nat), chk f k x xe = true → x = iterB k 1 → (∀ j, j < f → lookup_ tr (iterB (k + j) 1 / 2) = k + j) ∧ iterB (k + f) 1 = xe
  | 0, k, x, xe, h, e => by
    have h' : Nat.beq x xe = true := h
    exact ⟨fun j hj => by omega, by rw [Nat.add_zero, ← e]; exact Nat.eq_of_beq_eq_true h'⟩
  | f + 1, k, x, xe, h, e => by
    have h' : (Nat.beq (lookup_ tr (x / 2)) k && chk f (k + 1) (bstep x) xe) = true := h
    rw [Bool.and_eq_true] at h'
    obtain ⟨h1, h2⟩ := h'
    obtain ⟨i1, i2⟩ := chk_all f (k + 1) (bstep x) xe h2 (by rw [e]; rfl)
    refine ⟨fun j hj => ?_, by rw [show k + (f + 1) = k + 1 + f by omega]; exact i2⟩
    cases j with
    | zero => rw [Nat.add_zero, ← e]; exact Nat.eq_of_beq_eq_true h1
    | succ j => rw [show k + (j + 1) = k + 1 + j by omega]; exact i1 j (by omega)
theorem c0 : chk 1000 0 1 2148622641 = true := by decide +kernel
theorem c1 : chk 1000 1000 2148622641 3315454115 = true := by decide +kernel
theorem c2 : chk 1000 2000 3315454115 3317109095 = true := by decide +kernel
theorem c3 : chk 1000 3000 3317109095 3850101308 = true := by decide +kernel
theorem c4 : chk 1000 4000 3850101308 535344435 = true := by decide +kernel
theorem c5 : chk 1000 5000 535344435 747344234 = true := by decide +kernel
theorem c6 : chk 1000 6000 747344234 4189803122 = true := by decide +kernel
theorem c7 : chk 1000 7000 4189803122 4053362832 = true := by decide +kernel
theorem c8 : chk 1000 8000 4053362832 2341099044 = true := by decide +kernel
theorem c9 : chk 1000 9000 2341099044 3896137456 = true := by decide +kernel
theorem c10 : chk 1000 10000 3896137456 2109635042 = true := by decide +kernel
theorem c11 : chk 1000 11000 2109635042 3544166793 = true := by decide +kernel
theorem c12 : chk 1000 12000 3544166793 3638210352 = true := by decide +kernel
theorem c13 : chk 1000 13000 3638210352 538392709 = true := by decide +kernel
theorem c14 : chk 1000 14000 538392709 1571732967 = true := by decide +kernel
theorem c15 : chk 1000 15000 1571732967 2177986941 = true := by decide +kernel
theorem s0 : 1 = iterB 0 1 := rfl
theorem a0 : (∀ j, j < 1000 → lookup_ tr (iterB (0 + j) 1 / 2) = 0 + j) ∧ iterB (0 + 1000) 1 = 2148622641 := chk_all _ _ _ _ c0 s0
theorem a1 : (∀ j, j < 1000 → lookup_ tr (iterB (1000 + j) 1 / 2) = 1000 + j) ∧ iterB (1000 + 1000) 1 = 3315454115 := chk_all _ _ _ _ c1 a0.2.symm
theorem a2 : (∀ j, j < 1000 → lookup_ tr (iterB (2000 + j) 1 / 2) = 2000 + j) ∧ iterB (2000 + 1000) 1 = 3317109095 := chk_all _ _ _ _ c2 a1.2.symm
theorem a3 : (∀ j, j < 1000 → lookup_ tr (iterB (3000 + j) 1 / 2) = 3000 + j) ∧ iterB (3000 + 1000) 1 = 3850101308 := chk_all _ _ _ _ c3 a2.2.symm
theorem a4 : (∀ j, j < 1000 → lookup_ tr (iterB (4000 + j) 1 / 2) = 4000 + j) ∧ iterB (4000 + 1000) 1 = 535344435 := chk_all _ _ _ _ c4 a3.2.symm
theorem a5 : (∀ j, j < 1000 → lookup_ tr (iterB (5000 + j) 1 / 2) = 5000 + j) ∧ iterB (5000 + 1000) 1 = 747344234 := chk_all _ _ _ _ c5 a4.2.symm
theorem a6 : (∀ j, j < 1000 → lookup_ tr (iterB (6000 + j) 1 / 2) = 6000 + j) ∧ iterB (6000 + 1000) 1 = 4189803122 := chk_all _ _ _ _ c6 a5.2.symm
theorem a7 : (∀ j, j < 1000 → lookup_ tr (iterB (7000 + j) 1 / 2) = 7000 + j) ∧ iterB (7000 + 1000) 1 = 4053362832 := chk_all _ _ _ _ c7 a6.2.symm
theorem a8 : (∀ j, j < 1000 → lookup_ tr (iterB (8000 + j) 1 / 2) = 8000 + j) ∧ iterB (8000 + 1000) 1 = 2341099044 := chk_all _ _ _ _ c8 a7.2.symm
theorem a9 : (∀ j, j < 1000 → lookup_ tr (iterB (9000 + j) 1 / 2) = 9000 + j) ∧ iterB (9000 + 1000) 1 = 3896137456 := chk_all _ _ _ _ c9 a8.2.symm
theorem a10 : (∀ j, j < 1000 → lookup_ tr (iterB (10000 + j) 1 / 2) = 10000 + j) ∧ iterB (10000 + 1000) 1 = 2109635042 := chk_all _ _ _ _ c10 a9.2.symm
theorem a11 : (∀ j, j < 1000 → lookup_ tr (iterB (11000 + j) 1 / 2) = 11000 + j) ∧ iterB (11000 + 1000) 1 = 3544166793 := chk_all _ _ _ _ c11 a10.2.symm
theorem a12 : (∀ j, j < 1000 → lookup_ tr (iterB (12000 + j) 1 / 2) = 12000 + j) ∧ iterB (12000 + 1000) 1 = 3638210352 := chk_all _ _ _ _ c12 a11.2.symm
theorem a13 : (∀ j, j < 1000 → lookup_ tr (iterB (13000 + j) 1 / 2) = 13000 + j) ∧ iterB (13000 + 1000) 1 = 538392709 := chk_all _ _ _ _ c13 a12.2.symm
theorem a14 : (∀ j, j < 1000 → lookup_ tr (iterB (14000 + j) 1 / 2) = 14000 + j) ∧ iterB (14000 + 1000) 1 = 1571732967 := chk_all _ _ _ _ c14 a13.2.symm
theorem a15 : (∀ j, j < 1000 → lookup_ tr (iterB (15000 + j) 1 / 2) = 15000 + j) ∧ iterB (15000 + 1000) 1 = 2177986941 := chk_all _ _ _ _ c15 a14.2.symm
theorem look_iter (k : Nat) (hk : k < 16000) : lookup_ tr (iterB k 1 / 2) = k := by
  have hq : k / 1000 = 0 ∨ k / 1000 = 1 ∨ k / 1000 = 2 ∨ k / 1000 = 3 ∨ k / 1000 = 4 ∨ k / 1000 = 5 ∨ k / 1000 = 6 ∨ k / 1000 = 7 ∨ k / 1000 = 8 ∨ k / 1000 = 9 ∨ k / 1000 = 10 ∨ k / 1000 = 11 ∨ k / 1000 = 12 ∨ k / 1000 = 13 ∨ k / 1000 = 14 ∨ k / 1000 = 15 := by omega
  rcases hq with h | h | h | h | h | h | h | h | h | h | h | h | h | h | h | h
  · have := a0.1 (k - 0) (by omega); rwa [show 0 + (k - 0) = k by omega] at this
  · have := a1.1 (k - 1000) (by omega); rwa [show 1000 + (k - 1000) = k by omega] at this
  · have := a2.1 (k - 2000) (by omega); rwa [show 2000 + (k - 2000) = k by omega] at this
  · have := a3.1 (k - 3000) (by omega); rwa [show 3000 + (k - 3000) = k by omega] at this
  · have := a4.1 (k - 4000) (by omega); rwa [show 4000 + (k - 4000) = k by omega] at this
  · have := a5.1 (k - 5000) (by omega); rwa [show 5000 + (k - 5000) = k by omega] at this
  · have := a6.1 (k - 6000) (by omega); rwa [show 6000 + (k - 6000) = k by omega] at this
  · have := a7.1 (k - 7000) (by omega); rwa [show 7000 + (k - 7000) = k by omega] at this
  · have := a8.1 (k - 8000) (by omega); rwa [show 8000 + (k - 8000) = k by omega] at this
  · have := a9.1 (k - 9000) (by omega); rwa [show 9000 + (k - 9000) = k by omega] at this
  · have := a10.1 (k - 10000) (by omega); rwa [show 10000 + (k - 10000) = k by omega] at this
  · have := a11.1 (k - 11000) (by omega); rwa [show 11000 + (k - 11000) = k by omega] at this
  · have := a12.1 (k - 12000) (by omega); rwa [show 12000 + (k - 12000) = k by omega] at this
  · have := a13.1 (k - 13000) (by omega); rwa [show 13000 + (k - 13000) = k by omega] at this
  · have := a14.1 (k - 14000) (by omega); rwa [show 14000 + (k - 14000) = k by omega] at this
  · have := a15.1 (k - 15000) (by omega); rwa [show 15000 + (k - 15000) = k by omega] at this
/-- no two of them are alike but for the lowest bit -/
theorem iter_inj {a b : Nat} (ha : a < 16000) (hb : b < 16000) (h : iterB a 1 / 2 = iterB b 1 / 2) : a = b := by
  rw [← look_iter a ha, ← look_iter b hb, h]
end Go.Proofs.Ytnlppgdkimaddaa.CrcN
