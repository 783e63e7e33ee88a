/-
  One, two or three bits that are turned among 16000 do not cancel.
-/
import Derived.Test.YtnlppgdkimaddaaCrcN
namespace Go.Proofs.Ytnlppgdkimaddaa.CrcO
open CrcA CrcC CrcN
set_option linter.unusedVariables false
theorem xor_zero {x y : Nat} (h : x ^^^ y = 0) : x = y := by
  have h2 : x ^^^ y ^^^ y = 0 ^^^ y := by rw [h]
  rwa [Nat.xor_assoc, Nat.xor_self, Nat.xor_zero, Nat.zero_xor] at h2
theorem bstep_zero {x : Nat} (h : x < 4294967296) (h0 : bstep x = 0) : x = 0 := by
  unfold bstep at h0
  split at h0
  · exfalso
    have h1 : x / 2 = 3988292384 := xor_zero h0
    omega
  · omega
theorem iterB_zero {x : Nat} (h : x < 4294967296) : ∀ k, iterB k x = 0 → x = 0
  | 0, h0 => h0
  | k + 1, h0 => iterB_zero h k (bstep_zero (iterB_lt h k) h0)
theorem iterB_add (x b : Nat) : ∀ a, iterB (a + b) x = iterB a (iterB b x)
  | 0 => by rw [Nat.zero_add]; rfl
  | a + 1 => by
    rw [show a + 1 + b = (a + b) + 1 by omega]
    show bstep (iterB (a + b) x) = bstep (iterB a (iterB b x))
    rw [iterB_add x b a]
theorem one_bit (a : Nat) : iterB a 1 ≠ 0 := fun h => by
  have := iterB_zero (x := 1) (by omega) a h
  omega
theorem two_lt {a b : Nat} (hab : b < a) (ha : a ≤ 16000) (hb : 1 ≤ b) : iterB a 1 ≠ iterB b 1 := fun h => by
  have e : iterB a 1 = iterB b (iterB (a - b) 1) := by rw [← iterB_add 1 (a - b) b, show b + (a - b) = a by omega]
  have h1 : iterB b (iterB (a - b) 1 ^^^ 1) = 0 := by rw [iterB_xor, ← e, h, Nat.xor_self]
  have h2 := iterB_zero (Nat.xor_lt_two_pow (n := 32) (iterB_lt (by omega) _) (by omega)) b h1
  have h3 : iterB (a - b) 1 = 1 := xor_zero h2
  have h4 := iter_inj (a := a - b) (b := 0) (by omega) (by omega) (by rw [h3]; rfl)
  omega
theorem two_bits {a b : Nat} (hab : a ≠ b) (ha : 1 ≤ a ∧ a ≤ 16000) (hb : 1 ≤ b ∧ b ≤ 16000) : iterB a 1 ≠ iterB b 1 := by
  rcases Nat.lt_or_ge b a with h | h
  · exact two_lt h ha.2 hb.1
  · exact fun e => two_lt (a := b) (b := a) (by omega) hb.2 ha.1 e.symm
theorem three_lt {a b c : Nat} (hab : a ≠ b) (hca : c < a) (hcb : c < b) (ha : a ≤ 16000) (hb : b ≤ 16000) (hc : 1 ≤ c) : iterB a 1 ^^^ iterB b 1 ≠ iterB c 1 := fun h => by
  have ea : iterB a 1 = iterB c (iterB (a - c) 1) := by rw [← iterB_add 1 (a - c) c, show c + (a - c) = a by omega]
  have eb : iterB b 1 = iterB c (iterB (b - c) 1) := by rw [← iterB_add 1 (b - c) c, show c + (b - c) = b by omega]
  have la : iterB (a - c) 1 < 4294967296 := iterB_lt (by omega) _
  have lb : iterB (b - c) 1 < 4294967296 := iterB_lt (by omega) _
  have h1 : iterB c (iterB (a - c) 1 ^^^ iterB (b - c) 1 ^^^ 1) = 0 := by rw [iterB_xor, iterB_xor, ← ea, ← eb, h, Nat.xor_self]
  have h2 := iterB_zero (Nat.xor_lt_two_pow (n := 32) (Nat.xor_lt_two_pow (n := 32) la lb) (by omega)) c h1
  have h3 : iterB (a - c) 1 ^^^ iterB (b - c) 1 = 1 := xor_zero h2
  have h4 : iterB (a - c) 1 / 2 = iterB (b - c) 1 / 2 := by
    have h5 : (iterB (a - c) 1 ^^^ iterB (b - c) 1) / 2 = 0 := by rw [h3]
    rw [xor_half2] at h5
    exact xor_zero h5
  have h6 := iter_inj (a := a - c) (b := b - c) (by omega) (by omega) h4
  omega
theorem three_bits {a b c : Nat} (hab : a ≠ b) (hac : a ≠ c) (hbc : b ≠ c) (ha : 1 ≤ a ∧ a ≤ 16000) (hb : 1 ≤ b ∧ b ≤ 16000) (hc : 1 ≤ c ∧ c ≤ 16000) : iterB a 1 ^^^ iterB b 1 ^^^ iterB c 1 ≠ 0 := fun h => by
  have h0 : iterB a 1 ^^^ iterB b 1 = iterB c 1 := xor_zero h
  rcases Nat.lt_or_ge c a with h1 | h1
  · rcases Nat.lt_or_ge c b with h2 | h2
    · exact three_lt hab h1 h2 ha.2 hb.2 hc.1 h0
    · -- b is the least
      refine three_lt (a := a) (b := c) (c := b) hac (by omega) (by omega) ha.2 hc.2 hb.1 ?_
      rw [← h0, ← Nat.xor_assoc, Nat.xor_self, Nat.zero_xor]
  · rcases Nat.lt_or_ge a b with h2 | h2
    · refine three_lt (a := b) (b := c) (c := a) hbc (by omega) (by omega) hb.2 hc.2 ha.1 ?_
      rw [← h0, Nat.xor_comm (iterB a 1), ← Nat.xor_assoc, Nat.xor_self, Nat.zero_xor]
    · refine three_lt (a := a) (b := c) (c := b) hac (by omega) (by omega) ha.2 hc.2 hb.1 ?_
      rw [← h0, ← Nat.xor_assoc, Nat.xor_self, Nat.zero_xor]
end Go.Proofs.Ytnlppgdkimaddaa.CrcO
