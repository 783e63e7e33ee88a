/-
  The logarithm: what package fix answers, and the document's own answer.
-/
import Derived.Test.YtjbmochndpdolaaAlike
import Derived.Test.YtjbmochndpdolaaShelf
import Derived.Lib.BitFns
namespace Go.Proofs.Ytjbmochndpdolaa.Log
open Go.RowKit Alk
set_option linter.unusedVariables false
set_option linter.unusedSimpArgs false
set_option maxRecDepth 2000

theorem wf_bd {a : Int} (h : (Lit.int .i64 a).wf = true) : -9223372036854775808 ≤ a ∧ a ≤ 9223372036854775807 := bounds_i64 h
theorem wf_mk {a : Int} (h1 : -9223372036854775808 ≤ a) (h2 : a ≤ 9223372036854775807) : (Lit.int .i64 a).wf = true := WalkArith.wf_i64 (by omega)
def log2V (n : Int) : Int := if n < 1 then -1 else (Lib.bitLen n.toNat : Int) - 1
theorem log2_half {n : Int} (h0 : 0 < n) (h : n ≤ 9223372036854775807) : log2V n = log2V (n / 2) + 1 := by
  unfold log2V
  rw [if_neg (by omega)]
  have e := Lib.bitLen_half n.toNat (by omega) (by omega)
  by_cases h1 : n / 2 < 1
  · rw [if_pos h1]
    have : n.toNat = 1 := by omega
    rw [this] at e ⊢
    have : Lib.bitLen 1 = 1 := by decide
    omega
  · rw [if_neg h1, e]
    have : n.toNat / 2 = (n / 2).toNat := by omega
    rw [this]; omega

theorem log2_any (n : Int) (w : World) (w0 : (Lit.int .i64 n).wf = true) :
    Calls Try.prog 20 #[.int .i64 n] w fun e w' => e = .returned (.int .i64 (log2V n)) ∧ w = w' := by
  have ⟨b0, b1⟩ := wf_bd w0
  by_cases h : n < 1
  · have e1 : log2V n = -1 := by simp [log2V, h]
    go_enter Try.func20, Try.ntmps20
    go_wp2
    go_ret
    exact ⟨by (try rw [e1]) <;> rfl, rfl⟩
  · have h0 : 1 ≤ n := by omega
    have e1 : log2V n = (Lib.bitLen n.toNat : Int) - 1 := by simp [log2V, h]
    have bl : Lib.bitLen n.toNat ≤ 64 := Lib.bitLen_le _ 64 (by omega) (by omega)
    clear h
    go_enter Try.func20, Try.ntmps20
    go_wp2_with (go_at_call 36; refine (Try.bits_Len _ _ (by omega) (by omega)).mono ?_; rintro e w' ⟨rfl, rfl⟩)
    go_ret
    exact ⟨by (try rw [e1]) <;> rfl, rfl⟩

theorem log2_lo {n : Int} (h0 : 0 < n) (h : n ≤ 9223372036854775807) : 0 ≤ log2V n := by
  unfold log2V
  rw [if_neg (by omega)]
  have e := Lib.bitLen_half n.toNat (by omega) (by omega)
  omega
theorem log2_hi {n : Int} (h : n ≤ 9223372036854775807) : -1 ≤ log2V n ∧ log2V n ≤ 63 := by
  unfold log2V
  split
  · omega
  · have := Lib.bitLen_le n.toNat 64 (by omega) (by omega)
    omega
theorem log2_none {n : Int} (h : n < 1) : log2V n = -1 := by simp [log2V, h]

theorem rlog2_any (n : Int) (w : World) (w0 : (Lit.int .i64 n).wf = true) :
    Calls Try.prog 24 #[.int .i64 n] w fun e w' => e = .returned (.int .i64 (log2V n)) ∧ w = w' := by
  have ⟨b0, b1⟩ := wf_bd w0
  go_enter Try.func24, Try.ntmps24
  go_wp2
  go_loop [0, 3] (fun a b => ∃ x k : Int, x ≤ n ∧ (n < 1 → x < 1) ∧ -1 ≤ k ∧ log2V n = k + 1 + log2V x ∧ a = .int .i64 x ∧ b = .int .i64 k) (fun a _ => (intOf a).toNat)
  case atStart => exact ⟨n, -1, by omega, fun h => h, by omega, by omega, rfl, rfl⟩
  case round =>
    obtain ⟨x, k, hx, hx1, hk, he, rfl, rfl⟩ := hrel
    have hn := log2_hi b1
    by_cases h : 0 < x
    · have hx2 := log2_lo h (by omega)
      have HE := Lib.hid he
      have HH := Lib.hid (log2_half h (by omega))
      have hk2 : k ≤ 63 := by omega
      clear he hn hx2
      go_wp2
      go_ways
      go_round
      case rel => exact ⟨x / 2, k + 1, by omega, by omega, by omega, by rw [HE.out, HH.out]; omega, by go_num, by go_num⟩
      case measure => simp [intOf]; omega
    · have hl : log2V n = k := by rw [he, log2_none (by omega)]; omega
      have HL := Lib.hid hl
      clear he hn hl
      go_wp2
      go_ret
      exact ⟨ret_int HL.out.symm, rfl⟩
theorem log2_pow (k : Nat) : ∀ n : Int, (2 : Int) ^ k ≤ n → n < 2 ^ (k + 1) → k + 1 ≤ 63 → log2V n = k := by
  induction k with
  | zero => intro n h1 h2 _; have : n = 1 := by omega
            subst this; decide
  | succ k ih =>
    intro n h1 h2 h3
    have p1 : (2 : Int) ^ (k + 1) = 2 * 2 ^ k := by rw [Int.pow_succ]; omega
    have p2 : (2 : Int) ^ (k + 1 + 1) = 4 * 2 ^ k := by rw [Int.pow_succ, p1]; omega
    have p3 : (0 : Int) < 2 ^ k := Int.pow_pos (by omega)
    have p4 : (2 : Nat) ^ (k + 1 + 1) ≤ 2 ^ 63 := Nat.pow_le_pow_right (by omega) (by omega)
    have p5 : ((2 ^ (k + 1 + 1) : Nat) : Int) = 2 ^ (k + 1 + 1) := by rw [Int.natCast_pow]; rfl
    have p6 : (2 : Nat) ^ 63 = 9223372036854775808 := by decide
    rw [log2_half (by omega) (by omega), ih (n / 2) (by omega) (by omega) (by omega)]
    omega

theorem log2_exists (j : Nat) : ∀ n : Int, 1 ≤ n → n < 2 ^ j → ∃ k : Nat, k < j ∧ (2 : Int) ^ k ≤ n ∧ n < 2 ^ (k + 1) := by
  induction j with
  | zero => intro n h1 h2; exfalso; have : (2 : Int) ^ 0 = 1 := rfl; omega
  | succ j ih =>
    intro n h1 h2
    by_cases h : n < 2 ^ j
    · obtain ⟨k, a, b, c⟩ := ih n h1 h
      exact ⟨k, by omega, b, c⟩
    · exact ⟨j, by omega, by omega, h2⟩
theorem log2_of (a : Int) (h1 : 1 ≤ a) (h2 : a ≤ 2147483648) : ∃ K : Nat, log2V a = K ∧ K ≤ 31 ∧ (2 : Int) ^ K ≤ a ∧ a < 2 * 2 ^ K := by
  obtain ⟨k, b, c, d⟩ := log2_exists 32 a h1 (by have : (2 : Int) ^ 32 = 4294967296 := by decide
                                                 omega)
  refine ⟨k, log2_pow k a c d (by omega), by omega, c, ?_⟩
  rw [Int.pow_succ] at d; omega

end Go.Proofs.Ytjbmochndpdolaa.Log
