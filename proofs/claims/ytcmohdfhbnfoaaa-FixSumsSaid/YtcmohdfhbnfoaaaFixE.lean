/-
  What the law's own examples answer, and the six laws' walks.
-/
import Derived.Test.YtcmohdfhbnfoaaaFixD
import Derived.RowKit3
namespace Go.Proofs.Ytcmohdfhbnfoaaa.FixE
open Go.RowKit FixA FixB FixC FixD
set_option linter.unusedVariables false
set_option linter.unusedSimpArgs false
set_option maxRecDepth 4000

theorem awake_any (w : World) :
    Calls Try.prog 23 #[] w fun e w' => e = .returned (.bool true) ∧ ∃ k, w' = w.drewN k := by
  have e1 : mulV 98304 98304 = (147456, 0) := by decide
  have e2 : divV 65536 196608 = (21845, 0) := by decide
  have e3 : roundV (-3) 2 = (-1, 0) := by decide
  have e4 : mulV 2147483648 2147483648 = (0, 2) := by decide
  have e5 : divV 1 0 = (0, 1) := by decide
  have e6 : lerpV 0 10 32768 = (5, 0) := by decide
  have e7 : addV 2147483648 1 = (0, 2) := by decide
  have e8 : log2V 1023 = 9 := by decide
  have e9 : log2V 0 = -1 := by decide
  have e10 : okB 2147483648 = true := by decide
  have e11 : okB 2147483649 = false := by decide
  go_enter Try.func23, Try.ntmps23
  go_wp2_with (first
    | (go_at_call 11; refine (mul_any _ _ _ (by decide) (by decide)).mono ?_; rintro e w' ⟨rfl, k, rfl⟩)
    | (go_at_call 13; refine (div_any _ _ _ (by decide) (by decide)).mono ?_; rintro e w' ⟨rfl, k, rfl⟩)
    | (go_at_call 15; refine (round_any _ _ _ (by decide) (by decide)).mono ?_; rintro e w' ⟨rfl, k, rfl⟩)
    | (go_at_call 17; refine (lerp_any _ _ _ _ (by decide) (by decide) (by decide)).mono ?_; rintro e w' ⟨rfl, k, rfl⟩)
    | (go_at_call 9; refine (add_any _ _ _ (by decide) (by decide)).mono ?_; rintro e w' ⟨rfl, rfl⟩)
    | (go_at_call 21; refine (log2_any _ _ (by decide)).mono ?_; rintro e w' ⟨rfl, rfl⟩)
    | (go_at_call 19; refine (ok_any _ _ (by decide)).mono ?_; rintro e w' ⟨rfl, rfl⟩))
  go_ret
  exact ⟨rfl, _, rfl⟩

theorem drewN_grown {W w : World} (h : Grown W w) (k : Nat) : Grown W (w.drewN k) := by
  induction k generalizing w with
  | zero => exact h
  | succ k ih => exact ih (w := w.drew) (Grown.drew h)

theorem fits_err (a : Int) : 0 ≤ (fitsV a).2 ∧ (fitsV a).2 ≤ 2 := by
  unfold fitsV; split <;> simp
theorem add_err (a b : Int) : 0 ≤ (addV a b).2 ∧ (addV a b).2 ≤ 2 := by
  unfold addV; split
  · exact fits_err _
  · simp
theorem mul_err (a b : Int) : 0 ≤ (mulV a b).2 ∧ (mulV a b).2 ≤ 2 := by
  unfold mulV; split
  · exact fits_err _
  · simp
theorem div_err (a b : Int) : 0 ≤ (divV a b).2 ∧ (divV a b).2 ≤ 2 := by
  unfold divV; split
  · simp
  · split
    · split <;> exact fits_err _
    · simp
theorem round_err (a b : Int) : 0 ≤ (roundV a b).2 ∧ (roundV a b).2 ≤ 2 := by
  unfold roundV; split
  · simp
  · split <;> simp
theorem lerp_err (a b t : Int) : 0 ≤ (lerpV a b t).2 ∧ (lerpV a b t).2 ≤ 2 := by
  unfold lerpV; split
  · split <;> simp
  · simp

set_option maxHeartbeats 1000000 in
theorem FixTells_walk (a b t n d : Int) (w0 : (Lit.int .i64 a).wf = true) (w1 : (Lit.int .i64 b).wf = true) (w2 : (Lit.int .i64 t).wf = true) (w3 : (Lit.int .i64 n).wf = true) (w4 : (Lit.int .i64 d).wf = true) (w : World) :
    Calls Try.prog 3 #[.int .i64 a, .int .i64 b, .int .i64 t, .int .i64 n, .int .i64 d] w fun e w' => e = .returned (.bool true) ∧ Grown w w' := by
  have ⟨k1, k2⟩ := add_err a b
  have ⟨k3, k4⟩ := mul_err a b
  have ⟨k5, k6⟩ := div_err a b
  have ⟨k7, k8⟩ := round_err n d
  have ⟨k9, k10⟩ := lerp_err a b t
  go_enter Try.func3, Try.ntmps3
  go_wp2_with (first
    | (go_at_call 11; refine (mul_any _ _ _ (by assumption) (by assumption)).mono ?_; rintro e w' ⟨rfl, k, rfl⟩)
    | (go_at_call 13; refine (div_any _ _ _ (by assumption) (by assumption)).mono ?_; rintro e w' ⟨rfl, k, rfl⟩)
    | (go_at_call 15; refine (round_any _ _ _ (by assumption) (by assumption)).mono ?_; rintro e w' ⟨rfl, k, rfl⟩)
    | (go_at_call 17; refine (lerp_any _ _ _ _ (by assumption) (by assumption) (by assumption)).mono ?_; rintro e w' ⟨rfl, k, rfl⟩)
    | (go_at_call 9; refine (add_any _ _ _ (by assumption) (by assumption)).mono ?_; rintro e w' ⟨rfl, rfl⟩)
    | (go_at_call 21; refine (log2_any _ _ (by assumption)).mono ?_; rintro e w' ⟨rfl, rfl⟩)
    | (go_at_call 19; refine (ok_any _ _ (by assumption)).mono ?_; rintro e w' ⟨rfl, rfl⟩)
    | (go_at_call 12; refine (rmul_any _ _ _ (by assumption) (by assumption)).mono ?_; rintro e w' ⟨rfl, rfl⟩)
    | (go_at_call 14; refine (rdiv_any _ _ _ (by assumption) (by assumption)).mono ?_; rintro e w' ⟨rfl, rfl⟩)
    | (go_at_call 16; refine (rround_any _ _ _ (by assumption) (by assumption)).mono ?_; rintro e w' ⟨rfl, rfl⟩)
    | (go_at_call 18; refine (rlerp_any _ _ _ _ (by assumption) (by assumption) (by assumption)).mono ?_; rintro e w' ⟨rfl, rfl⟩)
    | (go_at_call 10; refine (radd_any _ _ _ (by assumption) (by assumption)).mono ?_; rintro e w' ⟨rfl, rfl⟩)
    | (go_at_call 22; refine (rlog2_any _ _ (by assumption)).mono ?_; rintro e w' ⟨rfl, rfl⟩)
    | (go_at_call 20; refine (rok_any _ _ (by assumption)).mono ?_; rintro e w' ⟨rfl, rfl⟩)
    | (go_at_call 23; refine (awake_any _).mono ?_; rintro e w' ⟨rfl, k, rfl⟩))
  go_ways
  go_ret
  exact ⟨rfl, drewN_grown (Grown.refl _) _⟩
end Go.Proofs.Ytcmohdfhbnfoaaa.FixE
