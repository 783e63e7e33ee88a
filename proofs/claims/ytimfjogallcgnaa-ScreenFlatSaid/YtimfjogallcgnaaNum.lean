/-
  What the functions on parts answer that several packages use: nearest, Round, and the document's own near and down.
-/
import Derived.Test.YtimfjogallcgnaaFixA
import Derived.Test.YtimfjogallcgnaaRd
import Derived.Lib.BitFns
import Derived.Lib.Hide
namespace Go.Proofs.Ytimfjogallcgnaa.Num
open Go.RowKit FixA
set_option linter.unusedVariables false
set_option linter.unusedSimpArgs false
set_option maxRecDepth 4000

theorem ret_int {k : IntKind} {a b : Int} (h : a = b) : Ending.returned (.int k a) = .returned (.int k b) := by rw [h]
theorem ret_bool {a b : Bool} (h : a = b) : Ending.returned (.bool a) = .returned (.bool b) := by rw [h]
theorem ret_two {k k' : IntKind} {a a' b b' : Int} (h : a = b) (h' : a' = b') : Ending.returned (.tuple #[.int k a, .int k' a']) = .returned (.tuple #[.int k b, .int k' b']) := by rw [h, h']

theorem nearest_any (n d : Int) (w : World) (h1 : -4611686018427387904 ≤ n) (h2 : n ≤ 4611686018427387904) (hz2 : 1 ≤ d) (hd2 : d ≤ 1099511627776) :
    Calls Try.prog 31 #[.int .i64 n, .int .i64 d] w fun e w' => e = .returned (.int .i64 (near n d)) ∧ ∃ k, w' = w.drewN k := by
  have F := Lib.hid (tdiv_parts n d (by omega))
  have G := Lib.hid (tdiv_bd n d 4611686018427387904 (by omega) h1 h2)
  go_enter Try.func31, Try.ntmps31
  go_wp2
  go_quiet (fail)
  obtain ⟨-, a, b, -, -⟩ := F.out
  have G' := G.out
  go_wp2
  all_goals
    go_ret
    refine ⟨ret_int ?_, _, rfl⟩
    first
      | exact (near_neg_up n d (by omega) (by omega) (by omega)).symm
      | exact (near_neg_down n d (by omega) (by omega) (by omega)).symm
      | exact (near_pos_up n d (by omega) (by omega) (by omega)).symm
      | exact (near_pos_down n d (by omega) (by omega) (by omega)).symm

theorem rdown_any (n d : Int) (w : World) (h1 : -4611686018427387904 ≤ n) (h2 : n ≤ 4611686018427387904) (hz2 : 1 ≤ d) (hd2 : d ≤ 1099511627776) :
    Calls Try.prog 32 #[.int .i64 n, .int .i64 d] w fun e w' => e = .returned (.int .i64 (n / d)) ∧ w = w' := by
  have F := Lib.hid (tdiv_parts n d (by omega))
  have G := Lib.hid (tdiv_bd n d 4611686018427387904 (by omega) h1 h2)
  go_enter Try.func32, Try.ntmps32
  obtain ⟨-, a, b, -, -⟩ := F.out
  have G' := G.out
  go_wp2
  all_goals
    go_ret
    refine ⟨ret_int ?_, rfl⟩
    first
      | exact (ediv_neg n d (by omega) (by omega)).symm
      | exact (ediv_pos n d (by omega) (by omega)).symm

theorem rnear_any (n d : Int) (w : World) (h1 : -4611686018427387904 ≤ n) (h2 : n ≤ 4611686018427387904) (hz2 : 1 ≤ d) (hd2 : d ≤ 1099511627776) :
    Calls Try.prog 21 #[.int .i64 n, .int .i64 d] w fun e w' => e = .returned (.int .i64 (near n d)) ∧ w = w' := by
  have ⟨a, b⟩ := ediv_parts n d (by omega)
  have ⟨a', b'⟩ := ediv_bd n d 4611686018427387904 (by omega) h1 h2
  go_enter Try.func21, Try.ntmps21
  go_wp2_with (go_at_call 32; refine (rdown_any n d _ h1 h2 hz2 hd2).mono ?_; rintro e w' ⟨rfl, rfl⟩)
  all_goals
    go_ret
    refine ⟨ret_int ?_, rfl⟩
    first
      | exact (near_ediv_up n d (by omega) (by omega)).symm
      | exact (near_ediv_down n d (by omega) (by omega)).symm

def roundV (n d : Int) : Int × Int := if d < 1 ∨ 1099511627776 < d then (0, 1) else if n < -2305843009213693952 ∨ 2305843009213693952 < n then (0, 2) else (near n d, 0)
abbrev two (p : Int × Int) : Value := .tuple #[.int .i64 p.1, .int .i64 p.2]

theorem round_any (n d : Int) (w : World) (w0 : (Lit.int .i64 n).wf = true) (w1 : (Lit.int .i64 d).wf = true) :
    Calls Try.prog 18 #[.int .i64 n, .int .i64 d] w fun e w' => e = .returned (two (roundV n d)) ∧ ∃ k, w' = w.drewN k := by
  by_cases hd : d < 1 ∨ 1099511627776 < d
  · have e1 : roundV n d = (0, 1) := by simp [roundV, hd]
    rcases hd with hd | hd
    · go_enter Try.func18, Try.ntmps18
      go_wp2
      go_ret2
      exact ⟨by (try rw [e1]) <;> rfl, 0, rfl⟩
    · have hd' : ¬ d < 1 := by omega
      go_enter Try.func18, Try.ntmps18
      go_wp2
      go_ret2
      exact ⟨by (try rw [e1]) <;> rfl, 0, rfl⟩
  · have hd1 : 1 ≤ d := by omega
    have hd2 : d ≤ 1099511627776 := by omega
    by_cases hn : n < -2305843009213693952 ∨ 2305843009213693952 < n
    · have e1 : roundV n d = (0, 2) := by simp [roundV, hd, hn]
      clear hd
      rcases hn with hn | hn
      · go_enter Try.func18, Try.ntmps18
        go_wp2
        go_ret2
        exact ⟨by (try rw [e1]) <;> rfl, 0, rfl⟩
      · have hn' : ¬ n < -2305843009213693952 := by omega
        go_enter Try.func18, Try.ntmps18
        go_wp2
        go_ret2
        exact ⟨by (try rw [e1]) <;> rfl, 0, rfl⟩
    · have e1 : roundV n d = (near n d, 0) := by simp [roundV, hd, hn]
      have hn1 : -2305843009213693952 ≤ n := by omega
      have hn2 : n ≤ 2305843009213693952 := by omega
      clear hd hn
      go_enter Try.func18, Try.ntmps18
      go_wp2_with (go_at_call 31; refine (nearest_any n d _ (by omega) (by omega) (by omega) (by omega)).mono ?_; rintro e w' ⟨rfl, k, rfl⟩)
      go_ret2
      exact ⟨by (try rw [e1]) <;> rfl, _, rfl⟩

theorem wf_mk {a : Int} (h1 : -9223372036854775808 ≤ a) (h2 : a ≤ 9223372036854775807) : (Lit.int .i64 a).wf = true := WalkArith.wf_i64 (by omega)
theorem near_wf {n d : Int} (hd : 0 < d) (h1 : -4611686018427387904 ≤ n) (h2 : n ≤ 4611686018427387904) : (Lit.int .i64 (near n d)).wf = true := by
  have := near_bd n d 4611686018427387904 hd h1 h2
  exact wf_mk (by omega) (by omega)
theorem wf_bd {a : Int} (h : (Lit.int .i64 a).wf = true) : -9223372036854775808 ≤ a ∧ a ≤ 9223372036854775807 := by
  have h2 : (decide (IntKind.i64.min ≤ a) && decide (a ≤ IntKind.i64.max)) = true := h
  have e1 : IntKind.i64.min = -9223372036854775808 := by decide
  have e2 : IntKind.i64.max = 9223372036854775807 := by decide
  rw [e1, e2] at h2
  simpa using h2

theorem round_mid (n d : Int) (w : World) (h1 : -2305843009213693952 ≤ n) (h2 : n ≤ 2305843009213693952) (h3 : 1 ≤ d) (h4 : d ≤ 1099511627776) :
    Calls Try.prog 18 #[.int .i64 n, .int .i64 d] w fun e w' => e = .returned (.tuple #[.int .i64 (near n d), .int .i64 0]) ∧ Below w.heap.size w w' := by
  refine (round_any n d w (wf_mk (by omega) (by omega)) (wf_mk (by omega) (by omega))).mono ?_
  rintro e w' ⟨rfl, k, rfl⟩
  refine ⟨?_, Rd.below_drewN (Below.refl _ _) k⟩
  have : roundV n d = (near n d, 0) := by
    unfold roundV
    rw [if_neg (by omega), if_neg (by omega)]
  rw [this]
end Go.Proofs.Ytimfjogallcgnaa.Num
