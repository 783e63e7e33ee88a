/-
  What the functions on parts answer that several packages use: nearest, Round, and the document's own near and down.
-/
import Derived.Test.YtkklppjimnkibaaFixA
import Derived.Test.YtkklppjimnkibaaRd
import Derived.Lib.BitFns
import Derived.Lib.Hide
namespace Go.Proofs.Ytkklppjimnkibaa.Num
open Go.RowKit FixA
set_option linter.unusedVariables false
set_option linter.unusedSimpArgs false
set_option maxRecDepth 4000

theorem ret_int {k : IntKind} {a b : Int} (h : a = b) : Ending.returned (.int k a) = .returned (.int k b) := by rw [h]
theorem ret_bool {a b : Bool} (h : a = b) : Ending.returned (.bool a) = .returned (.bool b) := by rw [h]
theorem ret_two {k k' : IntKind} {a a' b b' : Int} (h : a = b) (h' : a' = b') : Ending.returned (.tuple #[.int k a, .int k' a']) = .returned (.tuple #[.int k b, .int k' b']) := by rw [h, h']




def roundV (n d : Int) : Int × Int := if d < 1 ∨ 1099511627776 < d then (0, 1) else if n < -2305843009213693952 ∨ 2305843009213693952 < n then (0, 2) else (near n d, 0)
abbrev two (p : Int × Int) : Value := .tuple #[.int .i64 p.1, .int .i64 p.2]


theorem wf_mk {a : Int} (h1 : -9223372036854775808 ≤ a) (h2 : a ≤ 9223372036854775807) : (Lit.int .i64 a).wf = true := WalkArith.wf_i64 (by omega)
theorem near_wf {n d : Int} (hd : 0 < d) (h1 : -4611686018427387904 ≤ n) (h2 : n ≤ 4611686018427387904) : (Lit.int .i64 (near n d)).wf = true := by
  have := near_bd n d 4611686018427387904 hd h1 h2
  exact wf_mk (by omega) (by omega)
theorem wf_bd {a : Int} (h : (Lit.int .i64 a).wf = true) : -9223372036854775808 ≤ a ∧ a ≤ 9223372036854775807 := by
  have h2 : (decide (IntKind.i64.min ≤ a) && decide (a ≤ IntKind.i64.max)) = true := h
  have e1 : IntKind.i64.min = -9223372036854775808 := by decide
  have e2 : IntKind.i64.max = 9223372036854775807 := by decide
  rw [e1, e2] at h2
  simpa using h2

end Go.Proofs.Ytkklppjimnkibaa.Num
