/-
  What the functions that several laws share answer.
-/
import Derived.Test.YtkklppjimnkibaaRd
namespace Go.Proofs.Ytkklppjimnkibaa.Alk
open Go.RowKit Rd
set_option linter.unusedVariables false
set_option linter.unusedSimpArgs false
set_option maxRecDepth 4000

theorem ret_int {k : IntKind} {a b : Int} (h : a = b) : Ending.returned (.int k a) = .returned (.int k b) := by rw [h]
theorem ret_bool {a b : Bool} (h : a = b) : Ending.returned (.bool a) = .returned (.bool b) := by rw [h]

theorem round_eq (k n : Int) (hn : 0 < n) : (k.tmod n + n) % n = k % n := by
  have h := Int.tdiv_mul_add_tmod k n
  rw [Int.add_emod_right]
  have e : k % n = (k.tdiv n * n + k.tmod n) % n := by rw [h]
  rw [e, Int.add_comm, Int.add_mul_emod_self_right]
theorem round_any (k n : Int) (w : World) (h1 : -9223372036854775808 ≤ k) (h2 : k ≤ 9223372036854775807) (hn : 1 ≤ n) (hn2 : n ≤ 1099511627776) :
    Calls Try.prog 11 #[.int .i64 k, .int .i64 n] w fun e w' => e = .returned (.int .i64 (k % n)) ∧ w = w' := by
  have t1 := Int.tmod_lt_of_pos k (b := n) (by omega)
  have t2 : -n < k.tmod n := by
    have := Int.tmod_lt_of_pos (-k) (b := n) (by omega)
    rw [Int.neg_tmod] at this; omega
  have E := Lib.hid (round_eq k n (by omega))
  go_enter Try.func11, Try.ntmps11
  go_wp2
  go_ret
  exact ⟨ret_int E.out, rfl⟩

end Go.Proofs.Ytkklppjimnkibaa.Alk
