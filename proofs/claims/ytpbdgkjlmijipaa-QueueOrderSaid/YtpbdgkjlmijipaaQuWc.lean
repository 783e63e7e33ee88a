/-
  The walk of QueueOrder, as its claim wants it.
-/
import Derived.Test.YtpbdgkjlmijipaaQuS
import Derived.Test.YtpbdgkjlmijipaaFlat
namespace Go.Proofs.Ytpbdgkjlmijipaa.QuWc
open Go.RowKit Rd Go.Proofs.Ytpbdgkjlmijipaa.Row QuS
set_option linter.unusedVariables false
theorem QueueOrder_walk (a0 : Int) (a1 : Int) (a2 : Option Addr) (len2 cap2 : Nat) (x2 : List (List Value)) (w : World) (w0 : (Lit.int .i64 a0).wf = true) (w1 : (Lit.int .i64 a1).wf = true) (w2 : Flat.IsRows [some .i64, some .i64] w a2 len2 cap2 x2) :
    Calls Try.prog 5 #[.int .i64 a0, .int .i64 a1, .slice a2 len2 cap2] w fun e w' => e = .returned (.bool true) ∧ Below w.heap.size w w' := by
  obtain ⟨zs, hzl, hz, hR, -, -, -⟩ := Ints.rows_row (s := 2) (by omega) w2
  exact order_gen a0 a1 a2 len2 cap2 zs w (wf_bd w1).1 (wf_bd w1).2 hz hzl hR
end Go.Proofs.Ytpbdgkjlmijipaa.QuWc
