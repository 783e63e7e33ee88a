/-
  The walk of QueueBest, as its claim wants it.
-/
import Derived.Test.YtpbdgkjlmijipaaQuR
import Derived.Test.YtpbdgkjlmijipaaFlat
namespace Go.Proofs.Ytpbdgkjlmijipaa.QuWb
open Go.RowKit Rd Go.Proofs.Ytpbdgkjlmijipaa.Row QuR
set_option linter.unusedVariables false
theorem QueueBest_walk (a0 : Int) (a1 : Option Addr) (len1 cap1 : Nat) (x1 : List (List Value)) (w : World) (w0 : (Lit.int .i64 a0).wf = true) (w1 : Flat.IsRows [some .i64, some .i64] w a1 len1 cap1 x1) :
    Calls Try.prog 4 #[.int .i64 a0, .slice a1 len1 cap1] w fun e w' => e = .returned (.bool true) ∧ Below w.heap.size w w' := by
  obtain ⟨zs, hzl, hz, hR, -, -, -⟩ := Ints.rows_row (s := 2) (by omega) w1
  exact best_gen a0 a1 len1 cap1 zs w hz hzl hR
end Go.Proofs.Ytpbdgkjlmijipaa.QuWb
