/-
  The walk of QueueActs, as its claim wants it.
-/
import Derived.Test.YtpbdgkjlmijipaaQuQ
import Derived.Test.YtpbdgkjlmijipaaFlat
namespace Go.Proofs.Ytpbdgkjlmijipaa.QuWa
open Go.RowKit Rd Go.Proofs.Ytpbdgkjlmijipaa.Row QuQ
set_option linter.unusedVariables false
theorem QueueActs_walk (a0 : Int) (a1 : Int) (a2 : Option Addr) (len2 cap2 : Nat) (x2 : List (List Value)) (a3_0 : Int) (a3_1 : Int) (a3_2 : Int) (w : World) (w0 : (Lit.int .i64 a0).wf = true) (w1 : (Lit.int .i64 a1).wf = true) (w2 : Flat.IsRows [some .i64, some .i64] w a2 len2 cap2 x2) (w3_0 : (Lit.int .i64 a3_0).wf = true) (w3_1 : (Lit.int .i64 a3_1).wf = true) (w3_2 : (Lit.int .i64 a3_2).wf = true) :
    Calls Try.prog 3 #[.int .i64 a0, .int .i64 a1, .slice a2 len2 cap2, .agg #[.int .i64 a3_0, .int .i64 a3_1, .int .i64 a3_2]] w fun e w' => e = .returned (.bool true) ∧ Below w.heap.size w w' := by
  obtain ⟨zs, hzl, hz, hR, -, -, -⟩ := Ints.rows_row (s := 2) (by omega) w2
  exact acts_gen a0 a1 a2 len2 cap2 zs a3_0 a3_1 a3_2 w hz hzl hR
end Go.Proofs.Ytpbdgkjlmijipaa.QuWa
