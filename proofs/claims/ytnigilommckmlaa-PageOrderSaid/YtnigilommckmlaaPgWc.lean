/-
  The walk of PageOrder, as its claim wants it.
-/
import Derived.Test.YtnigilommckmlaaPgI
import Derived.Test.YtnigilommckmlaaFlat
namespace Go.Proofs.Ytnigilommckmlaa.PgWc
open Go.RowKit Rd Go.Proofs.Ytnigilommckmlaa.Row PgI
set_option linter.unusedVariables false
theorem PageOrder_walk (a0 : Int) (a1 : Int) (a2 : Int) (w : World) (w0 : (Lit.int .i64 a0).wf = true) (w1 : (Lit.int .i64 a1).wf = true) (w2 : (Lit.int .i64 a2).wf = true) :
    Calls Try.prog 5 #[.int .i64 a0, .int .i64 a1, .int .i64 a2] w fun e w' => e = .returned (.bool true) ∧ Below w.heap.size w w' := by
  exact order_gen a0 a1 a2 w (PgI.wf_bd w0).1 (PgI.wf_bd w0).2 (PgI.wf_bd w1).1 (PgI.wf_bd w1).2 (PgI.wf_bd w2).1 (PgI.wf_bd w2).2
end Go.Proofs.Ytnigilommckmlaa.PgWc
