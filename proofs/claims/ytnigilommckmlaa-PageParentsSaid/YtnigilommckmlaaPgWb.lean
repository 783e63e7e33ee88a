/-
  The walk of PageParents, as its claim wants it.
-/
import Derived.Test.YtnigilommckmlaaPgJ
import Derived.Test.YtnigilommckmlaaFlat
namespace Go.Proofs.Ytnigilommckmlaa.PgWb
open Go.RowKit Rd Go.Proofs.Ytnigilommckmlaa.Row PgJ
set_option linter.unusedVariables false
theorem PageParents_walk (a0 : Int) (a1 : Int) (w : World) (w0 : (Lit.int .i64 a0).wf = true) (w1 : (Lit.int .i64 a1).wf = true) :
    Calls Try.prog 4 #[.int .i64 a0, .int .i64 a1] w fun e w' => e = .returned (.bool true) ∧ Below w.heap.size w w' := by
  exact parents_gen a0 a1 w (PgI.wf_bd w0).1 (PgI.wf_bd w0).2 (PgI.wf_bd w1).1 (PgI.wf_bd w1).2
end Go.Proofs.Ytnigilommckmlaa.PgWb
