/-
  The walk of PageTells, as its claim wants it.
-/
import Derived.Test.YtnigilommckmlaaPgK
import Derived.Test.YtnigilommckmlaaFlat
namespace Go.Proofs.Ytnigilommckmlaa.PgWa
open Go.RowKit Rd Go.Proofs.Ytnigilommckmlaa.Row PgK
set_option linter.unusedVariables false
theorem PageTells_walk (a0 : Int) (a1_0 : Int) (a1_1 : Int) (a1_2 : Int) (a2_0 : Int) (a2_1 : Int) (a2_2 : Int) (a3 : Int) (a4 : Int) (a5 : Int) (w : World) (w0 : (Lit.int .i64 a0).wf = true) (w1_0 : (Lit.int .i64 a1_0).wf = true) (w1_1 : (Lit.int .i64 a1_1).wf = true) (w1_2 : (Lit.int .i64 a1_2).wf = true) (w2_0 : (Lit.int .i64 a2_0).wf = true) (w2_1 : (Lit.int .i64 a2_1).wf = true) (w2_2 : (Lit.int .i64 a2_2).wf = true) (w3 : (Lit.int .i64 a3).wf = true) (w4 : (Lit.int .i64 a4).wf = true) (w5 : (Lit.int .i64 a5).wf = true) :
    Calls Try.prog 3 #[.int .i64 a0, .agg #[.int .i64 a1_0, .int .i64 a1_1, .int .i64 a1_2], .agg #[.int .i64 a2_0, .int .i64 a2_1, .int .i64 a2_2], .int .i64 a3, .int .i64 a4, .int .i64 a5] w fun e w' => e = .returned (.bool true) ∧ Below w.heap.size w w' := by
  exact tells_gen a0 a1_0 a1_1 a1_2 a2_0 a2_1 a2_2 a3 a4 a5 w (PgI.wf_bd w5).1 (PgI.wf_bd w5).2
end Go.Proofs.Ytnigilommckmlaa.PgWa
