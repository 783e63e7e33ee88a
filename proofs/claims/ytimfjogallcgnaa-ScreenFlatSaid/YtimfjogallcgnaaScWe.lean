/-
  The walk of ScreenFlat, as its claim wants it.
-/
import Derived.Test.YtimfjogallcgnaaScP
import Derived.Test.YtimfjogallcgnaaFlat
namespace Go.Proofs.Ytimfjogallcgnaa.ScWe
open Go.RowKit Rd Go.Proofs.Ytimfjogallcgnaa.Row ScP
set_option linter.unusedVariables false
theorem ScreenFlat_walk (a0_0 : Int) (a0_1 : Int) (a0_2 : Int) (a0_3 : Int) (a0_4 : Int) (a0_5 : Int) (a1 : Int) (a2 : Int) (w : World) (w0_0 : (Lit.int .i64 a0_0).wf = true) (w0_1 : (Lit.int .i64 a0_1).wf = true) (w0_2 : (Lit.int .i64 a0_2).wf = true) (w0_3 : (Lit.int .i64 a0_3).wf = true) (w0_4 : (Lit.int .i64 a0_4).wf = true) (w0_5 : (Lit.int .i64 a0_5).wf = true) (w1 : (Lit.int .i64 a1).wf = true) (w2 : (Lit.int .i64 a2).wf = true) :
    Calls Try.prog 6 #[.agg #[.int .i64 a0_0, .int .i64 a0_1, .int .i64 a0_2, .int .i64 a0_3, .int .i64 a0_4, .int .i64 a0_5], .int .i64 a1, .int .i64 a2] w fun e w' => e = .returned (.bool true) ∧ Below w.heap.size w w' := by
  exact flat_gen a0_0 a0_1 a0_2 a0_3 a0_4 a0_5 a1 a2 w
end Go.Proofs.Ytimfjogallcgnaa.ScWe
