/-
  The walks of persp's laws, as the claims want them.
-/
import Derived.Test.YtjbmochndpdolaaTriJ
import Derived.Test.YtjbmochndpdolaaFlat
namespace Go.Proofs.Ytjbmochndpdolaa.TriV
open Go.RowKit Rd Go.Proofs.Ytjbmochndpdolaa.Row TriA TriJ
set_option linter.unusedVariables false
theorem PerspStraight_walk (a0_0 : Int) (a0_1 : Int) (a1 : Int) (a2_0 : Int) (a2_1 : Int) (a2_2 : Int) (a3 : Int) (w : World) (w0_0 : (Lit.int .i64 a0_0).wf = true) (w0_1 : (Lit.int .i64 a0_1).wf = true) (w1 : (Lit.int .i64 a1).wf = true) (w2_0 : (Lit.int .i64 a2_0).wf = true) (w2_1 : (Lit.int .i64 a2_1).wf = true) (w2_2 : (Lit.int .i64 a2_2).wf = true) (w3 : (Lit.int .i64 a3).wf = true) :
    Calls Try.prog 6 #[.agg #[.int .i64 a0_0, .int .i64 a0_1], .int .i64 a1, .agg #[.int .i64 a2_0, .int .i64 a2_1, .int .i64 a2_2], .int .i64 a3] w fun e w' => e = .returned (.bool true) ∧ Below w.heap.size w w' := 
  straight_gen a0_0 a0_1 a1 a2_0 a2_1 a2_2 a3 w 
end Go.Proofs.Ytjbmochndpdolaa.TriV
