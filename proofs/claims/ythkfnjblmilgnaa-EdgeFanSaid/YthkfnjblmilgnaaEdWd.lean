/-
  The walk of EdgeFan, as its claim wants it.
-/
import Derived.Test.YthkfnjblmilgnaaEdQ
import Derived.Test.YthkfnjblmilgnaaFlat
namespace Go.Proofs.Ythkfnjblmilgnaa.EdWd
open Go.RowKit Rd Go.Proofs.Ythkfnjblmilgnaa.Row EdQ
set_option linter.unusedVariables false
theorem EdgeFan_walk (a0 : Int) (a1 : Int) (a2 : Int) (a3 : Int) (w : World) (w0 : (Lit.int .i64 a0).wf = true) (w1 : (Lit.int .i64 a1).wf = true) (w2 : (Lit.int .i64 a2).wf = true) (w3 : (Lit.int .i64 a3).wf = true) :
    Calls Try.prog 6 #[.int .i64 a0, .int .i64 a1, .int .i64 a2, .int .i64 a3] w fun e w' => e = .returned (.bool true) ∧ Below w.heap.size w w' := by
  exact fan_gen a0 a1 a2 a3 w (bounds_i64 w0).1 (bounds_i64 w0).2 (bounds_i64 w1).1 (bounds_i64 w1).2
end Go.Proofs.Ythkfnjblmilgnaa.EdWd
