/-
  The walk of LzShort, as its claim wants it.
-/
import Derived.Test.YtminaamfelcajaaLzF
import Derived.Test.YtminaamfelcajaaFlat
namespace Go.Proofs.Ytminaamfelcajaa.LzWb
open Go.RowKit Rd Go.Proofs.Ytminaamfelcajaa.Row LzF
set_option linter.unusedVariables false
theorem LzShort_walk (a0 : Int) (a1 : Int) (w : World) (w0 : (Lit.int .u8 a0).wf = true) (w1 : (Lit.int .i64 a1).wf = true) :
    Calls Try.prog 6 #[.int .u8 a0, .int .i64 a1] w fun e w' => e = .returned (.bool true) ∧ Below w.heap.size w w' := by
  have wf_bd : ∀ {a : Int}, (Lit.int .i64 a).wf = true → -9223372036854775808 ≤ a ∧ a ≤ 9223372036854775807 := fun h => bounds_i64 h
  exact short_gen a0 a1 w (bounds_u8 w0).1 (bounds_u8 w0).2
end Go.Proofs.Ytminaamfelcajaa.LzWb
