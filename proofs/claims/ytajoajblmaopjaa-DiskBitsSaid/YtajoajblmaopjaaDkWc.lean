/-
  The walk of DiskBits, as its claim wants it.
-/
import Derived.Test.YtajoajblmaopjaaDkI
import Derived.Test.YtajoajblmaopjaaFlat
namespace Go.Proofs.Ytajoajblmaopjaa.DkWc
open Go.RowKit Rd Go.Proofs.Ytajoajblmaopjaa.Row DkI
set_option linter.unusedVariables false
theorem DiskBits_walk (a0 : Int) (a1 : Int) (a2 : Bool) (a3 : Bool) (w : World) (w0 : (Lit.int .i64 a0).wf = true) (w1 : (Lit.int .i64 a1).wf = true) :
    Calls Try.prog 6 #[.int .i64 a0, .int .i64 a1, .bool a2, .bool a3] w fun e w' => e = .returned (.bool true) ∧ Below w.heap.size w w' := by
  have wf_bd : ∀ {a : Int}, (Lit.int .i64 a).wf = true → -9223372036854775808 ≤ a ∧ a ≤ 9223372036854775807 := fun h => bounds_i64 h
  exact bits_gen a0 a1 a2 a3 w (wf_bd w0).1 (wf_bd w0).2 (wf_bd w1).1 (wf_bd w1).2
end Go.Proofs.Ytajoajblmaopjaa.DkWc
