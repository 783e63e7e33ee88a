/-
  The walk of MatchRuns, as its claim wants it.
-/
import Derived.Test.YtfoghbbidmjopaaMaK
import Derived.Test.YtfoghbbidmjopaaFlat
namespace Go.Proofs.Ytfoghbbidmjopaa.MaWa
open Go.RowKit Rd Go.Proofs.Ytfoghbbidmjopaa.Row MaK
set_option linter.unusedVariables false
theorem MatchRuns_walk (a0 : Int) (a1 : Int) (a2 : Int) (w : World) (w0 : (Lit.int .i64 a0).wf = true) (w1 : (Lit.int .i64 a1).wf = true) (w2 : (Lit.int .i64 a2).wf = true) :
    Calls Try.prog 4 #[.int .i64 a0, .int .i64 a1, .int .i64 a2] w fun e w' => e = .returned (.bool true) ∧ Below w.heap.size w w' := by
  have wf_bd : ∀ {a : Int}, (Lit.int .i64 a).wf = true → -9223372036854775808 ≤ a ∧ a ≤ 9223372036854775807 := fun h => bounds_i64 h
  exact runs_gen a0 a1 a2 w (wf_bd w0).1 (wf_bd w0).2 (wf_bd w2).1 (wf_bd w2).2
end Go.Proofs.Ytfoghbbidmjopaa.MaWa
