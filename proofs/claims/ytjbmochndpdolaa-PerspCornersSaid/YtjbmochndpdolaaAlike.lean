/-
  What the functions that several laws share answer.
-/
import Derived.Test.YtjbmochndpdolaaRd
namespace Go.Proofs.Ytjbmochndpdolaa.Alk
open Go.RowKit Rd
set_option linter.unusedVariables false
set_option linter.unusedSimpArgs false
set_option maxRecDepth 4000

theorem ret_int {k : IntKind} {a b : Int} (h : a = b) : Ending.returned (.int k a) = .returned (.int k b) := by rw [h]
theorem ret_bool {a b : Bool} (h : a = b) : Ending.returned (.bool a) = .returned (.bool b) := by rw [h]


end Go.Proofs.Ytjbmochndpdolaa.Alk
