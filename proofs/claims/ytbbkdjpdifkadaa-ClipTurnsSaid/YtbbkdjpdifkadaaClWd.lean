/-
  The walk of ClipTurns, as its claim wants it.
-/
import Derived.Test.YtbbkdjpdifkadaaClT
import Derived.Test.YtbbkdjpdifkadaaClR
namespace Go.Proofs.Ytbbkdjpdifkadaa.ClWd
open Go.RowKit Rd Go.Proofs.Ytbbkdjpdifkadaa.Row ClT
set_option linter.unusedVariables false
theorem ClipTurns_walk (a0 : Option Addr) (len0 cap0 : Nat) (x0 : List (List Value)) (a1 : Int) (w : World) (w0 : Flat.IsRows [some .i64, some .i64, some .i64, some .i64, some .i64, some .i64] w a0 len0 cap0 x0) (w1 : (Lit.int .i64 a1).wf = true) :
    Calls Try.prog 6 #[.slice a0 len0 cap0, .int .i64 a1] w fun e w' => e = .returned (.bool true) ∧ Below w.heap.size w w' := by
  obtain ⟨row, hl, hr, hlc, hcm, _⟩ := ClR.rows_vx w0
  subst hl
  exact turns_gen row a0 cap0 a1 w hr hlc hcm
end Go.Proofs.Ytbbkdjpdifkadaa.ClWd
