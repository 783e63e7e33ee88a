/-
  The walk of DirOrder, as its claim wants it.
-/
import Derived.Test.YtpjbacpchmemeaaDiOr
import Derived.Test.YtpjbacpchmemeaaFlat
namespace Go.Proofs.Ytpjbacpchmemeaa.DiWb
open Go.RowKit Rd Go.Proofs.Ytpjbacpchmemeaa.Row DiOr
set_option linter.unusedVariables false
theorem DirOrder_walk (a0 : Int) (a1 : Option Addr) (len1 cap1 : Nat) (x1 : List (List Value)) (a2 : Int) (w : World) (w0 : (Lit.int .i64 a0).wf = true) (w1 : Flat.IsRows [some .i64, some .i64, some .i64, some .i64, some .i64, some .u32] w a1 len1 cap1 x1) (w2 : (Lit.int .i64 a2).wf = true) :
    Calls Try.prog 6 #[.int .i64 a0, .slice a1 len1 cap1, .int .i64 a2] w fun e w' => e = .returned (.bool true) ∧ Below w.heap.size w w' := by
  obtain ⟨l, hl, hR, hB, -, hc⟩ := DiZ0.rows_en w1
  exact DiOr.order_gen a0 a1 len1 cap1 l a2 w hl hc hR hB (DiZ0.wf_bd w2).1 (DiZ0.wf_bd w2).2
end Go.Proofs.Ytpjbacpchmemeaa.DiWb
