/-
  The walk of DirApart, as its claim wants it.
-/
import Derived.Test.YtpjbacpchmemeaaDiAp
import Derived.Test.YtpjbacpchmemeaaFlat
namespace Go.Proofs.Ytpjbacpchmemeaa.DiWc
open Go.RowKit Rd Go.Proofs.Ytpjbacpchmemeaa.Row DiAp
set_option linter.unusedVariables false
theorem DirApart_walk (a0 : Int) (a1 : Int) (a2 : Int) (a3 : Int) (a4 : Int) (a5 : Int) (w : World) (w0 : (Lit.int .i64 a0).wf = true) (w1 : (Lit.int .i64 a1).wf = true) (w2 : (Lit.int .i64 a2).wf = true) (w3 : (Lit.int .i64 a3).wf = true) (w4 : (Lit.int .i64 a4).wf = true) (w5 : (Lit.int .i64 a5).wf = true) :
    Calls Try.prog 5 #[.int .i64 a0, .int .i64 a1, .int .i64 a2, .int .i64 a3, .int .i64 a4, .int .i64 a5] w fun e w' => e = .returned (.bool true) ∧ Below w.heap.size w w' := by
  have b := fun {x : Int} (h : (Lit.int .i64 x).wf = true) => DiZ0.wf_bd h
  exact DiAp.apart_gen a0 a1 a2 a3 a4 a5 w (b w0) (b w1) (b w2) (b w3) (b w4) (b w5)
end Go.Proofs.Ytpjbacpchmemeaa.DiWc
