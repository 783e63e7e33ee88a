/-
  The walk of TableTells, as its claim wants it.
-/
import Derived.Test.YtikoajlncdcbcaaTbJ
import Derived.Test.YtikoajlncdcbcaaFlat
namespace Go.Proofs.Ytikoajlncdcbcaa.TbWd
open Go.RowKit Rd Go.Proofs.Ytikoajlncdcbcaa.Row TbJ
set_option linter.unusedVariables false
theorem TableTells_walk (a0 : Int) (a1 : Option Addr) (len1 cap1 : Nat) (x1 : List (List Value)) (a2_0 : Int) (a2_1 : Int) (a2_2 : Int) (w : World) (w0 : (Lit.int .i64 a0).wf = true) (w1 : Flat.IsRows [some .i64, some .i64] w a1 len1 cap1 x1) (w2_0 : (Lit.int .i64 a2_0).wf = true) (w2_1 : (Lit.int .i64 a2_1).wf = true) (w2_2 : (Lit.int .i64 a2_2).wf = true) :
    Calls Try.prog 3 #[.int .i64 a0, .slice a1 len1 cap1, .agg #[.int .i64 a2_0, .int .i64 a2_1, .int .i64 a2_2]] w fun e w' => e = .returned (.bool true) ∧ Below w.heap.size w w' := by
  obtain ⟨zs, hzl, hz, hR, -, -, -⟩ := Ints.rows_row (s := 2) (by omega) w1
  exact ttells_gen a0 a1 len1 cap1 zs a2_0 a2_1 a2_2 w (TbF.wf_bd w0).1 (TbF.wf_bd w0).2 hz hzl hR
end Go.Proofs.Ytikoajlncdcbcaa.TbWd
