/-
  The walk of TableComes, as its claim wants it.
-/
import Derived.Test.YtikoajlncdcbcaaTbH
import Derived.Test.YtikoajlncdcbcaaFlat
namespace Go.Proofs.Ytikoajlncdcbcaa.TbWc
open Go.RowKit Rd Go.Proofs.Ytikoajlncdcbcaa.Row TbH
set_option linter.unusedVariables false
theorem TableComes_walk (a0 : Int) (a1 : Option Addr) (len1 cap1 : Nat) (x1 : List (List Value)) (a2 : Int) (w : World) (w0 : (Lit.int .i64 a0).wf = true) (w1 : Flat.IsRows [some .i64] w a1 len1 cap1 x1) (w2 : (Lit.int .i64 a2).wf = true) :
    Calls Try.prog 5 #[.int .i64 a0, .slice a1 len1 cap1, .int .i64 a2] w fun e w' => e = .returned (.bool true) ∧ Below w.heap.size w w' := by
  obtain ⟨zs, hzl, hz, hR, -, -, -⟩ := Ints.rows_row (s := 1) (by omega) w1
  exact comes_gen a0 a1 len1 cap1 zs a2 w (TbF.wf_bd w0).1 (TbF.wf_bd w0).2 (TbF.wf_bd w2).1 (TbF.wf_bd w2).2 hz (by rw [hzl, Nat.mul_one]) hR
end Go.Proofs.Ytikoajlncdcbcaa.TbWc
