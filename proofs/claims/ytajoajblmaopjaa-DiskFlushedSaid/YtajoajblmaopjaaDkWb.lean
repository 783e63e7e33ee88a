/-
  The walk of DiskFlushed, as its claim wants it.
-/
import Derived.Test.YtajoajblmaopjaaDkG
import Derived.Test.YtajoajblmaopjaaFlat
namespace Go.Proofs.Ytajoajblmaopjaa.DkWb
open Go.RowKit Rd Go.Proofs.Ytajoajblmaopjaa.Row DkG
set_option linter.unusedVariables false
theorem DiskFlushed_walk (a0 : Option Addr) (len0 cap0 : Nat) (x0 : List (List Value)) (a1 : Option Addr) (len1 cap1 : Nat) (x1 : List (List Value)) (a2 : Int) (w : World) (w0 : Flat.IsRows [some .i64] w a0 len0 cap0 x0) (w1 : Flat.IsRows [some .i64] w a1 len1 cap1 x1) (w2 : (Lit.int .i64 a2).wf = true) :
    Calls Try.prog 4 #[.slice a0 len0 cap0, .slice a1 len1 cap1, .int .i64 a2] w fun e w' => e = .returned (.bool true) ∧ Below w.heap.size w w' := by
  have wf_bd : ∀ {a : Int}, (Lit.int .i64 a).wf = true → -9223372036854775808 ≤ a ∧ a ≤ 9223372036854775807 := fun h => bounds_i64 h
  obtain ⟨zs, hzl, hz, hR, -, -, -⟩ := Ints.rows_row (s := 1) (by omega) w0
  obtain ⟨ys, hyl, hy, hR2, -, -, -⟩ := Ints.rows_row (s := 1) (by omega) w1
  exact flushed_gen a0 len0 cap0 zs a1 len1 cap1 ys a2 w (wf_bd w2).1 (wf_bd w2).2 hz (by rw [hzl, Nat.mul_one]) hR hy (by rw [hyl, Nat.mul_one]) hR2
end Go.Proofs.Ytajoajblmaopjaa.DkWb
