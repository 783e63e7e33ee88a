/-
  The walk of LzTells, as its claim wants it.
-/
import Derived.Test.YtminaamfelcajaaLzK
import Derived.Test.YtminaamfelcajaaFlat
namespace Go.Proofs.Ytminaamfelcajaa.LzWd
open Go.RowKit Rd Go.Proofs.Ytminaamfelcajaa.Row LzK
set_option linter.unusedVariables false
theorem LzTells_walk (a0 : Option Addr) (len0 cap0 : Nat) (x0 : List (List Value)) (a1 : Option Addr) (len1 cap1 : Nat) (x1 : List (List Value)) (a2 : Int) (w : World) (w0 : Flat.IsRows [some .u8] w a0 len0 cap0 x0) (w1 : Flat.IsRows [some .u8] w a1 len1 cap1 x1) (w2 : (Lit.int .i64 a2).wf = true) :
    Calls Try.prog 3 #[.slice a0 len0 cap0, .slice a1 len1 cap1, .int .i64 a2] w fun e w' => e = .returned (.bool true) ∧ Below w.heap.size w w' := by
  have wf_bd : ∀ {a : Int}, (Lit.int .i64 a).wf = true → -9223372036854775808 ≤ a ∧ a ≤ 9223372036854775807 := fun h => bounds_i64 h
  obtain ⟨bs, bsl, bsb, bsR, -, -, -⟩ := Bytes.rows_bytes w0
  obtain ⟨ps, psl, psb, psR, -, -, -⟩ := Bytes.rows_bytes w1
  exact tells_gen a0 len0 cap0 bs a1 len1 cap1 ps a2 w bsl bsR bsb psl psR psb
end Go.Proofs.Ytminaamfelcajaa.LzWd
