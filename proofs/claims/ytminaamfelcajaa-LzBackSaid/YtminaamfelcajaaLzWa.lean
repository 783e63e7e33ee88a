/-
  The walk of LzBack, as its claim wants it.
-/
import Derived.Test.YtminaamfelcajaaLzE
import Derived.Test.YtminaamfelcajaaFlat
import Derived.Test.YtminaamfelcajaaInts
namespace Go.Proofs.Ytminaamfelcajaa.LzWa
open Go.RowKit Rd Go.Proofs.Ytminaamfelcajaa.Row LzE
set_option linter.unusedVariables false
theorem LzBack_walk (a0 : Option Addr) (len0 cap0 : Nat) (x0 : List (List Value)) (a1 : Int) (a2 : Option Addr) (len2 cap2 : Nat) (x2 : List (List Value)) (w : World) (w0 : Flat.IsRows [some .i64] w a0 len0 cap0 x0) (w1 : (Lit.int .i64 a1).wf = true) (w2 : Flat.IsRows [some .u8] w a2 len2 cap2 x2) :
    Calls Try.prog 4 #[.slice a0 len0 cap0, .int .i64 a1, .slice a2 len2 cap2] w fun e w' => e = .returned (.bool true) ∧ Below w.heap.size w w' := by
  have wf_bd : ∀ {a : Int}, (Lit.int .i64 a).wf = true → -9223372036854775808 ≤ a ∧ a ≤ 9223372036854775807 := fun h => bounds_i64 h
  obtain ⟨zs, zsl, zsb, zsR, -, -, -⟩ := Ints.rows_row (s := 1) (by omega) w0
  obtain ⟨ns, nsl, nsb, nsR, -, -, -⟩ := Bytes.rows_bytes w2
  exact back_gen a0 len0 cap0 zs a1 a2 len2 cap2 ns w (by rw [zsl, Nat.mul_one]) zsR nsl nsR nsb
end Go.Proofs.Ytminaamfelcajaa.LzWa
