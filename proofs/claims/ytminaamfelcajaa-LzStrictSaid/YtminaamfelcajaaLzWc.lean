/-
  The walk of LzStrict, as its claim wants it.
-/
import Derived.Test.YtminaamfelcajaaLzG
import Derived.Test.YtminaamfelcajaaFlat
import Derived.Test.YtminaamfelcajaaInts
namespace Go.Proofs.Ytminaamfelcajaa.LzWc
open Go.RowKit Rd Go.Proofs.Ytminaamfelcajaa.Row LzG
set_option linter.unusedVariables false
theorem LzStrict_walk (a0 : Option Addr) (len0 cap0 : Nat) (x0 : List (List Value)) (a1 : Int) (a2 : Int) (a3 : Int) (a4 : Option Addr) (len4 cap4 : Nat) (x4 : List (List Value)) (w : World) (w0 : Flat.IsRows [some .i64] w a0 len0 cap0 x0) (w1 : (Lit.int .i64 a1).wf = true) (w2 : (Lit.int .i64 a2).wf = true) (w3 : (Lit.int .i64 a3).wf = true) (w4 : Flat.IsRows [some .u8] w a4 len4 cap4 x4) :
    Calls Try.prog 5 #[.slice a0 len0 cap0, .int .i64 a1, .int .i64 a2, .int .i64 a3, .slice a4 len4 cap4] w fun e w' => e = .returned (.bool true) ∧ Below w.heap.size w w' := by
  have wf_bd : ∀ {a : Int}, (Lit.int .i64 a).wf = true → -9223372036854775808 ≤ a ∧ a ≤ 9223372036854775807 := fun h => bounds_i64 h
  obtain ⟨zs, zsl, zsb, zsR, -, -, -⟩ := Ints.rows_row (s := 1) (by omega) w0
  obtain ⟨ns, nsl, nsb, nsR, -, -, -⟩ := Bytes.rows_bytes w4
  exact strict_gen a0 len0 cap0 zs a1 a2 a3 a4 len4 cap4 ns w (by rw [zsl, Nat.mul_one]) zsR (wf_bd w2).1 (wf_bd w2).2 (wf_bd w3).1 (wf_bd w3).2 nsl nsR nsb
end Go.Proofs.Ytminaamfelcajaa.LzWc
