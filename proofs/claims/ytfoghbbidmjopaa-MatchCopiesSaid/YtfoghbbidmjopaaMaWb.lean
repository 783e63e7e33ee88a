/-
  The walk of MatchCopies, as its claim wants it.
-/
import Derived.Test.YtfoghbbidmjopaaMaL
import Derived.Test.YtfoghbbidmjopaaFlat
namespace Go.Proofs.Ytfoghbbidmjopaa.MaWb
open Go.RowKit Rd Go.Proofs.Ytfoghbbidmjopaa.Row MaL
set_option linter.unusedVariables false
theorem MatchCopies_walk (a0 : Option Addr) (len0 cap0 : Nat) (x0 : List (List Value)) (a1 : Int) (a2 : Int) (w : World) (w0 : Flat.IsRows [some .i64] w a0 len0 cap0 x0) (w1 : (Lit.int .i64 a1).wf = true) (w2 : (Lit.int .i64 a2).wf = true) :
    Calls Try.prog 3 #[.slice a0 len0 cap0, .int .i64 a1, .int .i64 a2] w fun e w' => e = .returned (.bool true) ∧ Below w.heap.size w w' := by
  have wf_bd : ∀ {a : Int}, (Lit.int .i64 a).wf = true → -9223372036854775808 ≤ a ∧ a ≤ 9223372036854775807 := fun h => bounds_i64 h
  obtain ⟨zs, hzl, hz, hR, -, -, -⟩ := Ints.rows_row (s := 1) (by omega) w0
  exact copies_gen a0 len0 cap0 zs a1 a2 w (wf_bd w2).1 (wf_bd w2).2 (by rw [hzl, Nat.mul_one]) hz hR
end Go.Proofs.Ytfoghbbidmjopaa.MaWb
