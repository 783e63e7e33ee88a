/-
  The walk of DiskLast, as its claim wants it.
-/
import Derived.Test.YtajoajblmaopjaaDkF
import Derived.Test.YtajoajblmaopjaaFlat
namespace Go.Proofs.Ytajoajblmaopjaa.DkWa
open Go.RowKit Rd Go.Proofs.Ytajoajblmaopjaa.Row DkF
set_option linter.unusedVariables false
theorem DiskLast_walk (a0 : Int) (a1 : Option Addr) (len1 cap1 : Nat) (x1 : List (List Value)) (a2 : Option Addr) (len2 cap2 : Nat) (x2 : List (List Value)) (w : World) (w0 : (Lit.int .i64 a0).wf = true) (w1 : Flat.IsRows [some .i64, some .i64] w a1 len1 cap1 x1) (w2 : Flat.IsRows [none] w a2 len2 cap2 x2) :
    Calls Try.prog 5 #[.int .i64 a0, .slice a1 len1 cap1, .slice a2 len2 cap2] w fun e w' => e = .returned (.bool true) ∧ Below w.heap.size w w' := by
  have wf_bd : ∀ {a : Int}, (Lit.int .i64 a).wf = true → -9223372036854775808 ≤ a ∧ a ≤ 9223372036854775807 := fun h => bounds_i64 h
  obtain ⟨zs, hzl, hz, hR, -, -, -⟩ := Ints.rows_row (s := 2) (by omega) w1
  obtain ⟨qs, hQ, -, -⟩ := Bools.bools_row w2
  exact last_gen a0 a1 len1 cap1 zs a2 len2 cap2 qs w (wf_bd w0).1 (wf_bd w0).2 hz hzl hR hQ
end Go.Proofs.Ytajoajblmaopjaa.DkWa
