/-
  The walk of DiskActs, as its claim wants it.
-/
import Derived.Test.YtajoajblmaopjaaDkZw
import Derived.Test.YtajoajblmaopjaaFlat
namespace Go.Proofs.Ytajoajblmaopjaa.DkWd
open Go.RowKit Rd Go.Proofs.Ytajoajblmaopjaa.Row DkZw
set_option linter.unusedVariables false
theorem DiskActs_walk (a0 : Int) (a1 : Option Addr) (len1 cap1 : Nat) (x1 : List (List Value)) (w : World) (w0 : (Lit.int .i64 a0).wf = true) (w1 : Flat.IsRows [some .i64, some .i64, some .i64] w a1 len1 cap1 x1) :
    Calls Try.prog 3 #[.int .i64 a0, .slice a1 len1 cap1] w fun e w' => e = .returned (.bool true) ∧ Below w.heap.size w w' := by
  have wf_bd : ∀ {a : Int}, (Lit.int .i64 a).wf = true → -9223372036854775808 ≤ a ∧ a ≤ 9223372036854775807 := fun h => bounds_i64 h
  obtain ⟨zs, hzl, hz, hR, -, -, -⟩ := Ints.rows_row (s := 3) (by omega) w1
  exact acts_gen a0 a1 len1 cap1 zs w (wf_bd w0).1 (wf_bd w0).2 hz hzl hR
end Go.Proofs.Ytajoajblmaopjaa.DkWd
