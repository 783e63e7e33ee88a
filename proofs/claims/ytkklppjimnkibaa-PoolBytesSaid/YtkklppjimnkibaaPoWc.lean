/-
  The walk of PoolBytes, as its claim wants it.
-/
import Derived.Test.YtkklppjimnkibaaPoZ
import Derived.Test.YtkklppjimnkibaaFlat
namespace Go.Proofs.Ytkklppjimnkibaa.PoWc
open Go.RowKit Rd Go.Proofs.Ytkklppjimnkibaa.Row PoZ
set_option linter.unusedVariables false
theorem PoolBytes_walk (a0 : Int) (a1 : Option Addr) (len1 cap1 : Nat) (x1 : List (List Value)) (a2 : Int) (w : World) (w0 : (Lit.int .i64 a0).wf = true) (w1 : Flat.IsRows [some .i64, some .i64] w a1 len1 cap1 x1) (w2 : (Lit.int .i64 a2).wf = true) :
    Calls Try.prog 5 #[.int .i64 a0, .slice a1 len1 cap1, .int .i64 a2] w fun e w' => e = .returned (.bool true) ∧ Below w.heap.size w w' := by
  obtain ⟨zs, hzl, hz, hR, hcl, hcm, -⟩ := Ints.rows_row (s := 2) (by omega) w1
  by_cases h : a0 < 2 ∨ 30 < a0 ∨ 40 < len1
  · exact bytes_small a0 a1 len1 cap1 a2 w h (by unfold maxLen at hcm; omega)
  obtain ⟨n, rfl⟩ : ∃ n : Nat, a0 = (n : Int) := ⟨a0.toNat, by omega⟩
  exact bytes_gen n a1 len1 cap1 a2 zs w ⟨by omega, by omega⟩ (by omega) (bounds_i64 w2) hz hzl hR
end Go.Proofs.Ytkklppjimnkibaa.PoWc
