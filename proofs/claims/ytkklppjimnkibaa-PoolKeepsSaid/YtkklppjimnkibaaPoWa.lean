/-
  The walk of PoolKeeps, as its claim wants it.
-/
import Derived.Test.YtkklppjimnkibaaPoR
import Derived.Test.YtkklppjimnkibaaFlat
namespace Go.Proofs.Ytkklppjimnkibaa.PoWa
open Go.RowKit Rd Go.Proofs.Ytkklppjimnkibaa.Row PoR
set_option linter.unusedVariables false
theorem PoolKeeps_walk (a0 : Int) (a1 : Option Addr) (len1 cap1 : Nat) (x1 : List (List Value)) (w : World) (w0 : (Lit.int .i64 a0).wf = true) (w1 : Flat.IsRows [some .i64] w a1 len1 cap1 x1) :
    Calls Try.prog 4 #[.int .i64 a0, .slice a1 len1 cap1] w fun e w' => e = .returned (.bool true) ∧ Below w.heap.size w w' := by
  obtain ⟨zs, hzl, hz, hR, hcl, hcm, -⟩ := Ints.rows_row (s := 1) (by omega) w1
  by_cases h : a0 < 1 ∨ 30 < a0 ∨ 80 < len1
  · exact keeps_small a0 a1 len1 cap1 w h (by unfold maxLen at hcm; omega)
  · obtain ⟨n, rfl⟩ : ∃ n : Nat, a0 = (n : Int) := ⟨a0.toNat, by omega⟩
    exact keeps_gen n a1 len1 cap1 zs w ⟨by omega, by omega⟩ (by omega) hz (by rw [hzl, Nat.mul_one]) hR
end Go.Proofs.Ytkklppjimnkibaa.PoWa
