/-
  The walk of PoolActs, as its claim wants it.
-/
import Derived.Test.YtkklppjimnkibaaPoY
import Derived.Test.YtkklppjimnkibaaFlat
import Derived.Test.YtkklppjimnkibaaBytes
namespace Go.Proofs.Ytkklppjimnkibaa.PoWb
open Go.RowKit Rd Go.Proofs.Ytkklppjimnkibaa.Row PoY
set_option linter.unusedVariables false
theorem PoolActs_walk (a0 : Int) (a1 : Int) (a2 : Option Addr) (len2 cap2 : Nat) (x2 : List (List Value)) (a3 : Option Addr) (len3 cap3 : Nat) (x3 : List (List Value)) (w : World) (w0 : (Lit.int .i64 a0).wf = true) (w1 : (Lit.int .i64 a1).wf = true) (w2 : Flat.IsRows [some .u8] w a2 len2 cap2 x2) (w3 : Flat.IsRows [some .i64, some .i64, some .i64] w a3 len3 cap3 x3) :
    Calls Try.prog 3 #[.int .i64 a0, .int .i64 a1, .slice a2 len2 cap2, .slice a3 len3 cap3] w fun e w' => e = .returned (.bool true) ∧ Below w.heap.size w w' := by
  obtain ⟨zs, hzl, hz, hR, hcl, hcm, -⟩ := Ints.rows_row (s := 3) (by omega) w3
  obtain ⟨bs, hbl, hbz, hB, hbc, hbm, -⟩ := Bytes.rows_bytes w2
  by_cases h : 60 < len3 ∨ 300 < len2
  · exact acts_small a0 a1 a2 a3 len2 cap2 len3 cap3 w h (by unfold maxLen at hcm; omega) (by unfold maxLen at hbm; omega)
  by_cases h5 : len2 ≤ 5
  · exact acts_short a0 a1 a2 a3 len2 cap2 len3 cap3 w (by omega) h5
  rcases hB.2 with e | ⟨b, o, rfl, hb, hc⟩
  · omega
  have hl0 : 0 < bs.length := by omega
  have hc0 : w.cell? ⟨b, o, none⟩ = some (.int .u8 bs[0]) := (hc 0 (by rw [List.length_map]; exact hl0)).trans (by simp [hl0])
  have hr0 := hbz _ (List.getElem_mem hl0)
  by_cases hn : 1 ≤ a0 ∧ a0 ≤ 128
  · by_cases hd : 0 ≤ a1 ∧ a1 ≤ 3
    · obtain ⟨n, rfl⟩ : ∃ n : Nat, a0 = (n : Int) := ⟨a0.toNat, by omega⟩
      obtain ⟨d, rfl⟩ : ∃ n : Nat, a1 = (n : Int) := ⟨a1.toNat, by omega⟩
      exact acts_gen n d b o a3 len2 cap2 len3 cap3 bs[0] zs w (by omega) (by omega) (by omega) hr0 hc0 ⟨by omega, by omega⟩ (by omega) hz hzl hR
    · exact acts_bad a0 a1 b o a3 len2 cap2 len3 cap3 bs[0] w (by omega) (by omega) (by omega) hr0 hc0 (.inr hd)
  · exact acts_bad a0 a1 b o a3 len2 cap2 len3 cap3 bs[0] w (by omega) (by omega) (by omega) hr0 hc0 (.inl hn)
end Go.Proofs.Ytkklppjimnkibaa.PoWb
