/-
  The document's own answers on matrices.
-/
import Derived.Test.YtimfjogallcgnaaVecD
namespace Go.Proofs.Ytimfjogallcgnaa.VecE
open Go.RowKit FixA Num Rd Go.Proofs.Ytimfjogallcgnaa.Row VecA VecB VecD
set_option linter.unusedVariables false
set_option linter.unusedSimpArgs false
set_option maxRecDepth 10000
attribute [local go_sem ↓] load_mat load_vec store_mat store_vec
attribute [local go_sem] index_mat index_vec run_load_mat run_load_vec run_store_mat run_store_vec rowLoad_eq rowStore_eq blk_alloc_at blk_alloc_old blk_drew blk_drewN blk_set_far blk_set_far' blk_grow setRow_alloc_at setRow_alloc_old setRow_drew setRow_drewN all_map one_int



/-- what a product's walk keeps: the two factors, the result's place, and what is reckoned so far -/
abbrev Inv (w : World) (ms ns : List Int) (b k : Nat) (wr : World) : Prop :=
  Hid (blk wr w.heap.size = some (.cells (cs .i64 ms) 27 (0, 0)) ∧ blk wr (w.heap.size + 1) = some (.cells (cs .i64 ns) 27 (0, 0)) ∧
    blk wr (w.heap.size + 1 + 1) = some (.cells (cs .i64 (List.replicate 16 0)) 27 (0, 0)) ∧ blk wr b = some (.cells (cs .i64 (prodK ms ns k)) 27 (0, 0)) ∧ Below w.heap.size w wr ∧ b < wr.heap.size)

theorem getD_bd {l : List Int} (hl : l.all cellB = true) (j : Nat) : -1048576 ≤ l.getD j 0 ∧ l.getD j 0 ≤ 1048576 := by
  by_cases hj : j < l.length
  · have := cells_bd hl l[j] (List.getElem_mem _)
    simpa [List.getD, hj] using this
  · simp [List.getD, hj]
theorem ent_at (ms ns : List Int) (r c : Nat) (hr : r < 4) (hc : c < 4) : ent ms ns (4 * r + c) = near (ms.getD (4 * r) 0 * ns.getD c 0 + ms.getD (4 * r + 1) 0 * ns.getD (4 + c) 0 + ms.getD (4 * r + 2) 0 * ns.getD (8 + c) 0 + ms.getD (4 * r + 3) 0 * ns.getD (12 + c) 0) 65536 := by
  have e1 : (4 * r + c) / 4 = r := by omega
  have e2 : (4 * r + c) % 4 = c := by omega
  unfold ent
  rw [e1, e2]
  rfl

end Go.Proofs.Ytimfjogallcgnaa.VecE
