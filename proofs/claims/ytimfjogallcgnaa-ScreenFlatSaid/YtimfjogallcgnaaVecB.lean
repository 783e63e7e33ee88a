/-
  Products of matrices.
-/
import Derived.Test.YtimfjogallcgnaaVecA
namespace Go.Proofs.Ytimfjogallcgnaa.VecB
open Go.RowKit FixA Num Rd Go.Proofs.Ytimfjogallcgnaa.Row VecA
set_option linter.unusedVariables false
set_option linter.unusedSimpArgs false
set_option maxRecDepth 10000
attribute [local go_sem ↓] load_mat load_vec store_mat store_vec
attribute [local go_sem] index_mat index_vec run_load_mat run_load_vec run_store_mat run_store_vec rowLoad_eq rowStore_eq blk_alloc_at blk_alloc_old blk_drew blk_drewN blk_set_far blk_set_far' blk_grow setRow_alloc_at setRow_alloc_old setRow_drew setRow_drewN all_map one_int


def ent (ms ns : List Int) (i : Nat) : Int := near (dot ms (i / 4) (col ns (i % 4))) 65536
def prodK (ms ns : List Int) (k : Nat) : List Int := (List.range 16).map fun i => if i < k then ent ms ns i else 0
theorem prodK_len (ms ns : List Int) (k : Nat) : (prodK ms ns k).length = 16 := by simp [prodK]
theorem prodK_0 (ms ns : List Int) : prodK ms ns 0 = List.replicate 16 0 := by simp [prodK, List.range_succ]
theorem prodK_set (ms ns : List Int) (k : Nat) (h : k < 16) : (prodK ms ns k).set k (ent ms ns k) = prodK ms ns (k + 1) := by
  apply List.ext_getElem?
  intro i
  rw [List.getElem?_set]
  by_cases hi : k = i
  · subst hi
    simp [prodK, h]
  · rw [if_neg hi]
    by_cases h16 : i < 16
    · simp [prodK, h16]
      by_cases hk : i < k
      · simp [hk, show i < k + 1 by omega]
      · simp [hk, show ¬ i < k + 1 by omega]
    · simp [prodK, h16]
def allowV (l : List Int) : List Int × Int := if l.all cellB then (l, 0) else (List.replicate 16 0, 2)
def mulV (ms ns : List Int) : List Int × Int := if ms.all cellB && ns.all cellB then allowV (prodK ms ns 16) else (List.replicate 16 0, 2)
theorem ent_wf (ms ns : List Int) (hm : ms.all cellB = true) (hn : ns.all cellB = true) (i : Nat) : (Lit.int .i64 (ent ms ns i)).wf = true := by
  have g : ∀ (l : List Int), l.all cellB = true → ∀ j, -1048576 ≤ l.getD j 0 ∧ l.getD j 0 ≤ 1048576 := by
    intro l hl j
    by_cases hj : j < l.length
    · have := cells_bd hl l[j] (List.getElem_mem _)
      simpa [List.getD, hj] using this
    · simp [List.getD, hj]
  have p : ∀ a b, -(1048576 * 1048576) ≤ ms.getD a 0 * ns.getD b 0 ∧ ms.getD a 0 * ns.getD b 0 ≤ 1048576 * 1048576 := fun a b => prod_bd (g ms hm a).1 (g ms hm a).2 (g ns hn b).1 (g ns hn b).2
  unfold ent
  have p0 := p (4 * (i / 4)) (i % 4)
  have p1 := p (4 * (i / 4) + 1) (4 + i % 4)
  have p2 := p (4 * (i / 4) + 2) (8 + i % 4)
  have p3 := p (4 * (i / 4) + 3) (12 + i % 4)
  refine near_wf (by omega) ?_ ?_ <;> (simp only [dot, col, List.getD_cons_zero, List.getD_cons_succ]; omega)
theorem wf_of_cells {l : List Int} (h : l.all cellB = true) : Wf l := fun x hx => by have := cells_bd h x hx; exact wf_mk (by omega) (by omega)
theorem v28_col {ns : List Int} (h : ns.all cellB = true) (c : Nat) : V28 (col ns c) := by
  have g : ∀ j, -1048576 ≤ ns.getD j 0 ∧ ns.getD j 0 ≤ 1048576 := by
    intro j
    by_cases hj : j < ns.length
    · have := cells_bd h ns[j] (List.getElem_mem _)
      simpa [List.getD, hj] using this
    · simp [List.getD, hj]
  intro x hx
  simp only [col, List.mem_cons, List.not_mem_nil, or_false] at hx
  rcases hx with rfl | rfl | rfl | rfl <;> (have := g c; have := g (4 + c); have := g (8 + c); have := g (12 + c); omega)
theorem prodK_wf (ms ns : List Int) (hm : ms.all cellB = true) (hn : ns.all cellB = true) (k : Nat) : Wf (prodK ms ns k) := by
  intro x hx
  simp only [prodK, List.mem_map, List.mem_range] at hx
  obtain ⟨i, _, rfl⟩ := hx
  split
  · exact ent_wf ms ns hm hn i
  · rfl

end Go.Proofs.Ytimfjogallcgnaa.VecB
