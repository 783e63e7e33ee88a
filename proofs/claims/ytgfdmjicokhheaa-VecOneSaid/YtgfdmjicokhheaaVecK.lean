/-
  The laws of package vec: what products and what is moved and stretched come to.
-/
import Derived.Test.YtgfdmjicokhheaaVecG
namespace Go.Proofs.Ytgfdmjicokhheaa.VecK
open Go.RowKit FixA Num Rd Go.Proofs.Ytgfdmjicokhheaa.Row VecA VecB VecC VecD VecE VecF VecG
set_option linter.unusedVariables false
set_option linter.unusedSimpArgs false
set_option maxRecDepth 10000
attribute [local go_sem ↓] load_mat load_vec store_mat store_vec
attribute [local go_sem] index_mat index_vec run_load_mat run_load_vec run_store_mat run_store_vec rowLoad_eq rowStore_eq blk_alloc_at blk_alloc_old blk_drew blk_drewN blk_set_far blk_set_far' blk_grow setRow_alloc_at setRow_alloc_old setRow_drew setRow_drewN all_map one_int




theorem near_mul (k : Int) : near (65536 * k) 65536 = k := by unfold near; omega
theorem near_eq {n k : Int} (h : n = 65536 * k) : near n 65536 = k := by rw [h]; exact near_mul k
theorem near_twice (n : Int) : -1 ≤ near (2 * n) 65536 - 2 * near n 65536 ∧ near (2 * n) 65536 - 2 * near n 65536 ≤ 1 := by unfold near; omega
theorem near_0 : near 0 65536 = 0 := by decide

theorem prod16 (ms ns : List Int) : prodK ms ns 16 = (List.range 16).map (ent ms ns) := by
  unfold prodK
  refine List.map_congr_left fun i hi => ?_
  rw [if_pos (by simpa using hi)]
theorem prod_eq {ms ns ps : List Int} (hp : ps.length = 16) (h : ∀ i, i < 16 → ent ms ns i = ps.getD i 0) : prodK ms ns 16 = ps := by
  rw [prod16]
  apply List.ext_getElem?
  intro i
  by_cases hi : i < 16
  · simp [hi, h i hi, List.getD, show i < ps.length by omega]
  · rw [List.getElem?_eq_none (by simp; omega), List.getElem?_eq_none (by omega)]
theorem i16 {p : Nat → Prop} (h0 : p 0) (h1 : p 1) (h2 : p 2) (h3 : p 3) (h4 : p 4) (h5 : p 5) (h6 : p 6) (h7 : p 7) (h8 : p 8) (h9 : p 9) (h10 : p 10) (h11 : p 11) (h12 : p 12) (h13 : p 13) (h14 : p 14) (h15 : p 15) : ∀ i, i < 16 → p i := by
  intro i hi
  match i, hi with
  | 0, _ => exact h0 | 1, _ => exact h1 | 2, _ => exact h2 | 3, _ => exact h3 | 4, _ => exact h4 | 5, _ => exact h5 | 6, _ => exact h6 | 7, _ => exact h7
  | n + 16, h => omega
  | 8, _ => exact h8 | 9, _ => exact h9 | 10, _ => exact h10 | 11, _ => exact h11 | 12, _ => exact h12 | 13, _ => exact h13 | 14, _ => exact h14 | 15, _ => exact h15
theorem mul_one_left (ms : List Int) (hm : ms.length = 16) : prodK oneL ms 16 = ms := by
  refine prod_eq hm (i16 ?_ ?_ ?_ ?_ ?_ ?_ ?_ ?_ ?_ ?_ ?_ ?_ ?_ ?_ ?_ ?_) <;> (refine near_eq ?_; simp [dot, col, oneL])
theorem mul_one_right (ms : List Int) (hm : ms.length = 16) : prodK ms oneL 16 = ms := by
  refine prod_eq hm (i16 ?_ ?_ ?_ ?_ ?_ ?_ ?_ ?_ ?_ ?_ ?_ ?_ ?_ ?_ ?_ ?_) <;> (refine near_eq ?_; simp [dot, col, oneL, Int.mul_comm])
theorem mul_moves (x y z a b c : Int) : prodK (moveL x y z) (moveL a b c) 16 = moveL (a + x) (b + y) (c + z) := by
  refine prod_eq rfl (i16 ?_ ?_ ?_ ?_ ?_ ?_ ?_ ?_ ?_ ?_ ?_ ?_ ?_ ?_ ?_ ?_) <;> (refine near_eq ?_; simp [dot, col, moveL]; try omega)
theorem one_cells : oneL.all cellB = true := by decide
theorem mulV_one_left {ms : List Int} (hm : ms.length = 16) (h : ms.all cellB = true) : mulV oneL ms = (ms, 0) := by
  unfold mulV; rw [one_cells, h, mul_one_left ms hm]; simp [allowV, h]
theorem mulV_one_right {ms : List Int} (hm : ms.length = 16) (h : ms.all cellB = true) : mulV ms oneL = (ms, 0) := by
  unfold mulV; rw [one_cells, h, mul_one_right ms hm]; simp [allowV, h]
theorem mulV_no_left {ms ns : List Int} (h : ms.all cellB = false) : mulV ms ns = (List.replicate 16 0, 2) := by unfold mulV; rw [h]; rfl
theorem mulV_no_right {ms ns : List Int} (h : ns.all cellB = false) : mulV ms ns = (List.replicate 16 0, 2) := by unfold mulV; rw [h]; simp
theorem move_cells {x y z : Int} (hx : -1048576 ≤ x ∧ x ≤ 1048576) (hy : -1048576 ≤ y ∧ y ≤ 1048576) (hz : -1048576 ≤ z ∧ z ≤ 1048576) : (moveL x y z).all cellB = true := by
  have e0 : cellB 0 = true := by decide
  have e1 : cellB 65536 = true := by decide
  simp [moveL, e0, e1, cell_mk hx.1 hx.2, cell_mk hy.1 hy.2, cell_mk hz.1 hz.2]
theorem stretch_cells {x y z : Int} (hx : -1048576 ≤ x ∧ x ≤ 1048576) (hy : -1048576 ≤ y ∧ y ≤ 1048576) (hz : -1048576 ≤ z ∧ z ≤ 1048576) : (stretchL x y z).all cellB = true := by
  have e0 : cellB 0 = true := by decide
  have e1 : cellB 65536 = true := by decide
  simp [stretchL, e0, e1, cell_mk hx.1 hx.2, cell_mk hy.1 hy.2, cell_mk hz.1 hz.2]
theorem mulV_moves {x y z a b c : Int} (hm : (moveL x y z).all cellB = true) (hn : (moveL a b c).all cellB = true) (hp : (moveL (a + x) (b + y) (c + z)).all cellB = true) : mulV (moveL x y z) (moveL a b c) = (moveL (a + x) (b + y) (c + z), 0) := by
  unfold mulV; rw [hm, hn, mul_moves]; simp [allowV, hp]
theorem out_eq {ms vs ps : List Int} (hp : ps.length = 4) (h0 : outF ms vs 0 = ps.getD 0 0) (h1 : outF ms vs 1 = ps.getD 1 0) (h2 : outF ms vs 2 = ps.getD 2 0) (h3 : outF ms vs 3 = ps.getD 3 0) : fillK 4 (outF ms vs) 4 = ps := by
  obtain ⟨a, b, c, d, rfl⟩ := len4 hp
  simp at h0 h1 h2 h3
  simp [fillK, List.range_succ, h0, h1, h2, h3]
theorem applyV_ok {ms vs : List Int} (hm : ms.all cellB = true) (hv : vs.all numB = true) : applyV ms vs = (fillK 4 (outF ms vs) 4, 0) := by unfold applyV; rw [hm, hv]; rfl
theorem apply_one {vs : List Int} (hv : vs.length = 4) : fillK 4 (outF oneL vs) 4 = vs := by
  refine out_eq hv ?_ ?_ ?_ ?_ <;> (refine near_eq ?_; simp [dot, oneL])
theorem apply_move (x y z a b c : Int) : fillK 4 (outF (moveL x y z) [a, b, c, 65536]) 4 = [a + x, b + y, c + z, 65536] := by
  refine out_eq rfl ?_ ?_ ?_ ?_ <;> (refine near_eq ?_; simp [dot, moveL]; try omega)
theorem apply_stretch (x y z a b c d : Int) : fillK 4 (outF (stretchL (x * 65536) (y * 65536) (z * 65536)) [a, b, c, d]) 4 = [x * a, y * b, z * c, d] := by
  have e : ∀ p q : Int, p * 65536 * q = 65536 * (p * q) := fun p q => by rw [Int.mul_comm p, Int.mul_assoc]
  refine out_eq rfl ?_ ?_ ?_ ?_ <;> (refine near_eq ?_; simp [dot, stretchL, e])

/-! The contracts, with what comes out under a name -/
theorem mul_q {ms ns : List Int} {q : List Int × Int} (hq : Hid (mulV ms ns = q)) (hm : ms.length = 16) (hn : ns.length = 16) (w : World) (wm : Wf ms) (wn : Wf ns) :
    Calls Try.prog 8 #[.agg (cs .i64 ms), .agg (cs .i64 ns)] w fun e w' => e = .returned (.tuple #[.agg (cs .i64 q.1), .int .i64 q.2]) ∧ Below w.heap.size w w' := by
  have h := hq.out; subst h; exact mul_any ms ns hm hn w wm wn
theorem apply_q {ms vs : List Int} {q : List Int × Int} (hq : Hid (applyV ms vs = q)) (hm : ms.length = 16) (hv : vs.length = 4) (w : World) (wm : Wf ms) (wv : Wf vs) :
    Calls Try.prog 10 #[.agg (cs .i64 ms), .agg (cs .i64 vs)] w fun e w' => e = .returned (.tuple #[.agg (cs .i64 q.1), .int .i64 q.2]) ∧ Below w.heap.size w w' := by
  have h := hq.out; subst h; exact apply_any ms vs hm hv w wm wv
end Go.Proofs.Ytgfdmjicokhheaa.VecK
