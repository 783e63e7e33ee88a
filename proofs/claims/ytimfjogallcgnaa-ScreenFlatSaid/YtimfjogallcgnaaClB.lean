/-
  Where a way is cut: both answers.
-/
import Derived.Test.YtimfjogallcgnaaClA
import Derived.BigRegion
namespace Go.Proofs.Ytimfjogallcgnaa.ClB
open Go.RowKit FixA Num Rd Go.Proofs.Ytimfjogallcgnaa.Row Mid ClM ClA
set_option linter.unusedVariables false
set_option linter.unusedSimpArgs false
set_option maxRecDepth 10000
attribute [local go_sem ↓] load_vec load_vx store_vx
attribute [local go_sem] one_int run_load_vec run_load_vx run_store_vx rowLoad_eq rowStore_eq midLoad_eq pc_vec pc_vx blk_alloc_at blk_alloc_old blk_drew blk_drewN blk_set_far blk_set_far' blk_grow setRow_alloc_at setRow_alloc_old setRow_drew setRow_drewN
attribute [local go_sem high] run_maxT run_minT

theorem inside_v {v : List Int} (h : Vx v) (k : Int) (w : World) :
    Calls Try.prog 36 #[.agg (cs .i64 (vec v)), .int .i64 k] w fun e w' => e = .returned (.int .i64 (insV v k)) ∧ Below w.heap.size w w' := by
  have := inside_any (vec v) (vc_of h) k w
  rwa [vec_ins] at this
theorem rinside_v {v : List Int} (h : Vx v) (k : Int) (w : World) :
    Calls Try.prog 38 #[.agg (cs .i64 (vec v)), .int .i64 k] w fun e w' => e = .returned (.int .i64 (insV v k)) ∧ Below w.heap.size w w' := by
  have := rinside_any (vec v) (vc_of h) k w
  rwa [vec_ins] at this
theorem cutT_bd (a b : List Int) (k : Int) : 0 ≤ cutT a b k ∧ cutT a b k ≤ 65536 := tV_bd _ _
theorem cutT_yes {a b : List Int} {k : Int} (h : insV b k < insV a k) : max 0 (min (near (65536 * insV a k) (insV a k - insV b k)) 65536) = cutT a b k := by
  unfold cutT tV; rw [if_pos h]
theorem cutT_yes' {a b : List Int} {k : Int} (h : insV b k < insV a k) : min (max (near (65536 * insV a k) (insV a k - insV b k)) 0) 65536 = cutT a b k := by
  unfold cutT tV; rw [if_pos h]; omega
theorem cutT_no {a b : List Int} {k : Int} (h : ¬ insV b k < insV a k) : cutT a b k = 0 := by
  unfold cutT tV; rw [if_neg h]
set_option maxHeartbeats 2000000 in
theorem cut_any (a b : List Int) (ha : Vx a) (hb' : Vx b) (k : Int) (w : World) :
    Calls Try.prog 40 #[.agg (cs .i64 a), .agg (cs .i64 b), .int .i64 k] w fun e w' => e = .returned (.agg (cs .i64 (cutV a b k))) ∧ Below w.heap.size w w' := by
  have la := ha.len
  have lb := hb'.len
  have da := insV_bd ha k
  have db := insV_bd hb' k
  have tb := cutT_bd a b k
  go_enter Try.func40, Try.ntmps40
  go_upto_region 2 with (fail)
  refine Rd.name_world ?_
  intro w1 hw
  have bA : blk w1 w.heap.size = some (.cells (cs .i64 a) 25 (0, 0)) := by rw [hw]; exact blk3_0 _ _ _ _
  have bB : blk w1 (w.heap.size + 1) = some (.cells (cs .i64 b) 25 (0, 0)) := by rw [hw]; exact blk3_1 _ _ _ _
  have bZ : blk w1 (w.heap.size + 1 + 1) = some (.cells (cs .i64 [0, 0, 0, 0, 0, 0]) 25 (0, 0)) := by rw [hw]; exact blk3_2 _ _ _ _
  have L1 : Below w.heap.size w w1 := by
    rw [hw]
    repeat' (first | (with_reducible exact Below.refl _ _) | (with_reducible refine Rd.below_step ?_ (by assumption)) | (with_reducible refine Rd.below_alloc ?_ _) | (with_reducible refine Rd.below_drewN ?_ _) | (with_reducible refine Below.drew ?_) | (with_reducible refine Below.setCell ?_ ?_ _) | (with_reducible refine Rd.below_setRow ?_ ?_ _) | go_size | (simp only [World.size_alloc]; omega) | omega)
  have k2 := blk_lt bZ
  have k0 : w.heap.size < w1.heap.size := by omega
  have k1 : w.heap.size + 1 < w1.heap.size := by omega
  clear hw
  (refine wp_region_quiet_below (by kernel_rfl) (by kernel_rfl) ?_; (repeat (go_big_quiet_step ((first | (with_reducible exact Calls.regrown_of (inside_v ha k _)) | (with_reducible exact Calls.regrown_of (inside_v hb' k _)))))); refine wpQuiet_nil ?_)
  intro w2 hU
  have KU := Rd.below_of_regrown hU
  clear hU
  have hs := KU.size
  have j0 : w.heap.size + 1 + 1 < w2.heap.size := by omega
  have bA2 := (blk_below KU _ k0).trans bA
  have bB2 := (blk_below KU _ k1).trans bB
  have bZ2 := (blk_below KU _ k2).trans bZ
  have L2 : Below w.heap.size w w2 := by repeat' (first | (with_reducible exact Below.refl _ _) | (with_reducible refine Rd.below_step ?_ (by assumption)) | (with_reducible refine Rd.below_alloc ?_ _) | (with_reducible refine Rd.below_drewN ?_ _) | (with_reducible refine Below.drew ?_) | (with_reducible refine Below.setCell ?_ ?_ _) | (with_reducible refine Rd.below_setRow ?_ ?_ _) | go_size | (simp only [World.size_alloc]; omega) | omega)
  clear KU bA bB bZ L1 k0 k1 k2
  by_cases hlt : insV b k < insV a k
  · have hT := cutT_yes hlt
    have nb := near_bd (65536 * insV a k) (insV a k - insV b k) 70368744177664 (by omega) (by omega) (by omega)
    have EV := Lib.hid (show cutV a b k = [btw (ClM.g a 0) (ClM.g b 0) (cutT a b k), btw (ClM.g a 1) (ClM.g b 1) (cutT a b k), btw (ClM.g a 2) (ClM.g b 2) (cutT a b k), btw (ClM.g a 3) (ClM.g b 3) (cutT a b k), btw (ClM.g a 4) (ClM.g b 4) (cutT a b k), btw (ClM.g a 5) (ClM.g b 5) (cutT a b k)] from rfl)
    have t0 := tb.1
    have t1 := tb.2
    go_wp2_with (go_at_call 18; refine (round_mid _ _ _ (by omega) (by omega) (by omega) (by omega)).mono ?_; rintro e w3 ⟨rfl, hb⟩)
    have hs3 := hb.size
    have bA3 := (blk_below hb _ (by omega)).trans bA2
    have bB3 := (blk_below hb _ (by omega)).trans bB2
    have bZ3 := (blk_below hb _ (by omega)).trans bZ2
    have L3 : Below w.heap.size w w3 := by repeat' (first | (with_reducible exact Below.refl _ _) | (with_reducible refine Rd.below_step ?_ (by assumption)) | (with_reducible refine Rd.below_alloc ?_ _) | (with_reducible refine Rd.below_drewN ?_ _) | (with_reducible refine Below.drew ?_) | (with_reducible refine Below.setCell ?_ ?_ _) | (with_reducible refine Rd.below_setRow ?_ ?_ _) | go_size | (simp only [World.size_alloc]; omega) | omega)
    clear hb bA2 bB2 bZ2 L2 hT nb
    go_wp2
    refine wp_loop_rounds 5 ?_
    rw [rounds_succ]
    refine Rd.name_world ?_
    intro w4 hw
    have j3 : w.heap.size + 1 + 1 < w3.heap.size := by omega
    have bA4 : blk w4 w.heap.size = some (.cells (cs .i64 a) 25 (0, 0)) := by rw [hw, blk_alloc_old _ _ _ (by omega)]; exact bA3
    have bB4 : blk w4 (w.heap.size + 1) = some (.cells (cs .i64 b) 25 (0, 0)) := by rw [hw, blk_alloc_old _ _ _ (by omega)]; exact bB3
    have bZ4 : blk w4 (w.heap.size + 1 + 1) = some (.cells (cs .i64 [0, 0, 0, 0, 0, 0]) 25 (0, 0)) := by rw [hw, blk_alloc_old _ _ _ (by omega)]; exact bZ3
    have bC4 : blk w4 w3.heap.size = some (.cells (cs .i64 [0, 0, 0, 0, 0, 0]) 25 (0, 0)) := by rw [hw, blk_alloc_at _ _ _ rfl]; rfl
    have s4 : w3.heap.size < w4.heap.size := by rw [hw]; simp
    have L4 : Below w.heap.size w w4 := by
      rw [hw]
      repeat' (first | (with_reducible exact Below.refl _ _) | (with_reducible refine Rd.below_step ?_ (by assumption)) | (with_reducible refine Rd.below_alloc ?_ _) | (with_reducible refine Rd.below_drewN ?_ _) | (with_reducible refine Below.drew ?_) | (with_reducible refine Below.setCell ?_ ?_ _) | (with_reducible refine Rd.below_setRow ?_ ?_ _) | go_size | (simp only [World.size_alloc]; omega) | omega)
    clear hw bA3 bB3 bZ3 L3 j0 hs
    have q0 : w.heap.size < w4.heap.size := by omega
    have q1 : w.heap.size + 1 < w4.heap.size := by omega
    have q2 : w.heap.size + 1 + 1 < w4.heap.size := by omega
    have ga := Go.cell_regrown (w := w4) (a := ⟨w.heap.size, 0, none⟩) (v := .int .i64 (ClM.g a 0)) (by rw [blk_cell bA4]; exact cs_at (at_of (l := a) (by omega)))
    have gb := Go.cell_regrown (w := w4) (a := ⟨w.heap.size + 1, 0, none⟩) (v := .int .i64 (ClM.g b 0)) (by rw [blk_cell bB4]; exact cs_at (at_of (l := b) (by omega)))
    go_wp2
    (refine Reg.below_tail 13 (by kernel_rfl) (by kernel_rfl) ?_; simp only [List.take_succ_cons, List.take_zero, List.drop_succ_cons, List.drop_zero]; (repeat (go_big_quiet_step (((with_reducible exact Calls.regrown_of (between_any (ClM.g a 0) (ClM.g b 0) (cutT a b k) t0 t1 ha.x0 ha.x1 hb'.x0 hb'.x1 _)))))); refine wpQuiet_nil ?_)
    intro w5 hU
    have KU := Rd.below_of_regrown hU
    clear hU ga gb
    have hsz := KU.size
    have bA5 := (blk_below KU _ q0).trans bA4
    have bB5 := (blk_below KU _ q1).trans bB4
    have bZ5 := (blk_below KU _ q2).trans bZ4
    have bC5 := (blk_below KU _ s4).trans bC4
    have s5 : w3.heap.size < w5.heap.size := by omega
    have L5 : Below w.heap.size w w5 := by repeat' (first | (with_reducible exact Below.refl _ _) | (with_reducible refine Rd.below_step ?_ (by assumption)) | (with_reducible refine Rd.below_alloc ?_ _) | (with_reducible refine Rd.below_drewN ?_ _) | (with_reducible refine Below.drew ?_) | (with_reducible refine Below.setCell ?_ ?_ _) | (with_reducible refine Rd.below_setRow ?_ ?_ _) | go_size | (simp only [World.size_alloc]; omega) | omega)
    clear KU bA4 bB4 bZ4 bC4 L4 s4 q0 q1 q2 hsz
    have c0 : w5.cell? ⟨w3.heap.size, 0, none⟩ = some (.int .i64 0) := by rw [blk_cell bC5]; rfl
    have f0 : w5.frozen? ⟨w3.heap.size, 0, none⟩ = false := blk_frozen bC5 _
    go_wp2
    rw [rounds_succ]
    refine Rd.name_world ?_
    intro w6 hw
    have bA6 : blk w6 w.heap.size = some (.cells (cs .i64 a) 25 (0, 0)) := by rw [hw, blk_set_far _ _ _ _ (by simp; omega)]; exact bA5
    have bB6 : blk w6 (w.heap.size + 1) = some (.cells (cs .i64 b) 25 (0, 0)) := by rw [hw, blk_set_far _ _ _ _ (by simp; omega)]; exact bB5
    have bZ6 : blk w6 (w.heap.size + 1 + 1) = some (.cells (cs .i64 [0, 0, 0, 0, 0, 0]) 25 (0, 0)) := by rw [hw, blk_set_far _ _ _ _ (by simp; omega)]; exact bZ5
    have bC6 : blk w6 w3.heap.size = some (.cells (cs .i64 [btw (ClM.g a 0) (ClM.g b 0) (cutT a b k), 0, 0, 0, 0, 0]) 25 (0, 0)) := by rw [hw, blk_set _ _ _ _ _ _ bC5]; simp
    have s6 : w3.heap.size < w6.heap.size := by rw [hw]; simpa using s5
    have L6 : Below w.heap.size w w6 := by
      rw [hw]
      repeat' (first | (with_reducible exact Below.refl _ _) | (with_reducible refine Rd.below_step ?_ (by assumption)) | (with_reducible refine Rd.below_alloc ?_ _) | (with_reducible refine Rd.below_drewN ?_ _) | (with_reducible refine Below.drew ?_) | (with_reducible refine Below.setCell ?_ ?_ _) | (with_reducible refine Rd.below_setRow ?_ ?_ _) | go_size | (simp only [World.size_alloc]; omega) | omega)
    clear hw bA5 bB5 bZ5 bC5 L5 s5 c0 f0
    have q0 : w.heap.size < w6.heap.size := by omega
    have q1 : w.heap.size + 1 < w6.heap.size := by omega
    have q2 : w.heap.size + 1 + 1 < w6.heap.size := by omega
    have ga := Go.cell_regrown (w := w6) (a := ⟨w.heap.size, 1, none⟩) (v := .int .i64 (ClM.g a 1)) (by rw [blk_cell bA6]; exact cs_at (at_of (l := a) (by omega)))
    have gb := Go.cell_regrown (w := w6) (a := ⟨w.heap.size + 1, 1, none⟩) (v := .int .i64 (ClM.g b 1)) (by rw [blk_cell bB6]; exact cs_at (at_of (l := b) (by omega)))
    go_wp2
    (refine Reg.below_tail 13 (by kernel_rfl) (by kernel_rfl) ?_; simp only [List.take_succ_cons, List.take_zero, List.drop_succ_cons, List.drop_zero]; (repeat (go_big_quiet_step (((with_reducible exact Calls.regrown_of (between_any (ClM.g a 1) (ClM.g b 1) (cutT a b k) t0 t1 ha.y0 ha.y1 hb'.y0 hb'.y1 _)))))); refine wpQuiet_nil ?_)
    intro w7 hU
    have KU := Rd.below_of_regrown hU
    clear hU ga gb
    have hsz := KU.size
    have bA7 := (blk_below KU _ q0).trans bA6
    have bB7 := (blk_below KU _ q1).trans bB6
    have bZ7 := (blk_below KU _ q2).trans bZ6
    have bC7 := (blk_below KU _ s6).trans bC6
    have s7 : w3.heap.size < w7.heap.size := by omega
    have L7 : Below w.heap.size w w7 := by repeat' (first | (with_reducible exact Below.refl _ _) | (with_reducible refine Rd.below_step ?_ (by assumption)) | (with_reducible refine Rd.below_alloc ?_ _) | (with_reducible refine Rd.below_drewN ?_ _) | (with_reducible refine Below.drew ?_) | (with_reducible refine Below.setCell ?_ ?_ _) | (with_reducible refine Rd.below_setRow ?_ ?_ _) | go_size | (simp only [World.size_alloc]; omega) | omega)
    clear KU bA6 bB6 bZ6 bC6 L6 s6 q0 q1 q2 hsz
    have c0 : w7.cell? ⟨w3.heap.size, 1, none⟩ = some (.int .i64 0) := by rw [blk_cell bC7]; rfl
    have f0 : w7.frozen? ⟨w3.heap.size, 1, none⟩ = false := blk_frozen bC7 _
    go_wp2
    rw [rounds_succ]
    refine Rd.name_world ?_
    intro w8 hw
    have bA8 : blk w8 w.heap.size = some (.cells (cs .i64 a) 25 (0, 0)) := by rw [hw, blk_set_far _ _ _ _ (by simp; omega)]; exact bA7
    have bB8 : blk w8 (w.heap.size + 1) = some (.cells (cs .i64 b) 25 (0, 0)) := by rw [hw, blk_set_far _ _ _ _ (by simp; omega)]; exact bB7
    have bZ8 : blk w8 (w.heap.size + 1 + 1) = some (.cells (cs .i64 [0, 0, 0, 0, 0, 0]) 25 (0, 0)) := by rw [hw, blk_set_far _ _ _ _ (by simp; omega)]; exact bZ7
    have bC8 : blk w8 w3.heap.size = some (.cells (cs .i64 [btw (ClM.g a 0) (ClM.g b 0) (cutT a b k), btw (ClM.g a 1) (ClM.g b 1) (cutT a b k), 0, 0, 0, 0]) 25 (0, 0)) := by rw [hw, blk_set _ _ _ _ _ _ bC7]; simp
    have s8 : w3.heap.size < w8.heap.size := by rw [hw]; simpa using s7
    have L8 : Below w.heap.size w w8 := by
      rw [hw]
      repeat' (first | (with_reducible exact Below.refl _ _) | (with_reducible refine Rd.below_step ?_ (by assumption)) | (with_reducible refine Rd.below_alloc ?_ _) | (with_reducible refine Rd.below_drewN ?_ _) | (with_reducible refine Below.drew ?_) | (with_reducible refine Below.setCell ?_ ?_ _) | (with_reducible refine Rd.below_setRow ?_ ?_ _) | go_size | (simp only [World.size_alloc]; omega) | omega)
    clear hw bA7 bB7 bZ7 bC7 L7 s7 c0 f0
    have q0 : w.heap.size < w8.heap.size := by omega
    have q1 : w.heap.size + 1 < w8.heap.size := by omega
    have q2 : w.heap.size + 1 + 1 < w8.heap.size := by omega
    have ga := Go.cell_regrown (w := w8) (a := ⟨w.heap.size, 2, none⟩) (v := .int .i64 (ClM.g a 2)) (by rw [blk_cell bA8]; exact cs_at (at_of (l := a) (by omega)))
    have gb := Go.cell_regrown (w := w8) (a := ⟨w.heap.size + 1, 2, none⟩) (v := .int .i64 (ClM.g b 2)) (by rw [blk_cell bB8]; exact cs_at (at_of (l := b) (by omega)))
    go_wp2
    (refine Reg.below_tail 13 (by kernel_rfl) (by kernel_rfl) ?_; simp only [List.take_succ_cons, List.take_zero, List.drop_succ_cons, List.drop_zero]; (repeat (go_big_quiet_step (((with_reducible exact Calls.regrown_of (between_any (ClM.g a 2) (ClM.g b 2) (cutT a b k) t0 t1 ha.z0 ha.z1 hb'.z0 hb'.z1 _)))))); refine wpQuiet_nil ?_)
    intro w9 hU
    have KU := Rd.below_of_regrown hU
    clear hU ga gb
    have hsz := KU.size
    have bA9 := (blk_below KU _ q0).trans bA8
    have bB9 := (blk_below KU _ q1).trans bB8
    have bZ9 := (blk_below KU _ q2).trans bZ8
    have bC9 := (blk_below KU _ s8).trans bC8
    have s9 : w3.heap.size < w9.heap.size := by omega
    have L9 : Below w.heap.size w w9 := by repeat' (first | (with_reducible exact Below.refl _ _) | (with_reducible refine Rd.below_step ?_ (by assumption)) | (with_reducible refine Rd.below_alloc ?_ _) | (with_reducible refine Rd.below_drewN ?_ _) | (with_reducible refine Below.drew ?_) | (with_reducible refine Below.setCell ?_ ?_ _) | (with_reducible refine Rd.below_setRow ?_ ?_ _) | go_size | (simp only [World.size_alloc]; omega) | omega)
    clear KU bA8 bB8 bZ8 bC8 L8 s8 q0 q1 q2 hsz
    have c0 : w9.cell? ⟨w3.heap.size, 2, none⟩ = some (.int .i64 0) := by rw [blk_cell bC9]; rfl
    have f0 : w9.frozen? ⟨w3.heap.size, 2, none⟩ = false := blk_frozen bC9 _
    go_wp2
    rw [rounds_succ]
    refine Rd.name_world ?_
    intro w10 hw
    have bA10 : blk w10 w.heap.size = some (.cells (cs .i64 a) 25 (0, 0)) := by rw [hw, blk_set_far _ _ _ _ (by simp; omega)]; exact bA9
    have bB10 : blk w10 (w.heap.size + 1) = some (.cells (cs .i64 b) 25 (0, 0)) := by rw [hw, blk_set_far _ _ _ _ (by simp; omega)]; exact bB9
    have bZ10 : blk w10 (w.heap.size + 1 + 1) = some (.cells (cs .i64 [0, 0, 0, 0, 0, 0]) 25 (0, 0)) := by rw [hw, blk_set_far _ _ _ _ (by simp; omega)]; exact bZ9
    have bC10 : blk w10 w3.heap.size = some (.cells (cs .i64 [btw (ClM.g a 0) (ClM.g b 0) (cutT a b k), btw (ClM.g a 1) (ClM.g b 1) (cutT a b k), btw (ClM.g a 2) (ClM.g b 2) (cutT a b k), 0, 0, 0]) 25 (0, 0)) := by rw [hw, blk_set _ _ _ _ _ _ bC9]; simp
    have s10 : w3.heap.size < w10.heap.size := by rw [hw]; simpa using s9
    have L10 : Below w.heap.size w w10 := by
      rw [hw]
      repeat' (first | (with_reducible exact Below.refl _ _) | (with_reducible refine Rd.below_step ?_ (by assumption)) | (with_reducible refine Rd.below_alloc ?_ _) | (with_reducible refine Rd.below_drewN ?_ _) | (with_reducible refine Below.drew ?_) | (with_reducible refine Below.setCell ?_ ?_ _) | (with_reducible refine Rd.below_setRow ?_ ?_ _) | go_size | (simp only [World.size_alloc]; omega) | omega)
    clear hw bA9 bB9 bZ9 bC9 L9 s9 c0 f0
    have q0 : w.heap.size < w10.heap.size := by omega
    have q1 : w.heap.size + 1 < w10.heap.size := by omega
    have q2 : w.heap.size + 1 + 1 < w10.heap.size := by omega
    have ga := Go.cell_regrown (w := w10) (a := ⟨w.heap.size, 3, none⟩) (v := .int .i64 (ClM.g a 3)) (by rw [blk_cell bA10]; exact cs_at (at_of (l := a) (by omega)))
    have gb := Go.cell_regrown (w := w10) (a := ⟨w.heap.size + 1, 3, none⟩) (v := .int .i64 (ClM.g b 3)) (by rw [blk_cell bB10]; exact cs_at (at_of (l := b) (by omega)))
    go_wp2
    (refine Reg.below_tail 13 (by kernel_rfl) (by kernel_rfl) ?_; simp only [List.take_succ_cons, List.take_zero, List.drop_succ_cons, List.drop_zero]; (repeat (go_big_quiet_step (((with_reducible exact Calls.regrown_of (between_any (ClM.g a 3) (ClM.g b 3) (cutT a b k) t0 t1 ha.w0 ha.w1 hb'.w0 hb'.w1 _)))))); refine wpQuiet_nil ?_)
    intro w11 hU
    have KU := Rd.below_of_regrown hU
    clear hU ga gb
    have hsz := KU.size
    have bA11 := (blk_below KU _ q0).trans bA10
    have bB11 := (blk_below KU _ q1).trans bB10
    have bZ11 := (blk_below KU _ q2).trans bZ10
    have bC11 := (blk_below KU _ s10).trans bC10
    have s11 : w3.heap.size < w11.heap.size := by omega
    have L11 : Below w.heap.size w w11 := by repeat' (first | (with_reducible exact Below.refl _ _) | (with_reducible refine Rd.below_step ?_ (by assumption)) | (with_reducible refine Rd.below_alloc ?_ _) | (with_reducible refine Rd.below_drewN ?_ _) | (with_reducible refine Below.drew ?_) | (with_reducible refine Below.setCell ?_ ?_ _) | (with_reducible refine Rd.below_setRow ?_ ?_ _) | go_size | (simp only [World.size_alloc]; omega) | omega)
    clear KU bA10 bB10 bZ10 bC10 L10 s10 q0 q1 q2 hsz
    have c0 : w11.cell? ⟨w3.heap.size, 3, none⟩ = some (.int .i64 0) := by rw [blk_cell bC11]; rfl
    have f0 : w11.frozen? ⟨w3.heap.size, 3, none⟩ = false := blk_frozen bC11 _
    go_wp2
    rw [rounds_succ]
    refine Rd.name_world ?_
    intro w12 hw
    have bA12 : blk w12 w.heap.size = some (.cells (cs .i64 a) 25 (0, 0)) := by rw [hw, blk_set_far _ _ _ _ (by simp; omega)]; exact bA11
    have bB12 : blk w12 (w.heap.size + 1) = some (.cells (cs .i64 b) 25 (0, 0)) := by rw [hw, blk_set_far _ _ _ _ (by simp; omega)]; exact bB11
    have bZ12 : blk w12 (w.heap.size + 1 + 1) = some (.cells (cs .i64 [0, 0, 0, 0, 0, 0]) 25 (0, 0)) := by rw [hw, blk_set_far _ _ _ _ (by simp; omega)]; exact bZ11
    have bC12 : blk w12 w3.heap.size = some (.cells (cs .i64 [btw (ClM.g a 0) (ClM.g b 0) (cutT a b k), btw (ClM.g a 1) (ClM.g b 1) (cutT a b k), btw (ClM.g a 2) (ClM.g b 2) (cutT a b k), btw (ClM.g a 3) (ClM.g b 3) (cutT a b k), 0, 0]) 25 (0, 0)) := by rw [hw, blk_set _ _ _ _ _ _ bC11]; simp
    have s12 : w3.heap.size < w12.heap.size := by rw [hw]; simpa using s11
    have L12 : Below w.heap.size w w12 := by
      rw [hw]
      repeat' (first | (with_reducible exact Below.refl _ _) | (with_reducible refine Rd.below_step ?_ (by assumption)) | (with_reducible refine Rd.below_alloc ?_ _) | (with_reducible refine Rd.below_drewN ?_ _) | (with_reducible refine Below.drew ?_) | (with_reducible refine Below.setCell ?_ ?_ _) | (with_reducible refine Rd.below_setRow ?_ ?_ _) | go_size | (simp only [World.size_alloc]; omega) | omega)
    clear hw bA11 bB11 bZ11 bC11 L11 s11 c0 f0
    have q0 : w.heap.size < w12.heap.size := by omega
    have q1 : w.heap.size + 1 < w12.heap.size := by omega
    have q2 : w.heap.size + 1 + 1 < w12.heap.size := by omega
    have ga4 := Go.cell_regrown (w := w12) (a := ⟨w.heap.size, 4, none⟩) (v := .int .i64 (ClM.g a 4)) (by rw [blk_cell bA12]; exact cs_at (at_of (l := a) (by omega)))
    have gb4 := Go.cell_regrown (w := w12) (a := ⟨w.heap.size + 1, 4, none⟩) (v := .int .i64 (ClM.g b 4)) (by rw [blk_cell bB12]; exact cs_at (at_of (l := b) (by omega)))
    have ga5 := Go.cell_regrown (w := w12) (a := ⟨w.heap.size, 5, none⟩) (v := .int .i64 (ClM.g a 5)) (by rw [blk_cell bA12]; exact cs_at (at_of (l := a) (by omega)))
    have gb5 := Go.cell_regrown (w := w12) (a := ⟨w.heap.size + 1, 5, none⟩) (v := .int .i64 (ClM.g b 5)) (by rw [blk_cell bB12]; exact cs_at (at_of (l := b) (by omega)))
    go_wp2
    (refine Reg.below_tail 13 (by kernel_rfl) (by kernel_rfl) ?_; simp only [List.take_succ_cons, List.take_zero, List.drop_succ_cons, List.drop_zero]; (repeat (go_big_quiet_step ((first | (with_reducible exact Calls.regrown_of (between_any (ClM.g a 4) (ClM.g b 4) (cutT a b k) t0 t1 (by have := ha.u0; omega) (by have := ha.u1; omega) (by have := hb'.u0; omega) (by have := hb'.u1; omega) _)) | (with_reducible exact Calls.regrown_of (between_any (ClM.g a 5) (ClM.g b 5) (cutT a b k) t0 t1 (by have := ha.v0; omega) (by have := ha.v1; omega) (by have := hb'.v0; omega) (by have := hb'.v1; omega) _)))))); refine wpQuiet_nil ?_)
    intro w13 hU
    have KU := Rd.below_of_regrown hU
    clear hU ga4 gb4 ga5 gb5
    have bZ13 := (blk_below KU _ q2).trans bZ12
    have bC13 := (blk_below KU _ s12).trans bC12
    have hsz := KU.size
    have L13 : Below w.heap.size w w13 := by repeat' (first | (with_reducible exact Below.refl _ _) | (with_reducible refine Rd.below_step ?_ (by assumption)) | (with_reducible refine Rd.below_alloc ?_ _) | (with_reducible refine Rd.below_drewN ?_ _) | (with_reducible refine Below.drew ?_) | (with_reducible refine Below.setCell ?_ ?_ _) | (with_reducible refine Rd.below_setRow ?_ ?_ _) | go_size | (simp only [World.size_alloc]; omega) | omega)
    clear KU bA12 bB12 bZ12 bC12 L12 q0 q1
    have c0 : w13.cell? ⟨w3.heap.size, 4, none⟩ = some (.int .i64 0) := by rw [blk_cell bC13]; rfl
    have c1 : w13.cell? ⟨w3.heap.size, 5, none⟩ = some (.int .i64 0) := by rw [blk_cell bC13]; rfl
    have f0 : w13.frozen? ⟨w3.heap.size, 4, none⟩ = false := blk_frozen bC13 _
    have f1 : w13.frozen? ⟨w3.heap.size, 5, none⟩ = false := blk_frozen bC13 _
    go_upto_region 13 with (fail)
    refine Rd.name_world ?_
    intro w14 hw
    have bZ14 : blk w14 (w.heap.size + 1 + 1) = some (.cells (cs .i64 [0, 0, 0, 0, 0, 0]) 25 (0, 0)) := by rw [hw, blk_set_far _ _ _ _ (by simp; omega), blk_set_far _ _ _ _ (by simp; omega)]; exact bZ13
    have bC14 : blk w14 w3.heap.size = some (.cells (cs .i64 [btw (ClM.g a 0) (ClM.g b 0) (cutT a b k), btw (ClM.g a 1) (ClM.g b 1) (cutT a b k), btw (ClM.g a 2) (ClM.g b 2) (cutT a b k), btw (ClM.g a 3) (ClM.g b 3) (cutT a b k), btw (ClM.g a 4) (ClM.g b 4) (cutT a b k), btw (ClM.g a 5) (ClM.g b 5) (cutT a b k)]) 25 (0, 0)) := by rw [hw, blk_set _ _ _ _ _ _ (blk_set _ _ _ _ _ _ bC13)]; simp
    have L14 : Below w.heap.size w w14 := by
      rw [hw]
      repeat' (first | (with_reducible exact Below.refl _ _) | (with_reducible refine Rd.below_step ?_ (by assumption)) | (with_reducible refine Rd.below_alloc ?_ _) | (with_reducible refine Rd.below_drewN ?_ _) | (with_reducible refine Below.drew ?_) | (with_reducible refine Below.setCell ?_ ?_ _) | (with_reducible refine Rd.below_setRow ?_ ?_ _) | go_size | (simp only [World.size_alloc]; omega) | omega)
    clear hw bZ13 bC13 L13 c0 c1 f0 f1
    go_wp2
    exact ret_vx rfl (w.heap.size + 1 + 1) [btw (ClM.g a 0) (ClM.g b 0) (cutT a b k), btw (ClM.g a 1) (ClM.g b 1) (cutT a b k), btw (ClM.g a 2) (ClM.g b 2) (cutT a b k), btw (ClM.g a 3) (ClM.g b 3) (cutT a b k), btw (ClM.g a 4) (ClM.g b 4) (cutT a b k), btw (ClM.g a 5) (ClM.g b 5) (cutT a b k)] rfl rfl (blk_setRow_of bZ14 _) rfl ⟨by rw [EV.out], by repeat' (first | (with_reducible exact Below.refl _ _) | (with_reducible refine Rd.below_step ?_ (by assumption)) | (with_reducible refine Rd.below_alloc ?_ _) | (with_reducible refine Rd.below_drewN ?_ _) | (with_reducible refine Below.drew ?_) | (with_reducible refine Below.setCell ?_ ?_ _) | (with_reducible refine Rd.below_setRow ?_ ?_ _) | go_size | (simp only [World.size_alloc]; omega) | omega)⟩
  · have EV := Lib.hid (show cutV a b k = [btw (ClM.g a 0) (ClM.g b 0) (0), btw (ClM.g a 1) (ClM.g b 1) (0), btw (ClM.g a 2) (ClM.g b 2) (0), btw (ClM.g a 3) (ClM.g b 3) (0), btw (ClM.g a 4) (ClM.g b 4) (0), btw (ClM.g a 5) (ClM.g b 5) (0)] by unfold cutV; rw [cutT_no hlt])
    have t0 : (0 : Int) ≤ 0 := by omega
    have t1 : (0 : Int) ≤ 65536 := by omega
    go_wp2
    refine wp_loop_rounds 5 ?_
    rw [rounds_succ]
    refine Rd.name_world ?_
    intro w4 hw
    have j3 : w.heap.size + 1 + 1 < w2.heap.size := by omega
    have bA4 : blk w4 w.heap.size = some (.cells (cs .i64 a) 25 (0, 0)) := by rw [hw, blk_alloc_old _ _ _ (by omega)]; exact bA2
    have bB4 : blk w4 (w.heap.size + 1) = some (.cells (cs .i64 b) 25 (0, 0)) := by rw [hw, blk_alloc_old _ _ _ (by omega)]; exact bB2
    have bZ4 : blk w4 (w.heap.size + 1 + 1) = some (.cells (cs .i64 [0, 0, 0, 0, 0, 0]) 25 (0, 0)) := by rw [hw, blk_alloc_old _ _ _ (by omega)]; exact bZ2
    have bC4 : blk w4 w2.heap.size = some (.cells (cs .i64 [0, 0, 0, 0, 0, 0]) 25 (0, 0)) := by rw [hw, blk_alloc_at _ _ _ rfl]; rfl
    have s4 : w2.heap.size < w4.heap.size := by rw [hw]; simp
    have L4 : Below w.heap.size w w4 := by
      rw [hw]
      repeat' (first | (with_reducible exact Below.refl _ _) | (with_reducible refine Rd.below_step ?_ (by assumption)) | (with_reducible refine Rd.below_alloc ?_ _) | (with_reducible refine Rd.below_drewN ?_ _) | (with_reducible refine Below.drew ?_) | (with_reducible refine Below.setCell ?_ ?_ _) | (with_reducible refine Rd.below_setRow ?_ ?_ _) | go_size | (simp only [World.size_alloc]; omega) | omega)
    clear hw bA2 bB2 bZ2 L2 j0 hs
    have q0 : w.heap.size < w4.heap.size := by omega
    have q1 : w.heap.size + 1 < w4.heap.size := by omega
    have q2 : w.heap.size + 1 + 1 < w4.heap.size := by omega
    have ga := Go.cell_regrown (w := w4) (a := ⟨w.heap.size, 0, none⟩) (v := .int .i64 (ClM.g a 0)) (by rw [blk_cell bA4]; exact cs_at (at_of (l := a) (by omega)))
    have gb := Go.cell_regrown (w := w4) (a := ⟨w.heap.size + 1, 0, none⟩) (v := .int .i64 (ClM.g b 0)) (by rw [blk_cell bB4]; exact cs_at (at_of (l := b) (by omega)))
    go_wp2
    (refine Reg.below_tail 13 (by kernel_rfl) (by kernel_rfl) ?_; simp only [List.take_succ_cons, List.take_zero, List.drop_succ_cons, List.drop_zero]; (repeat (go_big_quiet_step (((with_reducible exact Calls.regrown_of (between_any (ClM.g a 0) (ClM.g b 0) (0) t0 t1 ha.x0 ha.x1 hb'.x0 hb'.x1 _)))))); refine wpQuiet_nil ?_)
    intro w5 hU
    have KU := Rd.below_of_regrown hU
    clear hU ga gb
    have hsz := KU.size
    have bA5 := (blk_below KU _ q0).trans bA4
    have bB5 := (blk_below KU _ q1).trans bB4
    have bZ5 := (blk_below KU _ q2).trans bZ4
    have bC5 := (blk_below KU _ s4).trans bC4
    have s5 : w2.heap.size < w5.heap.size := by omega
    have L5 : Below w.heap.size w w5 := by repeat' (first | (with_reducible exact Below.refl _ _) | (with_reducible refine Rd.below_step ?_ (by assumption)) | (with_reducible refine Rd.below_alloc ?_ _) | (with_reducible refine Rd.below_drewN ?_ _) | (with_reducible refine Below.drew ?_) | (with_reducible refine Below.setCell ?_ ?_ _) | (with_reducible refine Rd.below_setRow ?_ ?_ _) | go_size | (simp only [World.size_alloc]; omega) | omega)
    clear KU bA4 bB4 bZ4 bC4 L4 s4 q0 q1 q2 hsz
    have c0 : w5.cell? ⟨w2.heap.size, 0, none⟩ = some (.int .i64 0) := by rw [blk_cell bC5]; rfl
    have f0 : w5.frozen? ⟨w2.heap.size, 0, none⟩ = false := blk_frozen bC5 _
    go_wp2
    rw [rounds_succ]
    refine Rd.name_world ?_
    intro w6 hw
    have bA6 : blk w6 w.heap.size = some (.cells (cs .i64 a) 25 (0, 0)) := by rw [hw, blk_set_far _ _ _ _ (by simp; omega)]; exact bA5
    have bB6 : blk w6 (w.heap.size + 1) = some (.cells (cs .i64 b) 25 (0, 0)) := by rw [hw, blk_set_far _ _ _ _ (by simp; omega)]; exact bB5
    have bZ6 : blk w6 (w.heap.size + 1 + 1) = some (.cells (cs .i64 [0, 0, 0, 0, 0, 0]) 25 (0, 0)) := by rw [hw, blk_set_far _ _ _ _ (by simp; omega)]; exact bZ5
    have bC6 : blk w6 w2.heap.size = some (.cells (cs .i64 [btw (ClM.g a 0) (ClM.g b 0) (0), 0, 0, 0, 0, 0]) 25 (0, 0)) := by rw [hw, blk_set _ _ _ _ _ _ bC5]; simp
    have s6 : w2.heap.size < w6.heap.size := by rw [hw]; simpa using s5
    have L6 : Below w.heap.size w w6 := by
      rw [hw]
      repeat' (first | (with_reducible exact Below.refl _ _) | (with_reducible refine Rd.below_step ?_ (by assumption)) | (with_reducible refine Rd.below_alloc ?_ _) | (with_reducible refine Rd.below_drewN ?_ _) | (with_reducible refine Below.drew ?_) | (with_reducible refine Below.setCell ?_ ?_ _) | (with_reducible refine Rd.below_setRow ?_ ?_ _) | go_size | (simp only [World.size_alloc]; omega) | omega)
    clear hw bA5 bB5 bZ5 bC5 L5 s5 c0 f0
    have q0 : w.heap.size < w6.heap.size := by omega
    have q1 : w.heap.size + 1 < w6.heap.size := by omega
    have q2 : w.heap.size + 1 + 1 < w6.heap.size := by omega
    have ga := Go.cell_regrown (w := w6) (a := ⟨w.heap.size, 1, none⟩) (v := .int .i64 (ClM.g a 1)) (by rw [blk_cell bA6]; exact cs_at (at_of (l := a) (by omega)))
    have gb := Go.cell_regrown (w := w6) (a := ⟨w.heap.size + 1, 1, none⟩) (v := .int .i64 (ClM.g b 1)) (by rw [blk_cell bB6]; exact cs_at (at_of (l := b) (by omega)))
    go_wp2
    (refine Reg.below_tail 13 (by kernel_rfl) (by kernel_rfl) ?_; simp only [List.take_succ_cons, List.take_zero, List.drop_succ_cons, List.drop_zero]; (repeat (go_big_quiet_step (((with_reducible exact Calls.regrown_of (between_any (ClM.g a 1) (ClM.g b 1) (0) t0 t1 ha.y0 ha.y1 hb'.y0 hb'.y1 _)))))); refine wpQuiet_nil ?_)
    intro w7 hU
    have KU := Rd.below_of_regrown hU
    clear hU ga gb
    have hsz := KU.size
    have bA7 := (blk_below KU _ q0).trans bA6
    have bB7 := (blk_below KU _ q1).trans bB6
    have bZ7 := (blk_below KU _ q2).trans bZ6
    have bC7 := (blk_below KU _ s6).trans bC6
    have s7 : w2.heap.size < w7.heap.size := by omega
    have L7 : Below w.heap.size w w7 := by repeat' (first | (with_reducible exact Below.refl _ _) | (with_reducible refine Rd.below_step ?_ (by assumption)) | (with_reducible refine Rd.below_alloc ?_ _) | (with_reducible refine Rd.below_drewN ?_ _) | (with_reducible refine Below.drew ?_) | (with_reducible refine Below.setCell ?_ ?_ _) | (with_reducible refine Rd.below_setRow ?_ ?_ _) | go_size | (simp only [World.size_alloc]; omega) | omega)
    clear KU bA6 bB6 bZ6 bC6 L6 s6 q0 q1 q2 hsz
    have c0 : w7.cell? ⟨w2.heap.size, 1, none⟩ = some (.int .i64 0) := by rw [blk_cell bC7]; rfl
    have f0 : w7.frozen? ⟨w2.heap.size, 1, none⟩ = false := blk_frozen bC7 _
    go_wp2
    rw [rounds_succ]
    refine Rd.name_world ?_
    intro w8 hw
    have bA8 : blk w8 w.heap.size = some (.cells (cs .i64 a) 25 (0, 0)) := by rw [hw, blk_set_far _ _ _ _ (by simp; omega)]; exact bA7
    have bB8 : blk w8 (w.heap.size + 1) = some (.cells (cs .i64 b) 25 (0, 0)) := by rw [hw, blk_set_far _ _ _ _ (by simp; omega)]; exact bB7
    have bZ8 : blk w8 (w.heap.size + 1 + 1) = some (.cells (cs .i64 [0, 0, 0, 0, 0, 0]) 25 (0, 0)) := by rw [hw, blk_set_far _ _ _ _ (by simp; omega)]; exact bZ7
    have bC8 : blk w8 w2.heap.size = some (.cells (cs .i64 [btw (ClM.g a 0) (ClM.g b 0) (0), btw (ClM.g a 1) (ClM.g b 1) (0), 0, 0, 0, 0]) 25 (0, 0)) := by rw [hw, blk_set _ _ _ _ _ _ bC7]; simp
    have s8 : w2.heap.size < w8.heap.size := by rw [hw]; simpa using s7
    have L8 : Below w.heap.size w w8 := by
      rw [hw]
      repeat' (first | (with_reducible exact Below.refl _ _) | (with_reducible refine Rd.below_step ?_ (by assumption)) | (with_reducible refine Rd.below_alloc ?_ _) | (with_reducible refine Rd.below_drewN ?_ _) | (with_reducible refine Below.drew ?_) | (with_reducible refine Below.setCell ?_ ?_ _) | (with_reducible refine Rd.below_setRow ?_ ?_ _) | go_size | (simp only [World.size_alloc]; omega) | omega)
    clear hw bA7 bB7 bZ7 bC7 L7 s7 c0 f0
    have q0 : w.heap.size < w8.heap.size := by omega
    have q1 : w.heap.size + 1 < w8.heap.size := by omega
    have q2 : w.heap.size + 1 + 1 < w8.heap.size := by omega
    have ga := Go.cell_regrown (w := w8) (a := ⟨w.heap.size, 2, none⟩) (v := .int .i64 (ClM.g a 2)) (by rw [blk_cell bA8]; exact cs_at (at_of (l := a) (by omega)))
    have gb := Go.cell_regrown (w := w8) (a := ⟨w.heap.size + 1, 2, none⟩) (v := .int .i64 (ClM.g b 2)) (by rw [blk_cell bB8]; exact cs_at (at_of (l := b) (by omega)))
    go_wp2
    (refine Reg.below_tail 13 (by kernel_rfl) (by kernel_rfl) ?_; simp only [List.take_succ_cons, List.take_zero, List.drop_succ_cons, List.drop_zero]; (repeat (go_big_quiet_step (((with_reducible exact Calls.regrown_of (between_any (ClM.g a 2) (ClM.g b 2) (0) t0 t1 ha.z0 ha.z1 hb'.z0 hb'.z1 _)))))); refine wpQuiet_nil ?_)
    intro w9 hU
    have KU := Rd.below_of_regrown hU
    clear hU ga gb
    have hsz := KU.size
    have bA9 := (blk_below KU _ q0).trans bA8
    have bB9 := (blk_below KU _ q1).trans bB8
    have bZ9 := (blk_below KU _ q2).trans bZ8
    have bC9 := (blk_below KU _ s8).trans bC8
    have s9 : w2.heap.size < w9.heap.size := by omega
    have L9 : Below w.heap.size w w9 := by repeat' (first | (with_reducible exact Below.refl _ _) | (with_reducible refine Rd.below_step ?_ (by assumption)) | (with_reducible refine Rd.below_alloc ?_ _) | (with_reducible refine Rd.below_drewN ?_ _) | (with_reducible refine Below.drew ?_) | (with_reducible refine Below.setCell ?_ ?_ _) | (with_reducible refine Rd.below_setRow ?_ ?_ _) | go_size | (simp only [World.size_alloc]; omega) | omega)
    clear KU bA8 bB8 bZ8 bC8 L8 s8 q0 q1 q2 hsz
    have c0 : w9.cell? ⟨w2.heap.size, 2, none⟩ = some (.int .i64 0) := by rw [blk_cell bC9]; rfl
    have f0 : w9.frozen? ⟨w2.heap.size, 2, none⟩ = false := blk_frozen bC9 _
    go_wp2
    rw [rounds_succ]
    refine Rd.name_world ?_
    intro w10 hw
    have bA10 : blk w10 w.heap.size = some (.cells (cs .i64 a) 25 (0, 0)) := by rw [hw, blk_set_far _ _ _ _ (by simp; omega)]; exact bA9
    have bB10 : blk w10 (w.heap.size + 1) = some (.cells (cs .i64 b) 25 (0, 0)) := by rw [hw, blk_set_far _ _ _ _ (by simp; omega)]; exact bB9
    have bZ10 : blk w10 (w.heap.size + 1 + 1) = some (.cells (cs .i64 [0, 0, 0, 0, 0, 0]) 25 (0, 0)) := by rw [hw, blk_set_far _ _ _ _ (by simp; omega)]; exact bZ9
    have bC10 : blk w10 w2.heap.size = some (.cells (cs .i64 [btw (ClM.g a 0) (ClM.g b 0) (0), btw (ClM.g a 1) (ClM.g b 1) (0), btw (ClM.g a 2) (ClM.g b 2) (0), 0, 0, 0]) 25 (0, 0)) := by rw [hw, blk_set _ _ _ _ _ _ bC9]; simp
    have s10 : w2.heap.size < w10.heap.size := by rw [hw]; simpa using s9
    have L10 : Below w.heap.size w w10 := by
      rw [hw]
      repeat' (first | (with_reducible exact Below.refl _ _) | (with_reducible refine Rd.below_step ?_ (by assumption)) | (with_reducible refine Rd.below_alloc ?_ _) | (with_reducible refine Rd.below_drewN ?_ _) | (with_reducible refine Below.drew ?_) | (with_reducible refine Below.setCell ?_ ?_ _) | (with_reducible refine Rd.below_setRow ?_ ?_ _) | go_size | (simp only [World.size_alloc]; omega) | omega)
    clear hw bA9 bB9 bZ9 bC9 L9 s9 c0 f0
    have q0 : w.heap.size < w10.heap.size := by omega
    have q1 : w.heap.size + 1 < w10.heap.size := by omega
    have q2 : w.heap.size + 1 + 1 < w10.heap.size := by omega
    have ga := Go.cell_regrown (w := w10) (a := ⟨w.heap.size, 3, none⟩) (v := .int .i64 (ClM.g a 3)) (by rw [blk_cell bA10]; exact cs_at (at_of (l := a) (by omega)))
    have gb := Go.cell_regrown (w := w10) (a := ⟨w.heap.size + 1, 3, none⟩) (v := .int .i64 (ClM.g b 3)) (by rw [blk_cell bB10]; exact cs_at (at_of (l := b) (by omega)))
    go_wp2
    (refine Reg.below_tail 13 (by kernel_rfl) (by kernel_rfl) ?_; simp only [List.take_succ_cons, List.take_zero, List.drop_succ_cons, List.drop_zero]; (repeat (go_big_quiet_step (((with_reducible exact Calls.regrown_of (between_any (ClM.g a 3) (ClM.g b 3) (0) t0 t1 ha.w0 ha.w1 hb'.w0 hb'.w1 _)))))); refine wpQuiet_nil ?_)
    intro w11 hU
    have KU := Rd.below_of_regrown hU
    clear hU ga gb
    have hsz := KU.size
    have bA11 := (blk_below KU _ q0).trans bA10
    have bB11 := (blk_below KU _ q1).trans bB10
    have bZ11 := (blk_below KU _ q2).trans bZ10
    have bC11 := (blk_below KU _ s10).trans bC10
    have s11 : w2.heap.size < w11.heap.size := by omega
    have L11 : Below w.heap.size w w11 := by repeat' (first | (with_reducible exact Below.refl _ _) | (with_reducible refine Rd.below_step ?_ (by assumption)) | (with_reducible refine Rd.below_alloc ?_ _) | (with_reducible refine Rd.below_drewN ?_ _) | (with_reducible refine Below.drew ?_) | (with_reducible refine Below.setCell ?_ ?_ _) | (with_reducible refine Rd.below_setRow ?_ ?_ _) | go_size | (simp only [World.size_alloc]; omega) | omega)
    clear KU bA10 bB10 bZ10 bC10 L10 s10 q0 q1 q2 hsz
    have c0 : w11.cell? ⟨w2.heap.size, 3, none⟩ = some (.int .i64 0) := by rw [blk_cell bC11]; rfl
    have f0 : w11.frozen? ⟨w2.heap.size, 3, none⟩ = false := blk_frozen bC11 _
    go_wp2
    rw [rounds_succ]
    refine Rd.name_world ?_
    intro w12 hw
    have bA12 : blk w12 w.heap.size = some (.cells (cs .i64 a) 25 (0, 0)) := by rw [hw, blk_set_far _ _ _ _ (by simp; omega)]; exact bA11
    have bB12 : blk w12 (w.heap.size + 1) = some (.cells (cs .i64 b) 25 (0, 0)) := by rw [hw, blk_set_far _ _ _ _ (by simp; omega)]; exact bB11
    have bZ12 : blk w12 (w.heap.size + 1 + 1) = some (.cells (cs .i64 [0, 0, 0, 0, 0, 0]) 25 (0, 0)) := by rw [hw, blk_set_far _ _ _ _ (by simp; omega)]; exact bZ11
    have bC12 : blk w12 w2.heap.size = some (.cells (cs .i64 [btw (ClM.g a 0) (ClM.g b 0) (0), btw (ClM.g a 1) (ClM.g b 1) (0), btw (ClM.g a 2) (ClM.g b 2) (0), btw (ClM.g a 3) (ClM.g b 3) (0), 0, 0]) 25 (0, 0)) := by rw [hw, blk_set _ _ _ _ _ _ bC11]; simp
    have s12 : w2.heap.size < w12.heap.size := by rw [hw]; simpa using s11
    have L12 : Below w.heap.size w w12 := by
      rw [hw]
      repeat' (first | (with_reducible exact Below.refl _ _) | (with_reducible refine Rd.below_step ?_ (by assumption)) | (with_reducible refine Rd.below_alloc ?_ _) | (with_reducible refine Rd.below_drewN ?_ _) | (with_reducible refine Below.drew ?_) | (with_reducible refine Below.setCell ?_ ?_ _) | (with_reducible refine Rd.below_setRow ?_ ?_ _) | go_size | (simp only [World.size_alloc]; omega) | omega)
    clear hw bA11 bB11 bZ11 bC11 L11 s11 c0 f0
    have q0 : w.heap.size < w12.heap.size := by omega
    have q1 : w.heap.size + 1 < w12.heap.size := by omega
    have q2 : w.heap.size + 1 + 1 < w12.heap.size := by omega
    have ga4 := Go.cell_regrown (w := w12) (a := ⟨w.heap.size, 4, none⟩) (v := .int .i64 (ClM.g a 4)) (by rw [blk_cell bA12]; exact cs_at (at_of (l := a) (by omega)))
    have gb4 := Go.cell_regrown (w := w12) (a := ⟨w.heap.size + 1, 4, none⟩) (v := .int .i64 (ClM.g b 4)) (by rw [blk_cell bB12]; exact cs_at (at_of (l := b) (by omega)))
    have ga5 := Go.cell_regrown (w := w12) (a := ⟨w.heap.size, 5, none⟩) (v := .int .i64 (ClM.g a 5)) (by rw [blk_cell bA12]; exact cs_at (at_of (l := a) (by omega)))
    have gb5 := Go.cell_regrown (w := w12) (a := ⟨w.heap.size + 1, 5, none⟩) (v := .int .i64 (ClM.g b 5)) (by rw [blk_cell bB12]; exact cs_at (at_of (l := b) (by omega)))
    go_wp2
    (refine Reg.below_tail 13 (by kernel_rfl) (by kernel_rfl) ?_; simp only [List.take_succ_cons, List.take_zero, List.drop_succ_cons, List.drop_zero]; (repeat (go_big_quiet_step ((first | (with_reducible exact Calls.regrown_of (between_any (ClM.g a 4) (ClM.g b 4) (0) t0 t1 (by have := ha.u0; omega) (by have := ha.u1; omega) (by have := hb'.u0; omega) (by have := hb'.u1; omega) _)) | (with_reducible exact Calls.regrown_of (between_any (ClM.g a 5) (ClM.g b 5) (0) t0 t1 (by have := ha.v0; omega) (by have := ha.v1; omega) (by have := hb'.v0; omega) (by have := hb'.v1; omega) _)))))); refine wpQuiet_nil ?_)
    intro w13 hU
    have KU := Rd.below_of_regrown hU
    clear hU ga4 gb4 ga5 gb5
    have bZ13 := (blk_below KU _ q2).trans bZ12
    have bC13 := (blk_below KU _ s12).trans bC12
    have hsz := KU.size
    have L13 : Below w.heap.size w w13 := by repeat' (first | (with_reducible exact Below.refl _ _) | (with_reducible refine Rd.below_step ?_ (by assumption)) | (with_reducible refine Rd.below_alloc ?_ _) | (with_reducible refine Rd.below_drewN ?_ _) | (with_reducible refine Below.drew ?_) | (with_reducible refine Below.setCell ?_ ?_ _) | (with_reducible refine Rd.below_setRow ?_ ?_ _) | go_size | (simp only [World.size_alloc]; omega) | omega)
    clear KU bA12 bB12 bZ12 bC12 L12 q0 q1
    have c0 : w13.cell? ⟨w2.heap.size, 4, none⟩ = some (.int .i64 0) := by rw [blk_cell bC13]; rfl
    have c1 : w13.cell? ⟨w2.heap.size, 5, none⟩ = some (.int .i64 0) := by rw [blk_cell bC13]; rfl
    have f0 : w13.frozen? ⟨w2.heap.size, 4, none⟩ = false := blk_frozen bC13 _
    have f1 : w13.frozen? ⟨w2.heap.size, 5, none⟩ = false := blk_frozen bC13 _
    go_upto_region 13 with (fail)
    refine Rd.name_world ?_
    intro w14 hw
    have bZ14 : blk w14 (w.heap.size + 1 + 1) = some (.cells (cs .i64 [0, 0, 0, 0, 0, 0]) 25 (0, 0)) := by rw [hw, blk_set_far _ _ _ _ (by simp; omega), blk_set_far _ _ _ _ (by simp; omega)]; exact bZ13
    have bC14 : blk w14 w2.heap.size = some (.cells (cs .i64 [btw (ClM.g a 0) (ClM.g b 0) (0), btw (ClM.g a 1) (ClM.g b 1) (0), btw (ClM.g a 2) (ClM.g b 2) (0), btw (ClM.g a 3) (ClM.g b 3) (0), btw (ClM.g a 4) (ClM.g b 4) (0), btw (ClM.g a 5) (ClM.g b 5) (0)]) 25 (0, 0)) := by rw [hw, blk_set _ _ _ _ _ _ (blk_set _ _ _ _ _ _ bC13)]; simp
    have L14 : Below w.heap.size w w14 := by
      rw [hw]
      repeat' (first | (with_reducible exact Below.refl _ _) | (with_reducible refine Rd.below_step ?_ (by assumption)) | (with_reducible refine Rd.below_alloc ?_ _) | (with_reducible refine Rd.below_drewN ?_ _) | (with_reducible refine Below.drew ?_) | (with_reducible refine Below.setCell ?_ ?_ _) | (with_reducible refine Rd.below_setRow ?_ ?_ _) | go_size | (simp only [World.size_alloc]; omega) | omega)
    clear hw bZ13 bC13 L13 c0 c1 f0 f1
    go_wp2
    exact ret_vx rfl (w.heap.size + 1 + 1) [btw (ClM.g a 0) (ClM.g b 0) (0), btw (ClM.g a 1) (ClM.g b 1) (0), btw (ClM.g a 2) (ClM.g b 2) (0), btw (ClM.g a 3) (ClM.g b 3) (0), btw (ClM.g a 4) (ClM.g b 4) (0), btw (ClM.g a 5) (ClM.g b 5) (0)] rfl rfl (blk_setRow_of bZ14 _) rfl ⟨by rw [EV.out], by repeat' (first | (with_reducible exact Below.refl _ _) | (with_reducible refine Rd.below_step ?_ (by assumption)) | (with_reducible refine Rd.below_alloc ?_ _) | (with_reducible refine Rd.below_drewN ?_ _) | (with_reducible refine Below.drew ?_) | (with_reducible refine Below.setCell ?_ ?_ _) | (with_reducible refine Rd.below_setRow ?_ ?_ _) | go_size | (simp only [World.size_alloc]; omega) | omega)⟩
set_option maxHeartbeats 2000000 in
theorem rcut_any (a b : List Int) (ha : Vx a) (hb' : Vx b) (k : Int) (w : World) :
    Calls Try.prog 39 #[.agg (cs .i64 a), .agg (cs .i64 b), .int .i64 k] w fun e w' => e = .returned (.agg (cs .i64 (cutV a b k))) ∧ Below w.heap.size w w' := by
  have la := ha.len
  have lb := hb'.len
  have da := insV_bd ha k
  have db := insV_bd hb' k
  have tb := cutT_bd a b k
  go_enter Try.func39, Try.ntmps39
  go_upto_region 1 with (fail)
  refine Rd.name_world ?_
  intro w1 hw
  have bA : blk w1 w.heap.size = some (.cells (cs .i64 a) 25 (0, 0)) := by rw [hw]; exact blk3_0 _ _ _ _
  have bB : blk w1 (w.heap.size + 1) = some (.cells (cs .i64 b) 25 (0, 0)) := by rw [hw]; exact blk3_1 _ _ _ _
  have bZ : blk w1 (w.heap.size + 1 + 1) = some (.cells (cs .i64 [0, 0, 0, 0, 0, 0]) 25 (0, 0)) := by rw [hw]; exact blk3_2 _ _ _ _
  have L1 : Below w.heap.size w w1 := by
    rw [hw]
    repeat' (first | (with_reducible exact Below.refl _ _) | (with_reducible refine Rd.below_step ?_ (by assumption)) | (with_reducible refine Rd.below_alloc ?_ _) | (with_reducible refine Rd.below_drewN ?_ _) | (with_reducible refine Below.drew ?_) | (with_reducible refine Below.setCell ?_ ?_ _) | (with_reducible refine Rd.below_setRow ?_ ?_ _) | go_size | (simp only [World.size_alloc]; omega) | omega)
  have k2 := blk_lt bZ
  have k0 : w.heap.size < w1.heap.size := by omega
  have k1 : w.heap.size + 1 < w1.heap.size := by omega
  clear hw
  (refine wp_region_quiet_below (by kernel_rfl) (by kernel_rfl) ?_; (repeat (go_big_quiet_step ((first | (with_reducible exact Calls.regrown_of (rinside_v ha k _)) | (with_reducible exact Calls.regrown_of (rinside_v hb' k _)))))); refine wpQuiet_nil ?_)
  intro w2 hU
  have KU := Rd.below_of_regrown hU
  clear hU
  have hs := KU.size
  have j0 : w.heap.size + 1 + 1 < w2.heap.size := by omega
  have bA2 := (blk_below KU _ k0).trans bA
  have bB2 := (blk_below KU _ k1).trans bB
  have bZ2 := (blk_below KU _ k2).trans bZ
  have L2 : Below w.heap.size w w2 := by repeat' (first | (with_reducible exact Below.refl _ _) | (with_reducible refine Rd.below_step ?_ (by assumption)) | (with_reducible refine Rd.below_alloc ?_ _) | (with_reducible refine Rd.below_drewN ?_ _) | (with_reducible refine Below.drew ?_) | (with_reducible refine Below.setCell ?_ ?_ _) | (with_reducible refine Rd.below_setRow ?_ ?_ _) | go_size | (simp only [World.size_alloc]; omega) | omega)
  clear KU bA bB bZ L1 k0 k1 k2
  by_cases hlt : insV b k < insV a k
  · have hT := cutT_yes' hlt
    have nb := near_bd (65536 * insV a k) (insV a k - insV b k) 70368744177664 (by omega) (by omega) (by omega)
    have EV := Lib.hid (show cutV a b k = [btw (ClM.g a 0) (ClM.g b 0) (cutT a b k), btw (ClM.g a 1) (ClM.g b 1) (cutT a b k), btw (ClM.g a 2) (ClM.g b 2) (cutT a b k), btw (ClM.g a 3) (ClM.g b 3) (cutT a b k), btw (ClM.g a 4) (ClM.g b 4) (cutT a b k), btw (ClM.g a 5) (ClM.g b 5) (cutT a b k)] from rfl)
    have t0 := tb.1
    have t1 := tb.2
    go_wp2_with (go_at_call 21; refine (rnear_any _ _ _ (by omega) (by omega) (by omega) (by omega)).mono ?_; rintro e w9 ⟨rfl, rfl⟩)
    clear hT nb
    refine wp_loop_rounds 5 ?_
    rw [rounds_succ]
    refine Rd.name_world ?_
    intro w4 hw
    have j3 : w.heap.size + 1 + 1 < w2.heap.size := by omega
    have bA4 : blk w4 w.heap.size = some (.cells (cs .i64 a) 25 (0, 0)) := by rw [hw, blk_alloc_old _ _ _ (by omega)]; exact bA2
    have bB4 : blk w4 (w.heap.size + 1) = some (.cells (cs .i64 b) 25 (0, 0)) := by rw [hw, blk_alloc_old _ _ _ (by omega)]; exact bB2
    have bZ4 : blk w4 (w.heap.size + 1 + 1) = some (.cells (cs .i64 [0, 0, 0, 0, 0, 0]) 25 (0, 0)) := by rw [hw, blk_alloc_old _ _ _ (by omega)]; exact bZ2
    have bC4 : blk w4 w2.heap.size = some (.cells (cs .i64 [0, 0, 0, 0, 0, 0]) 25 (0, 0)) := by rw [hw, blk_alloc_at _ _ _ rfl]; rfl
    have s4 : w2.heap.size < w4.heap.size := by rw [hw]; simp
    have L4 : Below w.heap.size w w4 := by
      rw [hw]
      repeat' (first | (with_reducible exact Below.refl _ _) | (with_reducible refine Rd.below_step ?_ (by assumption)) | (with_reducible refine Rd.below_alloc ?_ _) | (with_reducible refine Rd.below_drewN ?_ _) | (with_reducible refine Below.drew ?_) | (with_reducible refine Below.setCell ?_ ?_ _) | (with_reducible refine Rd.below_setRow ?_ ?_ _) | go_size | (simp only [World.size_alloc]; omega) | omega)
    clear hw bA2 bB2 bZ2 L2 j0 hs
    have q0 : w.heap.size < w4.heap.size := by omega
    have q1 : w.heap.size + 1 < w4.heap.size := by omega
    have q2 : w.heap.size + 1 + 1 < w4.heap.size := by omega
    have ga := Go.cell_regrown (w := w4) (a := ⟨w.heap.size, 0, none⟩) (v := .int .i64 (ClM.g a 0)) (by rw [blk_cell bA4]; exact cs_at (at_of (l := a) (by omega)))
    have gb := Go.cell_regrown (w := w4) (a := ⟨w.heap.size + 1, 0, none⟩) (v := .int .i64 (ClM.g b 0)) (by rw [blk_cell bB4]; exact cs_at (at_of (l := b) (by omega)))
    go_wp2
    (refine Reg.below_tail 13 (by kernel_rfl) (by kernel_rfl) ?_; simp only [List.take_succ_cons, List.take_zero, List.drop_succ_cons, List.drop_zero]; (repeat (go_big_quiet_step (((with_reducible exact Calls.regrown_of (way_any (ClM.g a 0) (ClM.g b 0) (cutT a b k) t0 t1 ha.x0 ha.x1 hb'.x0 hb'.x1 _)))))); refine wpQuiet_nil ?_)
    intro w5 hU
    have KU := Rd.below_of_regrown hU
    clear hU ga gb
    have hsz := KU.size
    have bA5 := (blk_below KU _ q0).trans bA4
    have bB5 := (blk_below KU _ q1).trans bB4
    have bZ5 := (blk_below KU _ q2).trans bZ4
    have bC5 := (blk_below KU _ s4).trans bC4
    have s5 : w2.heap.size < w5.heap.size := by omega
    have L5 : Below w.heap.size w w5 := by repeat' (first | (with_reducible exact Below.refl _ _) | (with_reducible refine Rd.below_step ?_ (by assumption)) | (with_reducible refine Rd.below_alloc ?_ _) | (with_reducible refine Rd.below_drewN ?_ _) | (with_reducible refine Below.drew ?_) | (with_reducible refine Below.setCell ?_ ?_ _) | (with_reducible refine Rd.below_setRow ?_ ?_ _) | go_size | (simp only [World.size_alloc]; omega) | omega)
    clear KU bA4 bB4 bZ4 bC4 L4 s4 q0 q1 q2 hsz
    have c0 : w5.cell? ⟨w2.heap.size, 0, none⟩ = some (.int .i64 0) := by rw [blk_cell bC5]; rfl
    have f0 : w5.frozen? ⟨w2.heap.size, 0, none⟩ = false := blk_frozen bC5 _
    go_wp2
    rw [rounds_succ]
    refine Rd.name_world ?_
    intro w6 hw
    have bA6 : blk w6 w.heap.size = some (.cells (cs .i64 a) 25 (0, 0)) := by rw [hw, blk_set_far _ _ _ _ (by simp; omega)]; exact bA5
    have bB6 : blk w6 (w.heap.size + 1) = some (.cells (cs .i64 b) 25 (0, 0)) := by rw [hw, blk_set_far _ _ _ _ (by simp; omega)]; exact bB5
    have bZ6 : blk w6 (w.heap.size + 1 + 1) = some (.cells (cs .i64 [0, 0, 0, 0, 0, 0]) 25 (0, 0)) := by rw [hw, blk_set_far _ _ _ _ (by simp; omega)]; exact bZ5
    have bC6 : blk w6 w2.heap.size = some (.cells (cs .i64 [btw (ClM.g a 0) (ClM.g b 0) (cutT a b k), 0, 0, 0, 0, 0]) 25 (0, 0)) := by rw [hw, blk_set _ _ _ _ _ _ bC5]; simp
    have s6 : w2.heap.size < w6.heap.size := by rw [hw]; simpa using s5
    have L6 : Below w.heap.size w w6 := by
      rw [hw]
      repeat' (first | (with_reducible exact Below.refl _ _) | (with_reducible refine Rd.below_step ?_ (by assumption)) | (with_reducible refine Rd.below_alloc ?_ _) | (with_reducible refine Rd.below_drewN ?_ _) | (with_reducible refine Below.drew ?_) | (with_reducible refine Below.setCell ?_ ?_ _) | (with_reducible refine Rd.below_setRow ?_ ?_ _) | go_size | (simp only [World.size_alloc]; omega) | omega)
    clear hw bA5 bB5 bZ5 bC5 L5 s5 c0 f0
    have q0 : w.heap.size < w6.heap.size := by omega
    have q1 : w.heap.size + 1 < w6.heap.size := by omega
    have q2 : w.heap.size + 1 + 1 < w6.heap.size := by omega
    have ga := Go.cell_regrown (w := w6) (a := ⟨w.heap.size, 1, none⟩) (v := .int .i64 (ClM.g a 1)) (by rw [blk_cell bA6]; exact cs_at (at_of (l := a) (by omega)))
    have gb := Go.cell_regrown (w := w6) (a := ⟨w.heap.size + 1, 1, none⟩) (v := .int .i64 (ClM.g b 1)) (by rw [blk_cell bB6]; exact cs_at (at_of (l := b) (by omega)))
    go_wp2
    (refine Reg.below_tail 13 (by kernel_rfl) (by kernel_rfl) ?_; simp only [List.take_succ_cons, List.take_zero, List.drop_succ_cons, List.drop_zero]; (repeat (go_big_quiet_step (((with_reducible exact Calls.regrown_of (way_any (ClM.g a 1) (ClM.g b 1) (cutT a b k) t0 t1 ha.y0 ha.y1 hb'.y0 hb'.y1 _)))))); refine wpQuiet_nil ?_)
    intro w7 hU
    have KU := Rd.below_of_regrown hU
    clear hU ga gb
    have hsz := KU.size
    have bA7 := (blk_below KU _ q0).trans bA6
    have bB7 := (blk_below KU _ q1).trans bB6
    have bZ7 := (blk_below KU _ q2).trans bZ6
    have bC7 := (blk_below KU _ s6).trans bC6
    have s7 : w2.heap.size < w7.heap.size := by omega
    have L7 : Below w.heap.size w w7 := by repeat' (first | (with_reducible exact Below.refl _ _) | (with_reducible refine Rd.below_step ?_ (by assumption)) | (with_reducible refine Rd.below_alloc ?_ _) | (with_reducible refine Rd.below_drewN ?_ _) | (with_reducible refine Below.drew ?_) | (with_reducible refine Below.setCell ?_ ?_ _) | (with_reducible refine Rd.below_setRow ?_ ?_ _) | go_size | (simp only [World.size_alloc]; omega) | omega)
    clear KU bA6 bB6 bZ6 bC6 L6 s6 q0 q1 q2 hsz
    have c0 : w7.cell? ⟨w2.heap.size, 1, none⟩ = some (.int .i64 0) := by rw [blk_cell bC7]; rfl
    have f0 : w7.frozen? ⟨w2.heap.size, 1, none⟩ = false := blk_frozen bC7 _
    go_wp2
    rw [rounds_succ]
    refine Rd.name_world ?_
    intro w8 hw
    have bA8 : blk w8 w.heap.size = some (.cells (cs .i64 a) 25 (0, 0)) := by rw [hw, blk_set_far _ _ _ _ (by simp; omega)]; exact bA7
    have bB8 : blk w8 (w.heap.size + 1) = some (.cells (cs .i64 b) 25 (0, 0)) := by rw [hw, blk_set_far _ _ _ _ (by simp; omega)]; exact bB7
    have bZ8 : blk w8 (w.heap.size + 1 + 1) = some (.cells (cs .i64 [0, 0, 0, 0, 0, 0]) 25 (0, 0)) := by rw [hw, blk_set_far _ _ _ _ (by simp; omega)]; exact bZ7
    have bC8 : blk w8 w2.heap.size = some (.cells (cs .i64 [btw (ClM.g a 0) (ClM.g b 0) (cutT a b k), btw (ClM.g a 1) (ClM.g b 1) (cutT a b k), 0, 0, 0, 0]) 25 (0, 0)) := by rw [hw, blk_set _ _ _ _ _ _ bC7]; simp
    have s8 : w2.heap.size < w8.heap.size := by rw [hw]; simpa using s7
    have L8 : Below w.heap.size w w8 := by
      rw [hw]
      repeat' (first | (with_reducible exact Below.refl _ _) | (with_reducible refine Rd.below_step ?_ (by assumption)) | (with_reducible refine Rd.below_alloc ?_ _) | (with_reducible refine Rd.below_drewN ?_ _) | (with_reducible refine Below.drew ?_) | (with_reducible refine Below.setCell ?_ ?_ _) | (with_reducible refine Rd.below_setRow ?_ ?_ _) | go_size | (simp only [World.size_alloc]; omega) | omega)
    clear hw bA7 bB7 bZ7 bC7 L7 s7 c0 f0
    have q0 : w.heap.size < w8.heap.size := by omega
    have q1 : w.heap.size + 1 < w8.heap.size := by omega
    have q2 : w.heap.size + 1 + 1 < w8.heap.size := by omega
    have ga := Go.cell_regrown (w := w8) (a := ⟨w.heap.size, 2, none⟩) (v := .int .i64 (ClM.g a 2)) (by rw [blk_cell bA8]; exact cs_at (at_of (l := a) (by omega)))
    have gb := Go.cell_regrown (w := w8) (a := ⟨w.heap.size + 1, 2, none⟩) (v := .int .i64 (ClM.g b 2)) (by rw [blk_cell bB8]; exact cs_at (at_of (l := b) (by omega)))
    go_wp2
    (refine Reg.below_tail 13 (by kernel_rfl) (by kernel_rfl) ?_; simp only [List.take_succ_cons, List.take_zero, List.drop_succ_cons, List.drop_zero]; (repeat (go_big_quiet_step (((with_reducible exact Calls.regrown_of (way_any (ClM.g a 2) (ClM.g b 2) (cutT a b k) t0 t1 ha.z0 ha.z1 hb'.z0 hb'.z1 _)))))); refine wpQuiet_nil ?_)
    intro w9 hU
    have KU := Rd.below_of_regrown hU
    clear hU ga gb
    have hsz := KU.size
    have bA9 := (blk_below KU _ q0).trans bA8
    have bB9 := (blk_below KU _ q1).trans bB8
    have bZ9 := (blk_below KU _ q2).trans bZ8
    have bC9 := (blk_below KU _ s8).trans bC8
    have s9 : w2.heap.size < w9.heap.size := by omega
    have L9 : Below w.heap.size w w9 := by repeat' (first | (with_reducible exact Below.refl _ _) | (with_reducible refine Rd.below_step ?_ (by assumption)) | (with_reducible refine Rd.below_alloc ?_ _) | (with_reducible refine Rd.below_drewN ?_ _) | (with_reducible refine Below.drew ?_) | (with_reducible refine Below.setCell ?_ ?_ _) | (with_reducible refine Rd.below_setRow ?_ ?_ _) | go_size | (simp only [World.size_alloc]; omega) | omega)
    clear KU bA8 bB8 bZ8 bC8 L8 s8 q0 q1 q2 hsz
    have c0 : w9.cell? ⟨w2.heap.size, 2, none⟩ = some (.int .i64 0) := by rw [blk_cell bC9]; rfl
    have f0 : w9.frozen? ⟨w2.heap.size, 2, none⟩ = false := blk_frozen bC9 _
    go_wp2
    rw [rounds_succ]
    refine Rd.name_world ?_
    intro w10 hw
    have bA10 : blk w10 w.heap.size = some (.cells (cs .i64 a) 25 (0, 0)) := by rw [hw, blk_set_far _ _ _ _ (by simp; omega)]; exact bA9
    have bB10 : blk w10 (w.heap.size + 1) = some (.cells (cs .i64 b) 25 (0, 0)) := by rw [hw, blk_set_far _ _ _ _ (by simp; omega)]; exact bB9
    have bZ10 : blk w10 (w.heap.size + 1 + 1) = some (.cells (cs .i64 [0, 0, 0, 0, 0, 0]) 25 (0, 0)) := by rw [hw, blk_set_far _ _ _ _ (by simp; omega)]; exact bZ9
    have bC10 : blk w10 w2.heap.size = some (.cells (cs .i64 [btw (ClM.g a 0) (ClM.g b 0) (cutT a b k), btw (ClM.g a 1) (ClM.g b 1) (cutT a b k), btw (ClM.g a 2) (ClM.g b 2) (cutT a b k), 0, 0, 0]) 25 (0, 0)) := by rw [hw, blk_set _ _ _ _ _ _ bC9]; simp
    have s10 : w2.heap.size < w10.heap.size := by rw [hw]; simpa using s9
    have L10 : Below w.heap.size w w10 := by
      rw [hw]
      repeat' (first | (with_reducible exact Below.refl _ _) | (with_reducible refine Rd.below_step ?_ (by assumption)) | (with_reducible refine Rd.below_alloc ?_ _) | (with_reducible refine Rd.below_drewN ?_ _) | (with_reducible refine Below.drew ?_) | (with_reducible refine Below.setCell ?_ ?_ _) | (with_reducible refine Rd.below_setRow ?_ ?_ _) | go_size | (simp only [World.size_alloc]; omega) | omega)
    clear hw bA9 bB9 bZ9 bC9 L9 s9 c0 f0
    have q0 : w.heap.size < w10.heap.size := by omega
    have q1 : w.heap.size + 1 < w10.heap.size := by omega
    have q2 : w.heap.size + 1 + 1 < w10.heap.size := by omega
    have ga := Go.cell_regrown (w := w10) (a := ⟨w.heap.size, 3, none⟩) (v := .int .i64 (ClM.g a 3)) (by rw [blk_cell bA10]; exact cs_at (at_of (l := a) (by omega)))
    have gb := Go.cell_regrown (w := w10) (a := ⟨w.heap.size + 1, 3, none⟩) (v := .int .i64 (ClM.g b 3)) (by rw [blk_cell bB10]; exact cs_at (at_of (l := b) (by omega)))
    go_wp2
    (refine Reg.below_tail 13 (by kernel_rfl) (by kernel_rfl) ?_; simp only [List.take_succ_cons, List.take_zero, List.drop_succ_cons, List.drop_zero]; (repeat (go_big_quiet_step (((with_reducible exact Calls.regrown_of (way_any (ClM.g a 3) (ClM.g b 3) (cutT a b k) t0 t1 ha.w0 ha.w1 hb'.w0 hb'.w1 _)))))); refine wpQuiet_nil ?_)
    intro w11 hU
    have KU := Rd.below_of_regrown hU
    clear hU ga gb
    have hsz := KU.size
    have bA11 := (blk_below KU _ q0).trans bA10
    have bB11 := (blk_below KU _ q1).trans bB10
    have bZ11 := (blk_below KU _ q2).trans bZ10
    have bC11 := (blk_below KU _ s10).trans bC10
    have s11 : w2.heap.size < w11.heap.size := by omega
    have L11 : Below w.heap.size w w11 := by repeat' (first | (with_reducible exact Below.refl _ _) | (with_reducible refine Rd.below_step ?_ (by assumption)) | (with_reducible refine Rd.below_alloc ?_ _) | (with_reducible refine Rd.below_drewN ?_ _) | (with_reducible refine Below.drew ?_) | (with_reducible refine Below.setCell ?_ ?_ _) | (with_reducible refine Rd.below_setRow ?_ ?_ _) | go_size | (simp only [World.size_alloc]; omega) | omega)
    clear KU bA10 bB10 bZ10 bC10 L10 s10 q0 q1 q2 hsz
    have c0 : w11.cell? ⟨w2.heap.size, 3, none⟩ = some (.int .i64 0) := by rw [blk_cell bC11]; rfl
    have f0 : w11.frozen? ⟨w2.heap.size, 3, none⟩ = false := blk_frozen bC11 _
    go_wp2
    rw [rounds_succ]
    refine Rd.name_world ?_
    intro w12 hw
    have bA12 : blk w12 w.heap.size = some (.cells (cs .i64 a) 25 (0, 0)) := by rw [hw, blk_set_far _ _ _ _ (by simp; omega)]; exact bA11
    have bB12 : blk w12 (w.heap.size + 1) = some (.cells (cs .i64 b) 25 (0, 0)) := by rw [hw, blk_set_far _ _ _ _ (by simp; omega)]; exact bB11
    have bZ12 : blk w12 (w.heap.size + 1 + 1) = some (.cells (cs .i64 [0, 0, 0, 0, 0, 0]) 25 (0, 0)) := by rw [hw, blk_set_far _ _ _ _ (by simp; omega)]; exact bZ11
    have bC12 : blk w12 w2.heap.size = some (.cells (cs .i64 [btw (ClM.g a 0) (ClM.g b 0) (cutT a b k), btw (ClM.g a 1) (ClM.g b 1) (cutT a b k), btw (ClM.g a 2) (ClM.g b 2) (cutT a b k), btw (ClM.g a 3) (ClM.g b 3) (cutT a b k), 0, 0]) 25 (0, 0)) := by rw [hw, blk_set _ _ _ _ _ _ bC11]; simp
    have s12 : w2.heap.size < w12.heap.size := by rw [hw]; simpa using s11
    have L12 : Below w.heap.size w w12 := by
      rw [hw]
      repeat' (first | (with_reducible exact Below.refl _ _) | (with_reducible refine Rd.below_step ?_ (by assumption)) | (with_reducible refine Rd.below_alloc ?_ _) | (with_reducible refine Rd.below_drewN ?_ _) | (with_reducible refine Below.drew ?_) | (with_reducible refine Below.setCell ?_ ?_ _) | (with_reducible refine Rd.below_setRow ?_ ?_ _) | go_size | (simp only [World.size_alloc]; omega) | omega)
    clear hw bA11 bB11 bZ11 bC11 L11 s11 c0 f0
    have q0 : w.heap.size < w12.heap.size := by omega
    have q1 : w.heap.size + 1 < w12.heap.size := by omega
    have q2 : w.heap.size + 1 + 1 < w12.heap.size := by omega
    have ga4 := Go.cell_regrown (w := w12) (a := ⟨w.heap.size, 4, none⟩) (v := .int .i64 (ClM.g a 4)) (by rw [blk_cell bA12]; exact cs_at (at_of (l := a) (by omega)))
    have gb4 := Go.cell_regrown (w := w12) (a := ⟨w.heap.size + 1, 4, none⟩) (v := .int .i64 (ClM.g b 4)) (by rw [blk_cell bB12]; exact cs_at (at_of (l := b) (by omega)))
    have ga5 := Go.cell_regrown (w := w12) (a := ⟨w.heap.size, 5, none⟩) (v := .int .i64 (ClM.g a 5)) (by rw [blk_cell bA12]; exact cs_at (at_of (l := a) (by omega)))
    have gb5 := Go.cell_regrown (w := w12) (a := ⟨w.heap.size + 1, 5, none⟩) (v := .int .i64 (ClM.g b 5)) (by rw [blk_cell bB12]; exact cs_at (at_of (l := b) (by omega)))
    go_wp2
    (refine Reg.below_tail 13 (by kernel_rfl) (by kernel_rfl) ?_; simp only [List.take_succ_cons, List.take_zero, List.drop_succ_cons, List.drop_zero]; (repeat (go_big_quiet_step ((first | (with_reducible exact Calls.regrown_of (way_any (ClM.g a 4) (ClM.g b 4) (cutT a b k) t0 t1 (by have := ha.u0; omega) (by have := ha.u1; omega) (by have := hb'.u0; omega) (by have := hb'.u1; omega) _)) | (with_reducible exact Calls.regrown_of (way_any (ClM.g a 5) (ClM.g b 5) (cutT a b k) t0 t1 (by have := ha.v0; omega) (by have := ha.v1; omega) (by have := hb'.v0; omega) (by have := hb'.v1; omega) _)))))); refine wpQuiet_nil ?_)
    intro w13 hU
    have KU := Rd.below_of_regrown hU
    clear hU ga4 gb4 ga5 gb5
    have bZ13 := (blk_below KU _ q2).trans bZ12
    have bC13 := (blk_below KU _ s12).trans bC12
    have hsz := KU.size
    have L13 : Below w.heap.size w w13 := by repeat' (first | (with_reducible exact Below.refl _ _) | (with_reducible refine Rd.below_step ?_ (by assumption)) | (with_reducible refine Rd.below_alloc ?_ _) | (with_reducible refine Rd.below_drewN ?_ _) | (with_reducible refine Below.drew ?_) | (with_reducible refine Below.setCell ?_ ?_ _) | (with_reducible refine Rd.below_setRow ?_ ?_ _) | go_size | (simp only [World.size_alloc]; omega) | omega)
    clear KU bA12 bB12 bZ12 bC12 L12 q0 q1
    have c0 : w13.cell? ⟨w2.heap.size, 4, none⟩ = some (.int .i64 0) := by rw [blk_cell bC13]; rfl
    have c1 : w13.cell? ⟨w2.heap.size, 5, none⟩ = some (.int .i64 0) := by rw [blk_cell bC13]; rfl
    have f0 : w13.frozen? ⟨w2.heap.size, 4, none⟩ = false := blk_frozen bC13 _
    have f1 : w13.frozen? ⟨w2.heap.size, 5, none⟩ = false := blk_frozen bC13 _
    go_upto_region 11 with (fail)
    refine Rd.name_world ?_
    intro w14 hw
    have bZ14 : blk w14 (w.heap.size + 1 + 1) = some (.cells (cs .i64 [0, 0, 0, 0, 0, 0]) 25 (0, 0)) := by rw [hw, blk_set_far _ _ _ _ (by simp; omega), blk_set_far _ _ _ _ (by simp; omega)]; exact bZ13
    have bC14 : blk w14 w2.heap.size = some (.cells (cs .i64 [btw (ClM.g a 0) (ClM.g b 0) (cutT a b k), btw (ClM.g a 1) (ClM.g b 1) (cutT a b k), btw (ClM.g a 2) (ClM.g b 2) (cutT a b k), btw (ClM.g a 3) (ClM.g b 3) (cutT a b k), btw (ClM.g a 4) (ClM.g b 4) (cutT a b k), btw (ClM.g a 5) (ClM.g b 5) (cutT a b k)]) 25 (0, 0)) := by rw [hw, blk_set _ _ _ _ _ _ (blk_set _ _ _ _ _ _ bC13)]; simp
    have L14 : Below w.heap.size w w14 := by
      rw [hw]
      repeat' (first | (with_reducible exact Below.refl _ _) | (with_reducible refine Rd.below_step ?_ (by assumption)) | (with_reducible refine Rd.below_alloc ?_ _) | (with_reducible refine Rd.below_drewN ?_ _) | (with_reducible refine Below.drew ?_) | (with_reducible refine Below.setCell ?_ ?_ _) | (with_reducible refine Rd.below_setRow ?_ ?_ _) | go_size | (simp only [World.size_alloc]; omega) | omega)
    clear hw bZ13 bC13 L13 c0 c1 f0 f1
    go_wp2
    exact ret_vx rfl (w.heap.size + 1 + 1) [btw (ClM.g a 0) (ClM.g b 0) (cutT a b k), btw (ClM.g a 1) (ClM.g b 1) (cutT a b k), btw (ClM.g a 2) (ClM.g b 2) (cutT a b k), btw (ClM.g a 3) (ClM.g b 3) (cutT a b k), btw (ClM.g a 4) (ClM.g b 4) (cutT a b k), btw (ClM.g a 5) (ClM.g b 5) (cutT a b k)] rfl rfl (blk_setRow_of bZ14 _) rfl ⟨by rw [EV.out], by repeat' (first | (with_reducible exact Below.refl _ _) | (with_reducible refine Rd.below_step ?_ (by assumption)) | (with_reducible refine Rd.below_alloc ?_ _) | (with_reducible refine Rd.below_drewN ?_ _) | (with_reducible refine Below.drew ?_) | (with_reducible refine Below.setCell ?_ ?_ _) | (with_reducible refine Rd.below_setRow ?_ ?_ _) | go_size | (simp only [World.size_alloc]; omega) | omega)⟩
  · have EV := Lib.hid (show cutV a b k = [btw (ClM.g a 0) (ClM.g b 0) (0), btw (ClM.g a 1) (ClM.g b 1) (0), btw (ClM.g a 2) (ClM.g b 2) (0), btw (ClM.g a 3) (ClM.g b 3) (0), btw (ClM.g a 4) (ClM.g b 4) (0), btw (ClM.g a 5) (ClM.g b 5) (0)] by unfold cutV; rw [cutT_no hlt])
    have t0 : (0 : Int) ≤ 0 := by omega
    have t1 : (0 : Int) ≤ 65536 := by omega
    go_wp2
    refine wp_loop_rounds 5 ?_
    rw [rounds_succ]
    refine Rd.name_world ?_
    intro w4 hw
    have j3 : w.heap.size + 1 + 1 < w2.heap.size := by omega
    have bA4 : blk w4 w.heap.size = some (.cells (cs .i64 a) 25 (0, 0)) := by rw [hw, blk_alloc_old _ _ _ (by omega)]; exact bA2
    have bB4 : blk w4 (w.heap.size + 1) = some (.cells (cs .i64 b) 25 (0, 0)) := by rw [hw, blk_alloc_old _ _ _ (by omega)]; exact bB2
    have bZ4 : blk w4 (w.heap.size + 1 + 1) = some (.cells (cs .i64 [0, 0, 0, 0, 0, 0]) 25 (0, 0)) := by rw [hw, blk_alloc_old _ _ _ (by omega)]; exact bZ2
    have bC4 : blk w4 w2.heap.size = some (.cells (cs .i64 [0, 0, 0, 0, 0, 0]) 25 (0, 0)) := by rw [hw, blk_alloc_at _ _ _ rfl]; rfl
    have s4 : w2.heap.size < w4.heap.size := by rw [hw]; simp
    have L4 : Below w.heap.size w w4 := by
      rw [hw]
      repeat' (first | (with_reducible exact Below.refl _ _) | (with_reducible refine Rd.below_step ?_ (by assumption)) | (with_reducible refine Rd.below_alloc ?_ _) | (with_reducible refine Rd.below_drewN ?_ _) | (with_reducible refine Below.drew ?_) | (with_reducible refine Below.setCell ?_ ?_ _) | (with_reducible refine Rd.below_setRow ?_ ?_ _) | go_size | (simp only [World.size_alloc]; omega) | omega)
    clear hw bA2 bB2 bZ2 L2 j0 hs
    have q0 : w.heap.size < w4.heap.size := by omega
    have q1 : w.heap.size + 1 < w4.heap.size := by omega
    have q2 : w.heap.size + 1 + 1 < w4.heap.size := by omega
    have ga := Go.cell_regrown (w := w4) (a := ⟨w.heap.size, 0, none⟩) (v := .int .i64 (ClM.g a 0)) (by rw [blk_cell bA4]; exact cs_at (at_of (l := a) (by omega)))
    have gb := Go.cell_regrown (w := w4) (a := ⟨w.heap.size + 1, 0, none⟩) (v := .int .i64 (ClM.g b 0)) (by rw [blk_cell bB4]; exact cs_at (at_of (l := b) (by omega)))
    go_wp2
    (refine Reg.below_tail 13 (by kernel_rfl) (by kernel_rfl) ?_; simp only [List.take_succ_cons, List.take_zero, List.drop_succ_cons, List.drop_zero]; (repeat (go_big_quiet_step (((with_reducible exact Calls.regrown_of (way_any (ClM.g a 0) (ClM.g b 0) (0) t0 t1 ha.x0 ha.x1 hb'.x0 hb'.x1 _)))))); refine wpQuiet_nil ?_)
    intro w5 hU
    have KU := Rd.below_of_regrown hU
    clear hU ga gb
    have hsz := KU.size
    have bA5 := (blk_below KU _ q0).trans bA4
    have bB5 := (blk_below KU _ q1).trans bB4
    have bZ5 := (blk_below KU _ q2).trans bZ4
    have bC5 := (blk_below KU _ s4).trans bC4
    have s5 : w2.heap.size < w5.heap.size := by omega
    have L5 : Below w.heap.size w w5 := by repeat' (first | (with_reducible exact Below.refl _ _) | (with_reducible refine Rd.below_step ?_ (by assumption)) | (with_reducible refine Rd.below_alloc ?_ _) | (with_reducible refine Rd.below_drewN ?_ _) | (with_reducible refine Below.drew ?_) | (with_reducible refine Below.setCell ?_ ?_ _) | (with_reducible refine Rd.below_setRow ?_ ?_ _) | go_size | (simp only [World.size_alloc]; omega) | omega)
    clear KU bA4 bB4 bZ4 bC4 L4 s4 q0 q1 q2 hsz
    have c0 : w5.cell? ⟨w2.heap.size, 0, none⟩ = some (.int .i64 0) := by rw [blk_cell bC5]; rfl
    have f0 : w5.frozen? ⟨w2.heap.size, 0, none⟩ = false := blk_frozen bC5 _
    go_wp2
    rw [rounds_succ]
    refine Rd.name_world ?_
    intro w6 hw
    have bA6 : blk w6 w.heap.size = some (.cells (cs .i64 a) 25 (0, 0)) := by rw [hw, blk_set_far _ _ _ _ (by simp; omega)]; exact bA5
    have bB6 : blk w6 (w.heap.size + 1) = some (.cells (cs .i64 b) 25 (0, 0)) := by rw [hw, blk_set_far _ _ _ _ (by simp; omega)]; exact bB5
    have bZ6 : blk w6 (w.heap.size + 1 + 1) = some (.cells (cs .i64 [0, 0, 0, 0, 0, 0]) 25 (0, 0)) := by rw [hw, blk_set_far _ _ _ _ (by simp; omega)]; exact bZ5
    have bC6 : blk w6 w2.heap.size = some (.cells (cs .i64 [btw (ClM.g a 0) (ClM.g b 0) (0), 0, 0, 0, 0, 0]) 25 (0, 0)) := by rw [hw, blk_set _ _ _ _ _ _ bC5]; simp
    have s6 : w2.heap.size < w6.heap.size := by rw [hw]; simpa using s5
    have L6 : Below w.heap.size w w6 := by
      rw [hw]
      repeat' (first | (with_reducible exact Below.refl _ _) | (with_reducible refine Rd.below_step ?_ (by assumption)) | (with_reducible refine Rd.below_alloc ?_ _) | (with_reducible refine Rd.below_drewN ?_ _) | (with_reducible refine Below.drew ?_) | (with_reducible refine Below.setCell ?_ ?_ _) | (with_reducible refine Rd.below_setRow ?_ ?_ _) | go_size | (simp only [World.size_alloc]; omega) | omega)
    clear hw bA5 bB5 bZ5 bC5 L5 s5 c0 f0
    have q0 : w.heap.size < w6.heap.size := by omega
    have q1 : w.heap.size + 1 < w6.heap.size := by omega
    have q2 : w.heap.size + 1 + 1 < w6.heap.size := by omega
    have ga := Go.cell_regrown (w := w6) (a := ⟨w.heap.size, 1, none⟩) (v := .int .i64 (ClM.g a 1)) (by rw [blk_cell bA6]; exact cs_at (at_of (l := a) (by omega)))
    have gb := Go.cell_regrown (w := w6) (a := ⟨w.heap.size + 1, 1, none⟩) (v := .int .i64 (ClM.g b 1)) (by rw [blk_cell bB6]; exact cs_at (at_of (l := b) (by omega)))
    go_wp2
    (refine Reg.below_tail 13 (by kernel_rfl) (by kernel_rfl) ?_; simp only [List.take_succ_cons, List.take_zero, List.drop_succ_cons, List.drop_zero]; (repeat (go_big_quiet_step (((with_reducible exact Calls.regrown_of (way_any (ClM.g a 1) (ClM.g b 1) (0) t0 t1 ha.y0 ha.y1 hb'.y0 hb'.y1 _)))))); refine wpQuiet_nil ?_)
    intro w7 hU
    have KU := Rd.below_of_regrown hU
    clear hU ga gb
    have hsz := KU.size
    have bA7 := (blk_below KU _ q0).trans bA6
    have bB7 := (blk_below KU _ q1).trans bB6
    have bZ7 := (blk_below KU _ q2).trans bZ6
    have bC7 := (blk_below KU _ s6).trans bC6
    have s7 : w2.heap.size < w7.heap.size := by omega
    have L7 : Below w.heap.size w w7 := by repeat' (first | (with_reducible exact Below.refl _ _) | (with_reducible refine Rd.below_step ?_ (by assumption)) | (with_reducible refine Rd.below_alloc ?_ _) | (with_reducible refine Rd.below_drewN ?_ _) | (with_reducible refine Below.drew ?_) | (with_reducible refine Below.setCell ?_ ?_ _) | (with_reducible refine Rd.below_setRow ?_ ?_ _) | go_size | (simp only [World.size_alloc]; omega) | omega)
    clear KU bA6 bB6 bZ6 bC6 L6 s6 q0 q1 q2 hsz
    have c0 : w7.cell? ⟨w2.heap.size, 1, none⟩ = some (.int .i64 0) := by rw [blk_cell bC7]; rfl
    have f0 : w7.frozen? ⟨w2.heap.size, 1, none⟩ = false := blk_frozen bC7 _
    go_wp2
    rw [rounds_succ]
    refine Rd.name_world ?_
    intro w8 hw
    have bA8 : blk w8 w.heap.size = some (.cells (cs .i64 a) 25 (0, 0)) := by rw [hw, blk_set_far _ _ _ _ (by simp; omega)]; exact bA7
    have bB8 : blk w8 (w.heap.size + 1) = some (.cells (cs .i64 b) 25 (0, 0)) := by rw [hw, blk_set_far _ _ _ _ (by simp; omega)]; exact bB7
    have bZ8 : blk w8 (w.heap.size + 1 + 1) = some (.cells (cs .i64 [0, 0, 0, 0, 0, 0]) 25 (0, 0)) := by rw [hw, blk_set_far _ _ _ _ (by simp; omega)]; exact bZ7
    have bC8 : blk w8 w2.heap.size = some (.cells (cs .i64 [btw (ClM.g a 0) (ClM.g b 0) (0), btw (ClM.g a 1) (ClM.g b 1) (0), 0, 0, 0, 0]) 25 (0, 0)) := by rw [hw, blk_set _ _ _ _ _ _ bC7]; simp
    have s8 : w2.heap.size < w8.heap.size := by rw [hw]; simpa using s7
    have L8 : Below w.heap.size w w8 := by
      rw [hw]
      repeat' (first | (with_reducible exact Below.refl _ _) | (with_reducible refine Rd.below_step ?_ (by assumption)) | (with_reducible refine Rd.below_alloc ?_ _) | (with_reducible refine Rd.below_drewN ?_ _) | (with_reducible refine Below.drew ?_) | (with_reducible refine Below.setCell ?_ ?_ _) | (with_reducible refine Rd.below_setRow ?_ ?_ _) | go_size | (simp only [World.size_alloc]; omega) | omega)
    clear hw bA7 bB7 bZ7 bC7 L7 s7 c0 f0
    have q0 : w.heap.size < w8.heap.size := by omega
    have q1 : w.heap.size + 1 < w8.heap.size := by omega
    have q2 : w.heap.size + 1 + 1 < w8.heap.size := by omega
    have ga := Go.cell_regrown (w := w8) (a := ⟨w.heap.size, 2, none⟩) (v := .int .i64 (ClM.g a 2)) (by rw [blk_cell bA8]; exact cs_at (at_of (l := a) (by omega)))
    have gb := Go.cell_regrown (w := w8) (a := ⟨w.heap.size + 1, 2, none⟩) (v := .int .i64 (ClM.g b 2)) (by rw [blk_cell bB8]; exact cs_at (at_of (l := b) (by omega)))
    go_wp2
    (refine Reg.below_tail 13 (by kernel_rfl) (by kernel_rfl) ?_; simp only [List.take_succ_cons, List.take_zero, List.drop_succ_cons, List.drop_zero]; (repeat (go_big_quiet_step (((with_reducible exact Calls.regrown_of (way_any (ClM.g a 2) (ClM.g b 2) (0) t0 t1 ha.z0 ha.z1 hb'.z0 hb'.z1 _)))))); refine wpQuiet_nil ?_)
    intro w9 hU
    have KU := Rd.below_of_regrown hU
    clear hU ga gb
    have hsz := KU.size
    have bA9 := (blk_below KU _ q0).trans bA8
    have bB9 := (blk_below KU _ q1).trans bB8
    have bZ9 := (blk_below KU _ q2).trans bZ8
    have bC9 := (blk_below KU _ s8).trans bC8
    have s9 : w2.heap.size < w9.heap.size := by omega
    have L9 : Below w.heap.size w w9 := by repeat' (first | (with_reducible exact Below.refl _ _) | (with_reducible refine Rd.below_step ?_ (by assumption)) | (with_reducible refine Rd.below_alloc ?_ _) | (with_reducible refine Rd.below_drewN ?_ _) | (with_reducible refine Below.drew ?_) | (with_reducible refine Below.setCell ?_ ?_ _) | (with_reducible refine Rd.below_setRow ?_ ?_ _) | go_size | (simp only [World.size_alloc]; omega) | omega)
    clear KU bA8 bB8 bZ8 bC8 L8 s8 q0 q1 q2 hsz
    have c0 : w9.cell? ⟨w2.heap.size, 2, none⟩ = some (.int .i64 0) := by rw [blk_cell bC9]; rfl
    have f0 : w9.frozen? ⟨w2.heap.size, 2, none⟩ = false := blk_frozen bC9 _
    go_wp2
    rw [rounds_succ]
    refine Rd.name_world ?_
    intro w10 hw
    have bA10 : blk w10 w.heap.size = some (.cells (cs .i64 a) 25 (0, 0)) := by rw [hw, blk_set_far _ _ _ _ (by simp; omega)]; exact bA9
    have bB10 : blk w10 (w.heap.size + 1) = some (.cells (cs .i64 b) 25 (0, 0)) := by rw [hw, blk_set_far _ _ _ _ (by simp; omega)]; exact bB9
    have bZ10 : blk w10 (w.heap.size + 1 + 1) = some (.cells (cs .i64 [0, 0, 0, 0, 0, 0]) 25 (0, 0)) := by rw [hw, blk_set_far _ _ _ _ (by simp; omega)]; exact bZ9
    have bC10 : blk w10 w2.heap.size = some (.cells (cs .i64 [btw (ClM.g a 0) (ClM.g b 0) (0), btw (ClM.g a 1) (ClM.g b 1) (0), btw (ClM.g a 2) (ClM.g b 2) (0), 0, 0, 0]) 25 (0, 0)) := by rw [hw, blk_set _ _ _ _ _ _ bC9]; simp
    have s10 : w2.heap.size < w10.heap.size := by rw [hw]; simpa using s9
    have L10 : Below w.heap.size w w10 := by
      rw [hw]
      repeat' (first | (with_reducible exact Below.refl _ _) | (with_reducible refine Rd.below_step ?_ (by assumption)) | (with_reducible refine Rd.below_alloc ?_ _) | (with_reducible refine Rd.below_drewN ?_ _) | (with_reducible refine Below.drew ?_) | (with_reducible refine Below.setCell ?_ ?_ _) | (with_reducible refine Rd.below_setRow ?_ ?_ _) | go_size | (simp only [World.size_alloc]; omega) | omega)
    clear hw bA9 bB9 bZ9 bC9 L9 s9 c0 f0
    have q0 : w.heap.size < w10.heap.size := by omega
    have q1 : w.heap.size + 1 < w10.heap.size := by omega
    have q2 : w.heap.size + 1 + 1 < w10.heap.size := by omega
    have ga := Go.cell_regrown (w := w10) (a := ⟨w.heap.size, 3, none⟩) (v := .int .i64 (ClM.g a 3)) (by rw [blk_cell bA10]; exact cs_at (at_of (l := a) (by omega)))
    have gb := Go.cell_regrown (w := w10) (a := ⟨w.heap.size + 1, 3, none⟩) (v := .int .i64 (ClM.g b 3)) (by rw [blk_cell bB10]; exact cs_at (at_of (l := b) (by omega)))
    go_wp2
    (refine Reg.below_tail 13 (by kernel_rfl) (by kernel_rfl) ?_; simp only [List.take_succ_cons, List.take_zero, List.drop_succ_cons, List.drop_zero]; (repeat (go_big_quiet_step (((with_reducible exact Calls.regrown_of (way_any (ClM.g a 3) (ClM.g b 3) (0) t0 t1 ha.w0 ha.w1 hb'.w0 hb'.w1 _)))))); refine wpQuiet_nil ?_)
    intro w11 hU
    have KU := Rd.below_of_regrown hU
    clear hU ga gb
    have hsz := KU.size
    have bA11 := (blk_below KU _ q0).trans bA10
    have bB11 := (blk_below KU _ q1).trans bB10
    have bZ11 := (blk_below KU _ q2).trans bZ10
    have bC11 := (blk_below KU _ s10).trans bC10
    have s11 : w2.heap.size < w11.heap.size := by omega
    have L11 : Below w.heap.size w w11 := by repeat' (first | (with_reducible exact Below.refl _ _) | (with_reducible refine Rd.below_step ?_ (by assumption)) | (with_reducible refine Rd.below_alloc ?_ _) | (with_reducible refine Rd.below_drewN ?_ _) | (with_reducible refine Below.drew ?_) | (with_reducible refine Below.setCell ?_ ?_ _) | (with_reducible refine Rd.below_setRow ?_ ?_ _) | go_size | (simp only [World.size_alloc]; omega) | omega)
    clear KU bA10 bB10 bZ10 bC10 L10 s10 q0 q1 q2 hsz
    have c0 : w11.cell? ⟨w2.heap.size, 3, none⟩ = some (.int .i64 0) := by rw [blk_cell bC11]; rfl
    have f0 : w11.frozen? ⟨w2.heap.size, 3, none⟩ = false := blk_frozen bC11 _
    go_wp2
    rw [rounds_succ]
    refine Rd.name_world ?_
    intro w12 hw
    have bA12 : blk w12 w.heap.size = some (.cells (cs .i64 a) 25 (0, 0)) := by rw [hw, blk_set_far _ _ _ _ (by simp; omega)]; exact bA11
    have bB12 : blk w12 (w.heap.size + 1) = some (.cells (cs .i64 b) 25 (0, 0)) := by rw [hw, blk_set_far _ _ _ _ (by simp; omega)]; exact bB11
    have bZ12 : blk w12 (w.heap.size + 1 + 1) = some (.cells (cs .i64 [0, 0, 0, 0, 0, 0]) 25 (0, 0)) := by rw [hw, blk_set_far _ _ _ _ (by simp; omega)]; exact bZ11
    have bC12 : blk w12 w2.heap.size = some (.cells (cs .i64 [btw (ClM.g a 0) (ClM.g b 0) (0), btw (ClM.g a 1) (ClM.g b 1) (0), btw (ClM.g a 2) (ClM.g b 2) (0), btw (ClM.g a 3) (ClM.g b 3) (0), 0, 0]) 25 (0, 0)) := by rw [hw, blk_set _ _ _ _ _ _ bC11]; simp
    have s12 : w2.heap.size < w12.heap.size := by rw [hw]; simpa using s11
    have L12 : Below w.heap.size w w12 := by
      rw [hw]
      repeat' (first | (with_reducible exact Below.refl _ _) | (with_reducible refine Rd.below_step ?_ (by assumption)) | (with_reducible refine Rd.below_alloc ?_ _) | (with_reducible refine Rd.below_drewN ?_ _) | (with_reducible refine Below.drew ?_) | (with_reducible refine Below.setCell ?_ ?_ _) | (with_reducible refine Rd.below_setRow ?_ ?_ _) | go_size | (simp only [World.size_alloc]; omega) | omega)
    clear hw bA11 bB11 bZ11 bC11 L11 s11 c0 f0
    have q0 : w.heap.size < w12.heap.size := by omega
    have q1 : w.heap.size + 1 < w12.heap.size := by omega
    have q2 : w.heap.size + 1 + 1 < w12.heap.size := by omega
    have ga4 := Go.cell_regrown (w := w12) (a := ⟨w.heap.size, 4, none⟩) (v := .int .i64 (ClM.g a 4)) (by rw [blk_cell bA12]; exact cs_at (at_of (l := a) (by omega)))
    have gb4 := Go.cell_regrown (w := w12) (a := ⟨w.heap.size + 1, 4, none⟩) (v := .int .i64 (ClM.g b 4)) (by rw [blk_cell bB12]; exact cs_at (at_of (l := b) (by omega)))
    have ga5 := Go.cell_regrown (w := w12) (a := ⟨w.heap.size, 5, none⟩) (v := .int .i64 (ClM.g a 5)) (by rw [blk_cell bA12]; exact cs_at (at_of (l := a) (by omega)))
    have gb5 := Go.cell_regrown (w := w12) (a := ⟨w.heap.size + 1, 5, none⟩) (v := .int .i64 (ClM.g b 5)) (by rw [blk_cell bB12]; exact cs_at (at_of (l := b) (by omega)))
    go_wp2
    (refine Reg.below_tail 13 (by kernel_rfl) (by kernel_rfl) ?_; simp only [List.take_succ_cons, List.take_zero, List.drop_succ_cons, List.drop_zero]; (repeat (go_big_quiet_step ((first | (with_reducible exact Calls.regrown_of (way_any (ClM.g a 4) (ClM.g b 4) (0) t0 t1 (by have := ha.u0; omega) (by have := ha.u1; omega) (by have := hb'.u0; omega) (by have := hb'.u1; omega) _)) | (with_reducible exact Calls.regrown_of (way_any (ClM.g a 5) (ClM.g b 5) (0) t0 t1 (by have := ha.v0; omega) (by have := ha.v1; omega) (by have := hb'.v0; omega) (by have := hb'.v1; omega) _)))))); refine wpQuiet_nil ?_)
    intro w13 hU
    have KU := Rd.below_of_regrown hU
    clear hU ga4 gb4 ga5 gb5
    have bZ13 := (blk_below KU _ q2).trans bZ12
    have bC13 := (blk_below KU _ s12).trans bC12
    have hsz := KU.size
    have L13 : Below w.heap.size w w13 := by repeat' (first | (with_reducible exact Below.refl _ _) | (with_reducible refine Rd.below_step ?_ (by assumption)) | (with_reducible refine Rd.below_alloc ?_ _) | (with_reducible refine Rd.below_drewN ?_ _) | (with_reducible refine Below.drew ?_) | (with_reducible refine Below.setCell ?_ ?_ _) | (with_reducible refine Rd.below_setRow ?_ ?_ _) | go_size | (simp only [World.size_alloc]; omega) | omega)
    clear KU bA12 bB12 bZ12 bC12 L12 q0 q1
    have c0 : w13.cell? ⟨w2.heap.size, 4, none⟩ = some (.int .i64 0) := by rw [blk_cell bC13]; rfl
    have c1 : w13.cell? ⟨w2.heap.size, 5, none⟩ = some (.int .i64 0) := by rw [blk_cell bC13]; rfl
    have f0 : w13.frozen? ⟨w2.heap.size, 4, none⟩ = false := blk_frozen bC13 _
    have f1 : w13.frozen? ⟨w2.heap.size, 5, none⟩ = false := blk_frozen bC13 _
    go_upto_region 11 with (fail)
    refine Rd.name_world ?_
    intro w14 hw
    have bZ14 : blk w14 (w.heap.size + 1 + 1) = some (.cells (cs .i64 [0, 0, 0, 0, 0, 0]) 25 (0, 0)) := by rw [hw, blk_set_far _ _ _ _ (by simp; omega), blk_set_far _ _ _ _ (by simp; omega)]; exact bZ13
    have bC14 : blk w14 w2.heap.size = some (.cells (cs .i64 [btw (ClM.g a 0) (ClM.g b 0) (0), btw (ClM.g a 1) (ClM.g b 1) (0), btw (ClM.g a 2) (ClM.g b 2) (0), btw (ClM.g a 3) (ClM.g b 3) (0), btw (ClM.g a 4) (ClM.g b 4) (0), btw (ClM.g a 5) (ClM.g b 5) (0)]) 25 (0, 0)) := by rw [hw, blk_set _ _ _ _ _ _ (blk_set _ _ _ _ _ _ bC13)]; simp
    have L14 : Below w.heap.size w w14 := by
      rw [hw]
      repeat' (first | (with_reducible exact Below.refl _ _) | (with_reducible refine Rd.below_step ?_ (by assumption)) | (with_reducible refine Rd.below_alloc ?_ _) | (with_reducible refine Rd.below_drewN ?_ _) | (with_reducible refine Below.drew ?_) | (with_reducible refine Below.setCell ?_ ?_ _) | (with_reducible refine Rd.below_setRow ?_ ?_ _) | go_size | (simp only [World.size_alloc]; omega) | omega)
    clear hw bZ13 bC13 L13 c0 c1 f0 f1
    go_wp2
    exact ret_vx rfl (w.heap.size + 1 + 1) [btw (ClM.g a 0) (ClM.g b 0) (0), btw (ClM.g a 1) (ClM.g b 1) (0), btw (ClM.g a 2) (ClM.g b 2) (0), btw (ClM.g a 3) (ClM.g b 3) (0), btw (ClM.g a 4) (ClM.g b 4) (0), btw (ClM.g a 5) (ClM.g b 5) (0)] rfl rfl (blk_setRow_of bZ14 _) rfl ⟨by rw [EV.out], by repeat' (first | (with_reducible exact Below.refl _ _) | (with_reducible refine Rd.below_step ?_ (by assumption)) | (with_reducible refine Rd.below_alloc ?_ _) | (with_reducible refine Rd.below_drewN ?_ _) | (with_reducible refine Below.drew ?_) | (with_reducible refine Below.setCell ?_ ?_ _) | (with_reducible refine Rd.below_setRow ?_ ?_ _) | go_size | (simp only [World.size_alloc]; omega) | omega)⟩
end Go.Proofs.Ytimfjogallcgnaa.ClB
