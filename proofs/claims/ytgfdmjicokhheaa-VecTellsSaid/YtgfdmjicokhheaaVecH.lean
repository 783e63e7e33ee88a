/-
  The law of package vec: of any matrices and vector.
-/
import Derived.Test.YtgfdmjicokhheaaVecG
namespace Go.Proofs.Ytgfdmjicokhheaa.VecH
open Go.RowKit FixA Num Rd Go.Proofs.Ytgfdmjicokhheaa.Row VecA VecB VecC VecD VecE VecF VecG
set_option linter.unusedVariables false
set_option linter.unusedSimpArgs false
set_option maxRecDepth 10000
attribute [local go_sem ↓] load_mat load_vec store_mat store_vec
attribute [local go_sem] index_mat index_vec run_load_mat run_load_vec run_store_mat run_store_vec rowLoad_eq rowStore_eq blk_alloc_at blk_alloc_old blk_drew blk_drewN blk_set_far blk_set_far' blk_grow setRow_alloc_at setRow_alloc_old setRow_drew setRow_drewN all_map one_int



attribute [local go_sem] eq_mat eq_vec eq_vec_lit
set_option maxHeartbeats 4000000 in
theorem VecTells_law (ms : List Int) (ns : List Int) (vs : List Int) (x : Int) (y : Int) (z : Int) (w : World) (hms : ms.length = 16) (hns : ns.length = 16) (hvs : vs.length = 4) (wms : Wf ms) (wns : Wf ns) (wvs : Wf vs) (wx : (Lit.int .i64 x).wf = true) (wy : (Lit.int .i64 y).wf = true) (wz : (Lit.int .i64 z).wf = true) :
    Calls Try.prog 3 #[.agg (cs .i64 ms), .agg (cs .i64 ns), .agg (cs .i64 vs), .int .i64 x, .int .i64 y, .int .i64 z] w fun e w' => e = .returned (.bool true) ∧ Below w.heap.size w w' := by
  have Wms := Lib.hid wms
  clear wms
  have Wns := Lib.hid wns
  clear wns
  have Wvs := Lib.hid wvs
  clear wvs
  have hl0 : (mulV ms ns).1.length = 16 := mulV_len ms ns
  generalize hq0 : mulV ms ns = q0 at hl0
  have HQ0 := Lib.hid hq0
  clear hq0
  have hl1 : (applyV ms vs).1.length = 4 := applyV_len ms vs
  generalize hq1 : applyV ms vs = q1 at hl1
  have HQ1 := Lib.hid hq1
  clear hq1
  have hl2 : (allowV (moveL x y z)).1.length = 16 := allowV_len rfl
  generalize hq2 : allowV (moveL x y z) = q2 at hl2
  have HQ2 := Lib.hid hq2
  clear hq2
  have hl3 : (allowV (stretchL x y z)).1.length = 16 := allowV_len rfl
  generalize hq3 : allowV (stretchL x y z) = q3 at hl3
  have HQ3 := Lib.hid hq3
  clear hq3
  go_enter Try.func3, Try.ntmps3
  go_wp2_with fail
  refine (mul_any ms ns hms hns _ Wms.out Wns.out).mono ?_
  rintro e w1 ⟨rfl, hb1⟩
  rw [HQ0.out]
  have s1 := hb1.size
  try simp only [World.size_alloc] at s1
  have m1 : blk w1 (w.heap.size) = some (.cells (cs .i64 ms) 23 (0, 0)) := (blk_below hb1 _ (by (try simp only [World.size_alloc]); omega)).trans ((blk_alloc_old _ _ _ (by (try simp only [World.size_alloc]); omega)).trans ((blk_alloc_old _ _ _ (by (try simp only [World.size_alloc]); omega)).trans (blk_alloc_at _ _ _ rfl)))
  have n1 : blk w1 (w.heap.size + 1) = some (.cells (cs .i64 ns) 23 (0, 0)) := (blk_below hb1 _ (by (try simp only [World.size_alloc]); omega)).trans ((blk_alloc_old _ _ _ (by (try simp only [World.size_alloc]); omega)).trans (blk_alloc_at _ _ _ (by simp)))
  have v1 : blk w1 (w.heap.size + 1 + 1) = some (.cells (cs .i64 vs) 25 (0, 0)) := (blk_below hb1 _ (by (try simp only [World.size_alloc]); omega)).trans (blk_alloc_at _ _ _ (by simp))
  have L1 : Below w.heap.size w w1 := by repeat' (first | (with_reducible exact Below.refl _ _) | (with_reducible refine Rd.below_step ?_ (by assumption)) | (with_reducible refine Rd.below_alloc ?_ _) | (with_reducible refine Rd.below_drewN ?_ _) | (with_reducible refine Below.drew ?_) | (with_reducible refine Below.setCell ?_ ?_ _) | (with_reducible refine Rd.below_setRow ?_ ?_ _) | go_size | (simp only [World.size_alloc]; omega) | omega)
  clear hb1
  have lm1 := blk_lt m1
  have ln1 := blk_lt n1
  have lv1 := blk_lt v1
  go_wp2_with fail
  refine (rmul_any ms ns hms hns _ Wms.out Wns.out).mono ?_
  rintro e w2 ⟨rfl, hb2⟩
  rw [HQ0.out]
  have s2 := hb2.size
  try simp only [World.size_alloc] at s2
  have m2 : blk w2 (w.heap.size) = some (.cells (cs .i64 ms) 23 (0, 0)) := (blk_below hb2 _ (by (try simp only [World.size_alloc]); omega)).trans ((blk_alloc_old _ _ _ (by (try simp only [World.size_alloc]); omega)).trans (m1))
  have n2 : blk w2 (w.heap.size + 1) = some (.cells (cs .i64 ns) 23 (0, 0)) := (blk_below hb2 _ (by (try simp only [World.size_alloc]); omega)).trans ((blk_alloc_old _ _ _ (by (try simp only [World.size_alloc]); omega)).trans (n1))
  have v2 : blk w2 (w.heap.size + 1 + 1) = some (.cells (cs .i64 vs) 25 (0, 0)) := (blk_below hb2 _ (by (try simp only [World.size_alloc]); omega)).trans ((blk_alloc_old _ _ _ (by (try simp only [World.size_alloc]); omega)).trans (v1))
  have px2 : blk w2 (w1.heap.size) = some (.cells (cs .i64 q0.1) 23 (0, 0)) := (blk_below hb2 _ (by (try simp only [World.size_alloc]); omega)).trans (blk_alloc_at _ _ _ rfl)
  have L2 : Below w.heap.size w w2 := by repeat' (first | (with_reducible exact Below.refl _ _) | (with_reducible refine Rd.below_step ?_ (by assumption)) | (with_reducible refine Rd.below_alloc ?_ _) | (with_reducible refine Rd.below_drewN ?_ _) | (with_reducible refine Below.drew ?_) | (with_reducible refine Below.setCell ?_ ?_ _) | (with_reducible refine Rd.below_setRow ?_ ?_ _) | go_size | (simp only [World.size_alloc]; omega) | omega)
  clear m1 n1 v1 lm1 ln1 lv1 hb2 L1
  have lm2 := blk_lt m2
  have ln2 := blk_lt n2
  have lv2 := blk_lt v2
  have lpx2 := blk_lt px2
  go_wp2_with fail
  refine (apply_any ms vs hms hvs _ Wms.out Wvs.out).mono ?_
  rintro e w3 ⟨rfl, hb3⟩
  rw [HQ1.out]
  have s3 := hb3.size
  try simp only [World.size_alloc] at s3
  have m3 : blk w3 (w.heap.size) = some (.cells (cs .i64 ms) 23 (0, 0)) := (blk_below hb3 _ (by (try simp only [World.size_alloc]); omega)).trans ((blk_alloc_old _ _ _ (by (try simp only [World.size_alloc]); omega)).trans (m2))
  have n3 : blk w3 (w.heap.size + 1) = some (.cells (cs .i64 ns) 23 (0, 0)) := (blk_below hb3 _ (by (try simp only [World.size_alloc]); omega)).trans ((blk_alloc_old _ _ _ (by (try simp only [World.size_alloc]); omega)).trans (n2))
  have v3 : blk w3 (w.heap.size + 1 + 1) = some (.cells (cs .i64 vs) 25 (0, 0)) := (blk_below hb3 _ (by (try simp only [World.size_alloc]); omega)).trans ((blk_alloc_old _ _ _ (by (try simp only [World.size_alloc]); omega)).trans (v2))
  have px3 : blk w3 (w1.heap.size) = some (.cells (cs .i64 q0.1) 23 (0, 0)) := (blk_below hb3 _ (by (try simp only [World.size_alloc]); omega)).trans ((blk_alloc_old _ _ _ (by (try simp only [World.size_alloc]); omega)).trans (px2))
  have pxx3 : blk w3 (w2.heap.size) = some (.cells (cs .i64 q0.1) 23 (0, 0)) := (blk_below hb3 _ (by (try simp only [World.size_alloc]); omega)).trans (blk_alloc_at _ _ _ rfl)
  have L3 : Below w.heap.size w w3 := by repeat' (first | (with_reducible exact Below.refl _ _) | (with_reducible refine Rd.below_step ?_ (by assumption)) | (with_reducible refine Rd.below_alloc ?_ _) | (with_reducible refine Rd.below_drewN ?_ _) | (with_reducible refine Below.drew ?_) | (with_reducible refine Below.setCell ?_ ?_ _) | (with_reducible refine Rd.below_setRow ?_ ?_ _) | go_size | (simp only [World.size_alloc]; omega) | omega)
  clear m2 n2 v2 px2 lm2 ln2 lv2 lpx2 hb3 L2
  have lm3 := blk_lt m3
  have ln3 := blk_lt n3
  have lv3 := blk_lt v3
  have lpx3 := blk_lt px3
  have lpxx3 := blk_lt pxx3
  go_wp2_with fail
  refine (rapply_any ms vs hms hvs _ Wms.out Wvs.out).mono ?_
  rintro e w4 ⟨rfl, hb4⟩
  rw [HQ1.out]
  have s4 := hb4.size
  try simp only [World.size_alloc] at s4
  have m4 : blk w4 (w.heap.size) = some (.cells (cs .i64 ms) 23 (0, 0)) := (blk_below hb4 _ (by (try simp only [World.size_alloc]); omega)).trans ((blk_alloc_old _ _ _ (by (try simp only [World.size_alloc]); omega)).trans (m3))
  have n4 : blk w4 (w.heap.size + 1) = some (.cells (cs .i64 ns) 23 (0, 0)) := (blk_below hb4 _ (by (try simp only [World.size_alloc]); omega)).trans ((blk_alloc_old _ _ _ (by (try simp only [World.size_alloc]); omega)).trans (n3))
  have v4 : blk w4 (w.heap.size + 1 + 1) = some (.cells (cs .i64 vs) 25 (0, 0)) := (blk_below hb4 _ (by (try simp only [World.size_alloc]); omega)).trans ((blk_alloc_old _ _ _ (by (try simp only [World.size_alloc]); omega)).trans (v3))
  have px4 : blk w4 (w1.heap.size) = some (.cells (cs .i64 q0.1) 23 (0, 0)) := (blk_below hb4 _ (by (try simp only [World.size_alloc]); omega)).trans ((blk_alloc_old _ _ _ (by (try simp only [World.size_alloc]); omega)).trans (px3))
  have pxx4 : blk w4 (w2.heap.size) = some (.cells (cs .i64 q0.1) 23 (0, 0)) := (blk_below hb4 _ (by (try simp only [World.size_alloc]); omega)).trans ((blk_alloc_old _ _ _ (by (try simp only [World.size_alloc]); omega)).trans (pxx3))
  have ax4 : blk w4 (w3.heap.size) = some (.cells (cs .i64 q1.1) 25 (0, 0)) := (blk_below hb4 _ (by (try simp only [World.size_alloc]); omega)).trans (blk_alloc_at _ _ _ rfl)
  have L4 : Below w.heap.size w w4 := by repeat' (first | (with_reducible exact Below.refl _ _) | (with_reducible refine Rd.below_step ?_ (by assumption)) | (with_reducible refine Rd.below_alloc ?_ _) | (with_reducible refine Rd.below_drewN ?_ _) | (with_reducible refine Below.drew ?_) | (with_reducible refine Below.setCell ?_ ?_ _) | (with_reducible refine Rd.below_setRow ?_ ?_ _) | go_size | (simp only [World.size_alloc]; omega) | omega)
  clear m3 n3 v3 px3 pxx3 lm3 ln3 lv3 lpx3 lpxx3 hb4 L3
  have lm4 := blk_lt m4
  have ln4 := blk_lt n4
  have lv4 := blk_lt v4
  have lpx4 := blk_lt px4
  have lpxx4 := blk_lt pxx4
  have lax4 := blk_lt ax4
  go_wp2_with fail
  refine (move_any x y z _ wx wy wz).mono ?_
  rintro e w5 ⟨rfl, hb5⟩
  rw [HQ2.out]
  have s5 := hb5.size
  try simp only [World.size_alloc] at s5
  have m5 : blk w5 (w.heap.size) = some (.cells (cs .i64 ms) 23 (0, 0)) := (blk_below hb5 _ (by (try simp only [World.size_alloc]); omega)).trans ((blk_alloc_old _ _ _ (by (try simp only [World.size_alloc]); omega)).trans (m4))
  have n5 : blk w5 (w.heap.size + 1) = some (.cells (cs .i64 ns) 23 (0, 0)) := (blk_below hb5 _ (by (try simp only [World.size_alloc]); omega)).trans ((blk_alloc_old _ _ _ (by (try simp only [World.size_alloc]); omega)).trans (n4))
  have v5 : blk w5 (w.heap.size + 1 + 1) = some (.cells (cs .i64 vs) 25 (0, 0)) := (blk_below hb5 _ (by (try simp only [World.size_alloc]); omega)).trans ((blk_alloc_old _ _ _ (by (try simp only [World.size_alloc]); omega)).trans (v4))
  have px5 : blk w5 (w1.heap.size) = some (.cells (cs .i64 q0.1) 23 (0, 0)) := (blk_below hb5 _ (by (try simp only [World.size_alloc]); omega)).trans ((blk_alloc_old _ _ _ (by (try simp only [World.size_alloc]); omega)).trans (px4))
  have pxx5 : blk w5 (w2.heap.size) = some (.cells (cs .i64 q0.1) 23 (0, 0)) := (blk_below hb5 _ (by (try simp only [World.size_alloc]); omega)).trans ((blk_alloc_old _ _ _ (by (try simp only [World.size_alloc]); omega)).trans (pxx4))
  have ax5 : blk w5 (w3.heap.size) = some (.cells (cs .i64 q1.1) 25 (0, 0)) := (blk_below hb5 _ (by (try simp only [World.size_alloc]); omega)).trans ((blk_alloc_old _ _ _ (by (try simp only [World.size_alloc]); omega)).trans (ax4))
  have axx5 : blk w5 (w4.heap.size) = some (.cells (cs .i64 q1.1) 25 (0, 0)) := (blk_below hb5 _ (by (try simp only [World.size_alloc]); omega)).trans (blk_alloc_at _ _ _ rfl)
  have L5 : Below w.heap.size w w5 := by repeat' (first | (with_reducible exact Below.refl _ _) | (with_reducible refine Rd.below_step ?_ (by assumption)) | (with_reducible refine Rd.below_alloc ?_ _) | (with_reducible refine Rd.below_drewN ?_ _) | (with_reducible refine Below.drew ?_) | (with_reducible refine Below.setCell ?_ ?_ _) | (with_reducible refine Rd.below_setRow ?_ ?_ _) | go_size | (simp only [World.size_alloc]; omega) | omega)
  clear m4 n4 v4 px4 pxx4 ax4 lm4 ln4 lv4 lpx4 lpxx4 lax4 hb5 L4
  have lm5 := blk_lt m5
  have ln5 := blk_lt n5
  have lv5 := blk_lt v5
  have lpx5 := blk_lt px5
  have lpxx5 := blk_lt pxx5
  have lax5 := blk_lt ax5
  have laxx5 := blk_lt axx5
  go_wp2_with fail
  refine (rmove_any x y z _ wx wy wz).mono ?_
  rintro e w6 ⟨rfl, hb6⟩
  rw [HQ2.out]
  have s6 := hb6.size
  try simp only [World.size_alloc] at s6
  have m6 : blk w6 (w.heap.size) = some (.cells (cs .i64 ms) 23 (0, 0)) := (blk_below hb6 _ (by (try simp only [World.size_alloc]); omega)).trans ((blk_alloc_old _ _ _ (by (try simp only [World.size_alloc]); omega)).trans (m5))
  have n6 : blk w6 (w.heap.size + 1) = some (.cells (cs .i64 ns) 23 (0, 0)) := (blk_below hb6 _ (by (try simp only [World.size_alloc]); omega)).trans ((blk_alloc_old _ _ _ (by (try simp only [World.size_alloc]); omega)).trans (n5))
  have v6 : blk w6 (w.heap.size + 1 + 1) = some (.cells (cs .i64 vs) 25 (0, 0)) := (blk_below hb6 _ (by (try simp only [World.size_alloc]); omega)).trans ((blk_alloc_old _ _ _ (by (try simp only [World.size_alloc]); omega)).trans (v5))
  have px6 : blk w6 (w1.heap.size) = some (.cells (cs .i64 q0.1) 23 (0, 0)) := (blk_below hb6 _ (by (try simp only [World.size_alloc]); omega)).trans ((blk_alloc_old _ _ _ (by (try simp only [World.size_alloc]); omega)).trans (px5))
  have pxx6 : blk w6 (w2.heap.size) = some (.cells (cs .i64 q0.1) 23 (0, 0)) := (blk_below hb6 _ (by (try simp only [World.size_alloc]); omega)).trans ((blk_alloc_old _ _ _ (by (try simp only [World.size_alloc]); omega)).trans (pxx5))
  have ax6 : blk w6 (w3.heap.size) = some (.cells (cs .i64 q1.1) 25 (0, 0)) := (blk_below hb6 _ (by (try simp only [World.size_alloc]); omega)).trans ((blk_alloc_old _ _ _ (by (try simp only [World.size_alloc]); omega)).trans (ax5))
  have axx6 : blk w6 (w4.heap.size) = some (.cells (cs .i64 q1.1) 25 (0, 0)) := (blk_below hb6 _ (by (try simp only [World.size_alloc]); omega)).trans ((blk_alloc_old _ _ _ (by (try simp only [World.size_alloc]); omega)).trans (axx5))
  have cx6 : blk w6 (w5.heap.size) = some (.cells (cs .i64 q2.1) 23 (0, 0)) := (blk_below hb6 _ (by (try simp only [World.size_alloc]); omega)).trans (blk_alloc_at _ _ _ rfl)
  have L6 : Below w.heap.size w w6 := by repeat' (first | (with_reducible exact Below.refl _ _) | (with_reducible refine Rd.below_step ?_ (by assumption)) | (with_reducible refine Rd.below_alloc ?_ _) | (with_reducible refine Rd.below_drewN ?_ _) | (with_reducible refine Below.drew ?_) | (with_reducible refine Below.setCell ?_ ?_ _) | (with_reducible refine Rd.below_setRow ?_ ?_ _) | go_size | (simp only [World.size_alloc]; omega) | omega)
  clear m5 n5 v5 px5 pxx5 ax5 axx5 lm5 ln5 lv5 lpx5 lpxx5 lax5 laxx5 hb6 L5
  have lm6 := blk_lt m6
  have ln6 := blk_lt n6
  have lv6 := blk_lt v6
  have lpx6 := blk_lt px6
  have lpxx6 := blk_lt pxx6
  have lax6 := blk_lt ax6
  have laxx6 := blk_lt axx6
  have lcx6 := blk_lt cx6
  go_wp2_with fail
  refine (stretch_any x y z _ wx wy wz).mono ?_
  rintro e w7 ⟨rfl, hb7⟩
  rw [HQ3.out]
  have s7 := hb7.size
  try simp only [World.size_alloc] at s7
  have m7 : blk w7 (w.heap.size) = some (.cells (cs .i64 ms) 23 (0, 0)) := (blk_below hb7 _ (by (try simp only [World.size_alloc]); omega)).trans ((blk_alloc_old _ _ _ (by (try simp only [World.size_alloc]); omega)).trans (m6))
  have n7 : blk w7 (w.heap.size + 1) = some (.cells (cs .i64 ns) 23 (0, 0)) := (blk_below hb7 _ (by (try simp only [World.size_alloc]); omega)).trans ((blk_alloc_old _ _ _ (by (try simp only [World.size_alloc]); omega)).trans (n6))
  have v7 : blk w7 (w.heap.size + 1 + 1) = some (.cells (cs .i64 vs) 25 (0, 0)) := (blk_below hb7 _ (by (try simp only [World.size_alloc]); omega)).trans ((blk_alloc_old _ _ _ (by (try simp only [World.size_alloc]); omega)).trans (v6))
  have px7 : blk w7 (w1.heap.size) = some (.cells (cs .i64 q0.1) 23 (0, 0)) := (blk_below hb7 _ (by (try simp only [World.size_alloc]); omega)).trans ((blk_alloc_old _ _ _ (by (try simp only [World.size_alloc]); omega)).trans (px6))
  have pxx7 : blk w7 (w2.heap.size) = some (.cells (cs .i64 q0.1) 23 (0, 0)) := (blk_below hb7 _ (by (try simp only [World.size_alloc]); omega)).trans ((blk_alloc_old _ _ _ (by (try simp only [World.size_alloc]); omega)).trans (pxx6))
  have ax7 : blk w7 (w3.heap.size) = some (.cells (cs .i64 q1.1) 25 (0, 0)) := (blk_below hb7 _ (by (try simp only [World.size_alloc]); omega)).trans ((blk_alloc_old _ _ _ (by (try simp only [World.size_alloc]); omega)).trans (ax6))
  have axx7 : blk w7 (w4.heap.size) = some (.cells (cs .i64 q1.1) 25 (0, 0)) := (blk_below hb7 _ (by (try simp only [World.size_alloc]); omega)).trans ((blk_alloc_old _ _ _ (by (try simp only [World.size_alloc]); omega)).trans (axx6))
  have cx7 : blk w7 (w5.heap.size) = some (.cells (cs .i64 q2.1) 23 (0, 0)) := (blk_below hb7 _ (by (try simp only [World.size_alloc]); omega)).trans ((blk_alloc_old _ _ _ (by (try simp only [World.size_alloc]); omega)).trans (cx6))
  have cxx7 : blk w7 (w6.heap.size) = some (.cells (cs .i64 q2.1) 23 (0, 0)) := (blk_below hb7 _ (by (try simp only [World.size_alloc]); omega)).trans (blk_alloc_at _ _ _ rfl)
  have L7 : Below w.heap.size w w7 := by repeat' (first | (with_reducible exact Below.refl _ _) | (with_reducible refine Rd.below_step ?_ (by assumption)) | (with_reducible refine Rd.below_alloc ?_ _) | (with_reducible refine Rd.below_drewN ?_ _) | (with_reducible refine Below.drew ?_) | (with_reducible refine Below.setCell ?_ ?_ _) | (with_reducible refine Rd.below_setRow ?_ ?_ _) | go_size | (simp only [World.size_alloc]; omega) | omega)
  clear m6 n6 v6 px6 pxx6 ax6 axx6 cx6 lm6 ln6 lv6 lpx6 lpxx6 lax6 laxx6 lcx6 hb7 L6
  have lm7 := blk_lt m7
  have ln7 := blk_lt n7
  have lv7 := blk_lt v7
  have lpx7 := blk_lt px7
  have lpxx7 := blk_lt pxx7
  have lax7 := blk_lt ax7
  have laxx7 := blk_lt axx7
  have lcx7 := blk_lt cx7
  have lcxx7 := blk_lt cxx7
  go_wp2_with fail
  refine (rstretch_any x y z _ wx wy wz).mono ?_
  rintro e w8 ⟨rfl, hb8⟩
  rw [HQ3.out]
  have s8 := hb8.size
  try simp only [World.size_alloc] at s8
  have m8 : blk w8 (w.heap.size) = some (.cells (cs .i64 ms) 23 (0, 0)) := (blk_below hb8 _ (by (try simp only [World.size_alloc]); omega)).trans ((blk_alloc_old _ _ _ (by (try simp only [World.size_alloc]); omega)).trans (m7))
  have n8 : blk w8 (w.heap.size + 1) = some (.cells (cs .i64 ns) 23 (0, 0)) := (blk_below hb8 _ (by (try simp only [World.size_alloc]); omega)).trans ((blk_alloc_old _ _ _ (by (try simp only [World.size_alloc]); omega)).trans (n7))
  have v8 : blk w8 (w.heap.size + 1 + 1) = some (.cells (cs .i64 vs) 25 (0, 0)) := (blk_below hb8 _ (by (try simp only [World.size_alloc]); omega)).trans ((blk_alloc_old _ _ _ (by (try simp only [World.size_alloc]); omega)).trans (v7))
  have px8 : blk w8 (w1.heap.size) = some (.cells (cs .i64 q0.1) 23 (0, 0)) := (blk_below hb8 _ (by (try simp only [World.size_alloc]); omega)).trans ((blk_alloc_old _ _ _ (by (try simp only [World.size_alloc]); omega)).trans (px7))
  have pxx8 : blk w8 (w2.heap.size) = some (.cells (cs .i64 q0.1) 23 (0, 0)) := (blk_below hb8 _ (by (try simp only [World.size_alloc]); omega)).trans ((blk_alloc_old _ _ _ (by (try simp only [World.size_alloc]); omega)).trans (pxx7))
  have ax8 : blk w8 (w3.heap.size) = some (.cells (cs .i64 q1.1) 25 (0, 0)) := (blk_below hb8 _ (by (try simp only [World.size_alloc]); omega)).trans ((blk_alloc_old _ _ _ (by (try simp only [World.size_alloc]); omega)).trans (ax7))
  have axx8 : blk w8 (w4.heap.size) = some (.cells (cs .i64 q1.1) 25 (0, 0)) := (blk_below hb8 _ (by (try simp only [World.size_alloc]); omega)).trans ((blk_alloc_old _ _ _ (by (try simp only [World.size_alloc]); omega)).trans (axx7))
  have cx8 : blk w8 (w5.heap.size) = some (.cells (cs .i64 q2.1) 23 (0, 0)) := (blk_below hb8 _ (by (try simp only [World.size_alloc]); omega)).trans ((blk_alloc_old _ _ _ (by (try simp only [World.size_alloc]); omega)).trans (cx7))
  have cxx8 : blk w8 (w6.heap.size) = some (.cells (cs .i64 q2.1) 23 (0, 0)) := (blk_below hb8 _ (by (try simp only [World.size_alloc]); omega)).trans ((blk_alloc_old _ _ _ (by (try simp only [World.size_alloc]); omega)).trans (cxx7))
  have sx8 : blk w8 (w7.heap.size) = some (.cells (cs .i64 q3.1) 23 (0, 0)) := (blk_below hb8 _ (by (try simp only [World.size_alloc]); omega)).trans (blk_alloc_at _ _ _ rfl)
  have L8 : Below w.heap.size w w8 := by repeat' (first | (with_reducible exact Below.refl _ _) | (with_reducible refine Rd.below_step ?_ (by assumption)) | (with_reducible refine Rd.below_alloc ?_ _) | (with_reducible refine Rd.below_drewN ?_ _) | (with_reducible refine Below.drew ?_) | (with_reducible refine Below.setCell ?_ ?_ _) | (with_reducible refine Rd.below_setRow ?_ ?_ _) | go_size | (simp only [World.size_alloc]; omega) | omega)
  clear m7 n7 v7 px7 pxx7 ax7 axx7 cx7 cxx7 lm7 ln7 lv7 lpx7 lpxx7 lax7 laxx7 lcx7 lcxx7 hb8 L7
  have lm8 := blk_lt m8
  have ln8 := blk_lt n8
  have lv8 := blk_lt v8
  have lpx8 := blk_lt px8
  have lpxx8 := blk_lt pxx8
  have lax8 := blk_lt ax8
  have laxx8 := blk_lt axx8
  have lcx8 := blk_lt cx8
  have lcxx8 := blk_lt cxx8
  have lsx8 := blk_lt sx8
  have hone : oneL.length = 16 := rfl
  go_upto_region 9 with (fail)
  refine Rd.name_world ?_
  intro w9 hW
  have m9 : blk w9 (w.heap.size) = some (.cells (cs .i64 ms) 23 (0, 0)) := by rw [hW]; exact (blk_alloc_old _ _ _ (by (try simp only [World.size_alloc]); omega)).trans (m8)
  have n9 : blk w9 (w.heap.size + 1) = some (.cells (cs .i64 ns) 23 (0, 0)) := by rw [hW]; exact (blk_alloc_old _ _ _ (by (try simp only [World.size_alloc]); omega)).trans (n8)
  have v9 : blk w9 (w.heap.size + 1 + 1) = some (.cells (cs .i64 vs) 25 (0, 0)) := by rw [hW]; exact (blk_alloc_old _ _ _ (by (try simp only [World.size_alloc]); omega)).trans (v8)
  have px9 : blk w9 (w1.heap.size) = some (.cells (cs .i64 q0.1) 23 (0, 0)) := by rw [hW]; exact (blk_alloc_old _ _ _ (by (try simp only [World.size_alloc]); omega)).trans (px8)
  have pxx9 : blk w9 (w2.heap.size) = some (.cells (cs .i64 q0.1) 23 (0, 0)) := by rw [hW]; exact (blk_alloc_old _ _ _ (by (try simp only [World.size_alloc]); omega)).trans (pxx8)
  have ax9 : blk w9 (w3.heap.size) = some (.cells (cs .i64 q1.1) 25 (0, 0)) := by rw [hW]; exact (blk_alloc_old _ _ _ (by (try simp only [World.size_alloc]); omega)).trans (ax8)
  have axx9 : blk w9 (w4.heap.size) = some (.cells (cs .i64 q1.1) 25 (0, 0)) := by rw [hW]; exact (blk_alloc_old _ _ _ (by (try simp only [World.size_alloc]); omega)).trans (axx8)
  have cx9 : blk w9 (w5.heap.size) = some (.cells (cs .i64 q2.1) 23 (0, 0)) := by rw [hW]; exact (blk_alloc_old _ _ _ (by (try simp only [World.size_alloc]); omega)).trans (cx8)
  have cxx9 : blk w9 (w6.heap.size) = some (.cells (cs .i64 q2.1) 23 (0, 0)) := by rw [hW]; exact (blk_alloc_old _ _ _ (by (try simp only [World.size_alloc]); omega)).trans (cxx8)
  have sx9 : blk w9 (w7.heap.size) = some (.cells (cs .i64 q3.1) 23 (0, 0)) := by rw [hW]; exact (blk_alloc_old _ _ _ (by (try simp only [World.size_alloc]); omega)).trans (sx8)
  have sxx9 : blk w9 (w8.heap.size) = some (.cells (cs .i64 q3.1) 23 (0, 0)) := by rw [hW]; exact blk_alloc_at _ _ _ rfl
  have L9 : Below w.heap.size w w9 := by rw [hW]; repeat' (first | (with_reducible exact Below.refl _ _) | (with_reducible refine Rd.below_step ?_ (by assumption)) | (with_reducible refine Rd.below_alloc ?_ _) | (with_reducible refine Rd.below_drewN ?_ _) | (with_reducible refine Below.drew ?_) | (with_reducible refine Below.setCell ?_ ?_ _) | (with_reducible refine Rd.below_setRow ?_ ?_ _) | go_size | (simp only [World.size_alloc]; omega) | omega)
  have lm9 := blk_lt m9
  have ln9 := blk_lt n9
  have lv9 := blk_lt v9
  have lpx9 := blk_lt px9
  have lpxx9 := blk_lt pxx9
  have lax9 := blk_lt ax9
  have laxx9 := blk_lt axx9
  have lcx9 := blk_lt cx9
  have lcxx9 := blk_lt cxx9
  have lsx9 := blk_lt sx9
  have lsxx9 := blk_lt sxx9
  clear m8 n8 v8 px8 pxx8 ax8 axx8 cx8 cxx8 sx8 lm8 ln8 lv8 lpx8 lpxx8 lax8 laxx8 lcx8 lcxx8 lsx8 hW L8
  refine wp_region_quiet_below (by kernel_rfl) (by kernel_rfl) ?_
  (try simp only [List.append_eq, List.cons_append, List.nil_append])
  repeat (go_big_quiet_step ((first | (with_reducible exact Calls.regrown_of (may_any ms hms _ Wms.out)) | (with_reducible exact Calls.regrown_of (rmay_any ms hms _ Wms.out)) | (with_reducible exact Calls.regrown_of (one_any _)) | (with_reducible exact Calls.regrown_of (rone_any _)) | (with_reducible exact Calls.regrown_of (awake_any _)))))
  refine wpQuiet_nil ?_
  intro w10 hU
  have hb10 := Rd.below_of_regrown hU
  have s10 := hb10.size
  have m10 := (blk_below hb10 _ lm9).trans m9
  have n10 := (blk_below hb10 _ ln9).trans n9
  have v10 := (blk_below hb10 _ lv9).trans v9
  have px10 := (blk_below hb10 _ lpx9).trans px9
  have pxx10 := (blk_below hb10 _ lpxx9).trans pxx9
  have ax10 := (blk_below hb10 _ lax9).trans ax9
  have axx10 := (blk_below hb10 _ laxx9).trans axx9
  have cx10 := (blk_below hb10 _ lcx9).trans cx9
  have cxx10 := (blk_below hb10 _ lcxx9).trans cxx9
  have sx10 := (blk_below hb10 _ lsx9).trans sx9
  have sxx10 := (blk_below hb10 _ lsxx9).trans sxx9
  have L10 : Below w.heap.size w w10 := by repeat' (first | (with_reducible exact Below.refl _ _) | (with_reducible refine Rd.below_step ?_ (by assumption)) | (with_reducible refine Rd.below_alloc ?_ _) | (with_reducible refine Rd.below_drewN ?_ _) | (with_reducible refine Below.drew ?_) | (with_reducible refine Below.setCell ?_ ?_ _) | (with_reducible refine Rd.below_setRow ?_ ?_ _) | go_size | (simp only [World.size_alloc]; omega) | omega)
  clear hU m9 n9 v9 px9 pxx9 ax9 axx9 cx9 cxx9 sx9 sxx9 lm9 ln9 lv9 lpx9 lpxx9 lax9 laxx9 lcx9 lcxx9 lsx9 lsxx9 L9 hb10
  have lm10 := blk_lt m10
  have ln10 := blk_lt n10
  have lv10 := blk_lt v10
  have lpx10 := blk_lt px10
  have lpxx10 := blk_lt pxx10
  have lax10 := blk_lt ax10
  have laxx10 := blk_lt axx10
  have lcx10 := blk_lt cx10
  have lcxx10 := blk_lt cxx10
  have lsx10 := blk_lt sx10
  have lsxx10 := blk_lt sxx10
  go_wp2_with fail
  go_ret
  exact ⟨rfl, by repeat' (first | (with_reducible exact Below.refl _ _) | (with_reducible refine Rd.below_step ?_ (by assumption)) | (with_reducible refine Rd.below_alloc ?_ _) | (with_reducible refine Rd.below_drewN ?_ _) | (with_reducible refine Below.drew ?_) | (with_reducible refine Below.setCell ?_ ?_ _) | (with_reducible refine Rd.below_setRow ?_ ?_ _) | go_size | (simp only [World.size_alloc]; omega) | omega)⟩
theorem VecTells_walk (a0_0 : Int) (a0_1 : Int) (a0_2 : Int) (a0_3 : Int) (a0_4 : Int) (a0_5 : Int) (a0_6 : Int) (a0_7 : Int) (a0_8 : Int) (a0_9 : Int) (a0_10 : Int) (a0_11 : Int) (a0_12 : Int) (a0_13 : Int) (a0_14 : Int) (a0_15 : Int) (a1_0 : Int) (a1_1 : Int) (a1_2 : Int) (a1_3 : Int) (a1_4 : Int) (a1_5 : Int) (a1_6 : Int) (a1_7 : Int) (a1_8 : Int) (a1_9 : Int) (a1_10 : Int) (a1_11 : Int) (a1_12 : Int) (a1_13 : Int) (a1_14 : Int) (a1_15 : Int) (a2_0 : Int) (a2_1 : Int) (a2_2 : Int) (a2_3 : Int) (a3 : Int) (a4 : Int) (a5 : Int) (w : World) (w0_0 : (Lit.int .i64 a0_0).wf = true) (w0_1 : (Lit.int .i64 a0_1).wf = true) (w0_2 : (Lit.int .i64 a0_2).wf = true) (w0_3 : (Lit.int .i64 a0_3).wf = true) (w0_4 : (Lit.int .i64 a0_4).wf = true) (w0_5 : (Lit.int .i64 a0_5).wf = true) (w0_6 : (Lit.int .i64 a0_6).wf = true) (w0_7 : (Lit.int .i64 a0_7).wf = true) (w0_8 : (Lit.int .i64 a0_8).wf = true) (w0_9 : (Lit.int .i64 a0_9).wf = true) (w0_10 : (Lit.int .i64 a0_10).wf = true) (w0_11 : (Lit.int .i64 a0_11).wf = true) (w0_12 : (Lit.int .i64 a0_12).wf = true) (w0_13 : (Lit.int .i64 a0_13).wf = true) (w0_14 : (Lit.int .i64 a0_14).wf = true) (w0_15 : (Lit.int .i64 a0_15).wf = true) (w1_0 : (Lit.int .i64 a1_0).wf = true) (w1_1 : (Lit.int .i64 a1_1).wf = true) (w1_2 : (Lit.int .i64 a1_2).wf = true) (w1_3 : (Lit.int .i64 a1_3).wf = true) (w1_4 : (Lit.int .i64 a1_4).wf = true) (w1_5 : (Lit.int .i64 a1_5).wf = true) (w1_6 : (Lit.int .i64 a1_6).wf = true) (w1_7 : (Lit.int .i64 a1_7).wf = true) (w1_8 : (Lit.int .i64 a1_8).wf = true) (w1_9 : (Lit.int .i64 a1_9).wf = true) (w1_10 : (Lit.int .i64 a1_10).wf = true) (w1_11 : (Lit.int .i64 a1_11).wf = true) (w1_12 : (Lit.int .i64 a1_12).wf = true) (w1_13 : (Lit.int .i64 a1_13).wf = true) (w1_14 : (Lit.int .i64 a1_14).wf = true) (w1_15 : (Lit.int .i64 a1_15).wf = true) (w2_0 : (Lit.int .i64 a2_0).wf = true) (w2_1 : (Lit.int .i64 a2_1).wf = true) (w2_2 : (Lit.int .i64 a2_2).wf = true) (w2_3 : (Lit.int .i64 a2_3).wf = true) (w3 : (Lit.int .i64 a3).wf = true) (w4 : (Lit.int .i64 a4).wf = true) (w5 : (Lit.int .i64 a5).wf = true) :
    Calls Try.prog 3 #[.agg #[.int .i64 a0_0, .int .i64 a0_1, .int .i64 a0_2, .int .i64 a0_3, .int .i64 a0_4, .int .i64 a0_5, .int .i64 a0_6, .int .i64 a0_7, .int .i64 a0_8, .int .i64 a0_9, .int .i64 a0_10, .int .i64 a0_11, .int .i64 a0_12, .int .i64 a0_13, .int .i64 a0_14, .int .i64 a0_15], .agg #[.int .i64 a1_0, .int .i64 a1_1, .int .i64 a1_2, .int .i64 a1_3, .int .i64 a1_4, .int .i64 a1_5, .int .i64 a1_6, .int .i64 a1_7, .int .i64 a1_8, .int .i64 a1_9, .int .i64 a1_10, .int .i64 a1_11, .int .i64 a1_12, .int .i64 a1_13, .int .i64 a1_14, .int .i64 a1_15], .agg #[.int .i64 a2_0, .int .i64 a2_1, .int .i64 a2_2, .int .i64 a2_3], .int .i64 a3, .int .i64 a4, .int .i64 a5] w fun e w' => e = .returned (.bool true) ∧ Below w.heap.size w w' := by
  exact VecTells_law [a0_0, a0_1, a0_2, a0_3, a0_4, a0_5, a0_6, a0_7, a0_8, a0_9, a0_10, a0_11, a0_12, a0_13, a0_14, a0_15] [a1_0, a1_1, a1_2, a1_3, a1_4, a1_5, a1_6, a1_7, a1_8, a1_9, a1_10, a1_11, a1_12, a1_13, a1_14, a1_15] [a2_0, a2_1, a2_2, a2_3] a3 a4 a5 w rfl rfl rfl (wfc w0_0 (wfc w0_1 (wfc w0_2 (wfc w0_3 (wfc w0_4 (wfc w0_5 (wfc w0_6 (wfc w0_7 (wfc w0_8 (wfc w0_9 (wfc w0_10 (wfc w0_11 (wfc w0_12 (wfc w0_13 (wfc w0_14 (wfc w0_15 wfn)))))))))))))))) (wfc w1_0 (wfc w1_1 (wfc w1_2 (wfc w1_3 (wfc w1_4 (wfc w1_5 (wfc w1_6 (wfc w1_7 (wfc w1_8 (wfc w1_9 (wfc w1_10 (wfc w1_11 (wfc w1_12 (wfc w1_13 (wfc w1_14 (wfc w1_15 wfn)))))))))))))))) (wfc w2_0 (wfc w2_1 (wfc w2_2 (wfc w2_3 wfn)))) w3 w4 w5

end Go.Proofs.Ytgfdmjicokhheaa.VecH
