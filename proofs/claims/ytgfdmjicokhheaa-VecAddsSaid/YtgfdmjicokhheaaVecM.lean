/-
  The laws of package vec: what is moved, and stretched.
-/
import Derived.Test.YtgfdmjicokhheaaVecK
namespace Go.Proofs.Ytgfdmjicokhheaa.VecM
open Go.RowKit FixA Num Rd Go.Proofs.Ytgfdmjicokhheaa.Row VecA VecB VecC VecD VecE VecF VecG VecK
set_option linter.unusedVariables false
set_option linter.unusedSimpArgs false
set_option maxRecDepth 10000
attribute [local go_sem ↓] load_mat load_vec store_mat store_vec
attribute [local go_sem] index_mat index_vec run_load_mat run_load_vec run_store_mat run_store_vec rowLoad_eq rowStore_eq blk_alloc_at blk_alloc_old blk_drew blk_drewN blk_set_far blk_set_far' blk_grow setRow_alloc_at setRow_alloc_old setRow_drew setRow_drewN all_map one_int



attribute [local go_sem] eq_mat eq_vec eq_vec_lit
theorem in_or_out (v lo hi : Int) : (lo ≤ v ∧ v ≤ hi) ∨ v < lo ∨ (lo ≤ v ∧ hi < v) := by omega
theorem wf_neg {x : Int} (h1 : -524288 ≤ x) (h2 : x ≤ 524288) : (Lit.int .i64 (-x)).wf = true := wf_mk (by omega) (by omega)
set_option maxHeartbeats 4000000 in
theorem VecMoves_law (x : Int) (y : Int) (z : Int) (v : List Int) (w : World) (hv : v.length = 4) (wx : (Lit.int .i64 x).wf = true) (wy : (Lit.int .i64 y).wf = true) (wz : (Lit.int .i64 z).wf = true) (wv : Wf v) :
    Calls Try.prog 5 #[.int .i64 x, .int .i64 y, .int .i64 z, .agg (cs .i64 v)] w fun e w' => e = .returned (.bool true) ∧ Below w.heap.size w w' := by
  obtain ⟨v0, v1, v2, v3, rfl⟩ := len4 hv
  have WV := Lib.hid wv
  clear wv hv
  by_cases hin : (-524288 ≤ x ∧ x ≤ 524288) ∧ (-524288 ≤ y ∧ y ≤ 524288) ∧ (-524288 ≤ z ∧ z ≤ 524288)
  case neg =>
    rcases in_or_out x (-524288) 524288 with ⟨x1, x2⟩ | x1 | ⟨x1, x2⟩
    · rcases in_or_out y (-524288) 524288 with ⟨y1, y2⟩ | y1 | ⟨y1, y2⟩
      · rcases in_or_out z (-524288) 524288 with ⟨z1, z2⟩ | z1 | ⟨z1, z2⟩
        · exact absurd ⟨⟨x1, x2⟩, ⟨y1, y2⟩, z1, z2⟩ hin
        all_goals
          clear hin
          go_enter Try.func5, Try.ntmps5
          go_wp2_with (go_at_call 20; refine (awake_any _).mono ?_; rintro e w1 ⟨rfl, hb⟩; have hs := hb.size; try simp only [World.size_alloc, World.size_setCell] at hs)
          go_ret
          exact ⟨rfl, by repeat' (first | (with_reducible exact Below.refl _ _) | (with_reducible refine Rd.below_step ?_ (by assumption)) | (with_reducible refine Rd.below_alloc ?_ _) | (with_reducible refine Rd.below_drewN ?_ _) | (with_reducible refine Below.drew ?_) | (with_reducible refine Below.setCell ?_ ?_ _) | (with_reducible refine Rd.below_setRow ?_ ?_ _) | go_size | (simp only [World.size_alloc]; omega) | omega)⟩
      all_goals
        clear hin
        go_enter Try.func5, Try.ntmps5
        go_wp2_with (go_at_call 20; refine (awake_any _).mono ?_; rintro e w1 ⟨rfl, hb⟩; have hs := hb.size; try simp only [World.size_alloc, World.size_setCell] at hs)
        go_ret
        exact ⟨rfl, by repeat' (first | (with_reducible exact Below.refl _ _) | (with_reducible refine Rd.below_step ?_ (by assumption)) | (with_reducible refine Rd.below_alloc ?_ _) | (with_reducible refine Rd.below_drewN ?_ _) | (with_reducible refine Below.drew ?_) | (with_reducible refine Below.setCell ?_ ?_ _) | (with_reducible refine Rd.below_setRow ?_ ?_ _) | go_size | (simp only [World.size_alloc]; omega) | omega)⟩
    all_goals
      clear hin
      go_enter Try.func5, Try.ntmps5
      go_wp2_with (go_at_call 20; refine (awake_any _).mono ?_; rintro e w1 ⟨rfl, hb⟩; have hs := hb.size; try simp only [World.size_alloc, World.size_setCell] at hs)
      go_ret
      exact ⟨rfl, by repeat' (first | (with_reducible exact Below.refl _ _) | (with_reducible refine Rd.below_step ?_ (by assumption)) | (with_reducible refine Rd.below_alloc ?_ _) | (with_reducible refine Rd.below_drewN ?_ _) | (with_reducible refine Below.drew ?_) | (with_reducible refine Below.setCell ?_ ?_ _) | (with_reducible refine Rd.below_setRow ?_ ?_ _) | go_size | (simp only [World.size_alloc]; omega) | omega)⟩
  obtain ⟨⟨x1, x2⟩, ⟨y1, y2⟩, z1, z2⟩ := hin
  by_cases hvn : (-4194304 ≤ v0 ∧ v0 ≤ 4194304) ∧ (-4194304 ≤ v1 ∧ v1 ≤ 4194304) ∧ (-4194304 ≤ v2 ∧ v2 ≤ 4194304)
  case neg =>
    rcases in_or_out v0 (-4194304) 4194304 with ⟨a1, a2⟩ | a1 | ⟨a1, a2⟩
    · rcases in_or_out v1 (-4194304) 4194304 with ⟨b1, b2⟩ | b1 | ⟨b1, b2⟩
      · rcases in_or_out v2 (-4194304) 4194304 with ⟨c1, c2⟩ | c1 | ⟨c1, c2⟩
        · exact absurd ⟨⟨a1, a2⟩, ⟨b1, b2⟩, c1, c2⟩ hvn
        all_goals
          clear hvn
          go_enter Try.func5, Try.ntmps5
          go_wp2
          refine wp_loop_rounds 4 ?_
          iterate 2 (rw [rounds_succ]; go_wp2)
          rw [rounds_succ]; go_wp2_with (go_at_call 20; refine (awake_any _).mono ?_; rintro e w1 ⟨rfl, hb⟩; have hs := hb.size; try simp only [World.size_alloc, World.size_setCell] at hs)
          go_ret
          exact ⟨rfl, by repeat' (first | (with_reducible exact Below.refl _ _) | (with_reducible refine Rd.below_step ?_ (by assumption)) | (with_reducible refine Rd.below_alloc ?_ _) | (with_reducible refine Rd.below_drewN ?_ _) | (with_reducible refine Below.drew ?_) | (with_reducible refine Below.setCell ?_ ?_ _) | (with_reducible refine Rd.below_setRow ?_ ?_ _) | go_size | (simp only [World.size_alloc]; omega) | omega)⟩
      all_goals
        clear hvn
        go_enter Try.func5, Try.ntmps5
        go_wp2
        refine wp_loop_rounds 4 ?_
        rw [rounds_succ]; go_wp2
        rw [rounds_succ]; go_wp2_with (go_at_call 20; refine (awake_any _).mono ?_; rintro e w1 ⟨rfl, hb⟩; have hs := hb.size; try simp only [World.size_alloc, World.size_setCell] at hs)
        go_ret
        exact ⟨rfl, by repeat' (first | (with_reducible exact Below.refl _ _) | (with_reducible refine Rd.below_step ?_ (by assumption)) | (with_reducible refine Rd.below_alloc ?_ _) | (with_reducible refine Rd.below_drewN ?_ _) | (with_reducible refine Below.drew ?_) | (with_reducible refine Below.setCell ?_ ?_ _) | (with_reducible refine Rd.below_setRow ?_ ?_ _) | go_size | (simp only [World.size_alloc]; omega) | omega)⟩
    all_goals
      clear hvn
      go_enter Try.func5, Try.ntmps5
      go_wp2
      refine wp_loop_rounds 4 ?_
      rw [rounds_succ]; go_wp2_with (go_at_call 20; refine (awake_any _).mono ?_; rintro e w1 ⟨rfl, hb⟩; have hs := hb.size; try simp only [World.size_alloc, World.size_setCell] at hs)
      go_ret
      exact ⟨rfl, by repeat' (first | (with_reducible exact Below.refl _ _) | (with_reducible refine Rd.below_step ?_ (by assumption)) | (with_reducible refine Rd.below_alloc ?_ _) | (with_reducible refine Rd.below_drewN ?_ _) | (with_reducible refine Below.drew ?_) | (with_reducible refine Below.setCell ?_ ?_ _) | (with_reducible refine Rd.below_setRow ?_ ?_ _) | go_size | (simp only [World.size_alloc]; omega) | omega)⟩
  obtain ⟨⟨a1, a2⟩, ⟨b1, b2⟩, c1, c2⟩ := hvn
  clear WV
  have M1 := Lib.hid (wf_moveL wx wy wz)
  have M2 := Lib.hid (wf_moveL (wf_neg x1 x2) (wf_neg y1 y2) (wf_neg z1 z2))
  have WX := Lib.hid wx
  have WY := Lib.hid wy
  have WZ := Lib.hid wz
  clear wx wy wz
  have K1 := move_cells (x := x) (y := y) (z := z) (by omega) (by omega) (by omega)
  have K2 := move_cells (x := -x) (y := -y) (z := -z) (by omega) (by omega) (by omega)
  have K3 := move_cells (x := 2 * x) (y := 2 * y) (z := 2 * z) (by omega) (by omega) (by omega)
  have A1 := Lib.hid (show allowV (moveL x y z) = (moveL x y z, 0) by unfold allowV; rw [if_pos K1])
  have A2 := Lib.hid (show allowV (moveL (-x) (-y) (-z)) = (moveL (-x) (-y) (-z), 0) by unfold allowV; rw [if_pos K2])
  have A3 := Lib.hid (show allowV (moveL (2 * x) (2 * y) (2 * z)) = (moveL (2 * x) (2 * y) (2 * z), 0) by unfold allowV; rw [if_pos K3])
  have Q1 := Lib.hid (show mulV (moveL x y z) (moveL (-x) (-y) (-z)) = (oneL, 0) by
    rw [mulV_moves K1 K2 (by rw [show -x + x = 0 by omega, show -y + y = 0 by omega, show -z + z = 0 by omega]; decide), show -x + x = 0 by omega, show -y + y = 0 by omega, show -z + z = 0 by omega]; rfl)
  have Q2 := Lib.hid (show mulV (moveL x y z) (moveL x y z) = (moveL (2 * x) (2 * y) (2 * z), 0) by
    rw [mulV_moves K1 K1 (by rw [show x + x = 2 * x by omega, show y + y = 2 * y by omega, show z + z = 2 * z by omega]; exact K3), show x + x = 2 * x by omega, show y + y = 2 * y by omega, show z + z = 2 * z by omega])
  have N := Lib.hid (show [v0, v1, v2, 65536].all numB = true by simp [num_mk (show -268435456 ≤ v0 by omega) (by omega), num_mk (show -268435456 ≤ v1 by omega) (by omega), num_mk (show -268435456 ≤ v2 by omega) (by omega)]; decide)
  have Q3 := Lib.hid (show applyV (moveL x y z) [v0, v1, v2, 65536] = ([v0 + x, v1 + y, v2 + z, 65536], 0) by rw [applyV_ok K1 N.out, apply_move])
  have WV := Lib.hid (show Wf [v0, v1, v2, 65536] from wfc (wf_mk (by omega) (by omega)) (wfc (wf_mk (by omega) (by omega)) (wfc (wf_mk (by omega) (by omega)) (wfc rfl wfn))))
  have l1 : (moveL x y z).length = 16 := rfl
  have l2 : (moveL (-x) (-y) (-z)).length = 16 := rfl
  have l3 : (moveL (2 * x) (2 * y) (2 * z)).length = 16 := rfl
  have l4 : oneL.length = 16 := rfl
  clear K1 K2 K3
  go_enter Try.func5, Try.ntmps5
  go_wp2
  refine wp_loop_rounds 4 ?_
  iterate 3 (rw [rounds_succ]; go_wp2)
  rw [rounds_succ]
  go_wp2_with fail
  refine (move_any x y z _ WX.out WY.out WZ.out).mono ?_
  rintro e w1 ⟨rfl, hb1⟩
  rw [A1.out]
  have s1 := hb1.size
  try simp only [World.size_alloc] at s1
  have bv1 : blk w1 (w.heap.size) = some (.cells (cs .i64 [v0, v1, v2, 65536]) 25 (0, 0)) := (blk_below hb1 _ (by (try simp only [World.size_alloc]); omega)).trans (blk_alloc_at _ _ _ rfl)
  have L1 : Below w.heap.size w w1 := by repeat' (first | (with_reducible exact Below.refl _ _) | (with_reducible refine Rd.below_step ?_ (by assumption)) | (with_reducible refine Rd.below_alloc ?_ _) | (with_reducible refine Rd.below_drewN ?_ _) | (with_reducible refine Below.drew ?_) | (with_reducible refine Below.setCell ?_ ?_ _) | (with_reducible refine Rd.below_setRow ?_ ?_ _) | go_size | (simp only [World.size_alloc]; omega) | omega)
  clear hb1
  have lbv1 := blk_lt bv1
  go_wp2_with fail
  refine (move_any (-x) (-y) (-z) _ (wf_neg x1 x2) (wf_neg y1 y2) (wf_neg z1 z2)).mono ?_
  rintro e w2 ⟨rfl, hb2⟩
  rw [A2.out]
  have s2 := hb2.size
  try simp only [World.size_alloc] at s2
  have bv2 : blk w2 (w.heap.size) = some (.cells (cs .i64 [v0, v1, v2, 65536]) 25 (0, 0)) := (blk_below hb2 _ (by (try simp only [World.size_alloc]); omega)).trans ((blk_alloc_old _ _ _ (by (try simp only [World.size_alloc]); omega)).trans (bv1))
  have bm2 : blk w2 (w1.heap.size) = some (.cells (cs .i64 (moveL x y z)) 23 (0, 0)) := (blk_below hb2 _ (by (try simp only [World.size_alloc]); omega)).trans (blk_alloc_at _ _ _ rfl)
  have L2 : Below w.heap.size w w2 := by repeat' (first | (with_reducible exact Below.refl _ _) | (with_reducible refine Rd.below_step ?_ (by assumption)) | (with_reducible refine Rd.below_alloc ?_ _) | (with_reducible refine Rd.below_drewN ?_ _) | (with_reducible refine Below.drew ?_) | (with_reducible refine Below.setCell ?_ ?_ _) | (with_reducible refine Rd.below_setRow ?_ ?_ _) | go_size | (simp only [World.size_alloc]; omega) | omega)
  clear bv1 lbv1 hb2 L1
  have lbv2 := blk_lt bv2
  have lbm2 := blk_lt bm2
  go_wp2_with fail
  refine (mul_q Q1 l1 l2 _ M1.out M2.out).mono ?_
  rintro e w3 ⟨rfl, hb3⟩
  have s3 := hb3.size
  try simp only [World.size_alloc] at s3
  have bv3 : blk w3 (w.heap.size) = some (.cells (cs .i64 [v0, v1, v2, 65536]) 25 (0, 0)) := (blk_below hb3 _ (by (try simp only [World.size_alloc]); omega)).trans ((blk_alloc_old _ _ _ (by (try simp only [World.size_alloc]); omega)).trans (bv2))
  have bm3 : blk w3 (w1.heap.size) = some (.cells (cs .i64 (moveL x y z)) 23 (0, 0)) := (blk_below hb3 _ (by (try simp only [World.size_alloc]); omega)).trans ((blk_alloc_old _ _ _ (by (try simp only [World.size_alloc]); omega)).trans (bm2))
  have bn3 : blk w3 (w2.heap.size) = some (.cells (cs .i64 (moveL (-x) (-y) (-z))) 23 (0, 0)) := (blk_below hb3 _ (by (try simp only [World.size_alloc]); omega)).trans (blk_alloc_at _ _ _ rfl)
  have L3 : Below w.heap.size w w3 := by repeat' (first | (with_reducible exact Below.refl _ _) | (with_reducible refine Rd.below_step ?_ (by assumption)) | (with_reducible refine Rd.below_alloc ?_ _) | (with_reducible refine Rd.below_drewN ?_ _) | (with_reducible refine Below.drew ?_) | (with_reducible refine Below.setCell ?_ ?_ _) | (with_reducible refine Rd.below_setRow ?_ ?_ _) | go_size | (simp only [World.size_alloc]; omega) | omega)
  clear bv2 bm2 lbv2 lbm2 hb3 L2
  have lbv3 := blk_lt bv3
  have lbm3 := blk_lt bm3
  have lbn3 := blk_lt bn3
  go_wp2_with fail
  refine (mul_q Q2 l1 l1 _ M1.out M1.out).mono ?_
  rintro e w4 ⟨rfl, hb4⟩
  have s4 := hb4.size
  try simp only [World.size_alloc] at s4
  have bv4 : blk w4 (w.heap.size) = some (.cells (cs .i64 [v0, v1, v2, 65536]) 25 (0, 0)) := (blk_below hb4 _ (by (try simp only [World.size_alloc]); omega)).trans ((blk_alloc_old _ _ _ (by (try simp only [World.size_alloc]); omega)).trans (bv3))
  have bm4 : blk w4 (w1.heap.size) = some (.cells (cs .i64 (moveL x y z)) 23 (0, 0)) := (blk_below hb4 _ (by (try simp only [World.size_alloc]); omega)).trans ((blk_alloc_old _ _ _ (by (try simp only [World.size_alloc]); omega)).trans (bm3))
  have bn4 : blk w4 (w2.heap.size) = some (.cells (cs .i64 (moveL (-x) (-y) (-z))) 23 (0, 0)) := (blk_below hb4 _ (by (try simp only [World.size_alloc]); omega)).trans ((blk_alloc_old _ _ _ (by (try simp only [World.size_alloc]); omega)).trans (bn3))
  have bp4 : blk w4 (w3.heap.size) = some (.cells (cs .i64 oneL) 23 (0, 0)) := (blk_below hb4 _ (by (try simp only [World.size_alloc]); omega)).trans (blk_alloc_at _ _ _ rfl)
  have L4 : Below w.heap.size w w4 := by repeat' (first | (with_reducible exact Below.refl _ _) | (with_reducible refine Rd.below_step ?_ (by assumption)) | (with_reducible refine Rd.below_alloc ?_ _) | (with_reducible refine Rd.below_drewN ?_ _) | (with_reducible refine Below.drew ?_) | (with_reducible refine Below.setCell ?_ ?_ _) | (with_reducible refine Rd.below_setRow ?_ ?_ _) | go_size | (simp only [World.size_alloc]; omega) | omega)
  clear bv3 bm3 bn3 lbv3 lbm3 lbn3 hb4 L3
  have lbv4 := blk_lt bv4
  have lbm4 := blk_lt bm4
  have lbn4 := blk_lt bn4
  have lbp4 := blk_lt bp4
  go_wp2_with fail
  refine (move_any (2 * x) (2 * y) (2 * z) _ (wf_mk (by omega) (by omega)) (wf_mk (by omega) (by omega)) (wf_mk (by omega) (by omega))).mono ?_
  rintro e w5 ⟨rfl, hb5⟩
  rw [A3.out]
  have s5 := hb5.size
  try simp only [World.size_alloc] at s5
  have bv5 : blk w5 (w.heap.size) = some (.cells (cs .i64 [v0, v1, v2, 65536]) 25 (0, 0)) := (blk_below hb5 _ (by (try simp only [World.size_alloc]); omega)).trans ((blk_alloc_old _ _ _ (by (try simp only [World.size_alloc]); omega)).trans (bv4))
  have bm5 : blk w5 (w1.heap.size) = some (.cells (cs .i64 (moveL x y z)) 23 (0, 0)) := (blk_below hb5 _ (by (try simp only [World.size_alloc]); omega)).trans ((blk_alloc_old _ _ _ (by (try simp only [World.size_alloc]); omega)).trans (bm4))
  have bn5 : blk w5 (w2.heap.size) = some (.cells (cs .i64 (moveL (-x) (-y) (-z))) 23 (0, 0)) := (blk_below hb5 _ (by (try simp only [World.size_alloc]); omega)).trans ((blk_alloc_old _ _ _ (by (try simp only [World.size_alloc]); omega)).trans (bn4))
  have bp5 : blk w5 (w3.heap.size) = some (.cells (cs .i64 oneL) 23 (0, 0)) := (blk_below hb5 _ (by (try simp only [World.size_alloc]); omega)).trans ((blk_alloc_old _ _ _ (by (try simp only [World.size_alloc]); omega)).trans (bp4))
  have bq5 : blk w5 (w4.heap.size) = some (.cells (cs .i64 (moveL (2 * x) (2 * y) (2 * z))) 23 (0, 0)) := (blk_below hb5 _ (by (try simp only [World.size_alloc]); omega)).trans (blk_alloc_at _ _ _ rfl)
  have L5 : Below w.heap.size w w5 := by repeat' (first | (with_reducible exact Below.refl _ _) | (with_reducible refine Rd.below_step ?_ (by assumption)) | (with_reducible refine Rd.below_alloc ?_ _) | (with_reducible refine Rd.below_drewN ?_ _) | (with_reducible refine Below.drew ?_) | (with_reducible refine Below.setCell ?_ ?_ _) | (with_reducible refine Rd.below_setRow ?_ ?_ _) | go_size | (simp only [World.size_alloc]; omega) | omega)
  clear bv4 bm4 bn4 bp4 lbv4 lbm4 lbn4 lbp4 hb5 L4
  have lbv5 := blk_lt bv5
  have lbm5 := blk_lt bm5
  have lbn5 := blk_lt bn5
  have lbp5 := blk_lt bp5
  have lbq5 := blk_lt bq5
  go_wp2_with fail
  refine (apply_q Q3 l1 rfl _ M1.out WV.out).mono ?_
  rintro e w6 ⟨rfl, hb6⟩
  have s6 := hb6.size
  try simp only [World.size_alloc] at s6
  have bv6 : blk w6 (w.heap.size) = some (.cells (cs .i64 [v0, v1, v2, 65536]) 25 (0, 0)) := (blk_below hb6 _ (by (try simp only [World.size_alloc]); omega)).trans ((blk_alloc_old _ _ _ (by (try simp only [World.size_alloc]); omega)).trans (bv5))
  have bm6 : blk w6 (w1.heap.size) = some (.cells (cs .i64 (moveL x y z)) 23 (0, 0)) := (blk_below hb6 _ (by (try simp only [World.size_alloc]); omega)).trans ((blk_alloc_old _ _ _ (by (try simp only [World.size_alloc]); omega)).trans (bm5))
  have bn6 : blk w6 (w2.heap.size) = some (.cells (cs .i64 (moveL (-x) (-y) (-z))) 23 (0, 0)) := (blk_below hb6 _ (by (try simp only [World.size_alloc]); omega)).trans ((blk_alloc_old _ _ _ (by (try simp only [World.size_alloc]); omega)).trans (bn5))
  have bp6 : blk w6 (w3.heap.size) = some (.cells (cs .i64 oneL) 23 (0, 0)) := (blk_below hb6 _ (by (try simp only [World.size_alloc]); omega)).trans ((blk_alloc_old _ _ _ (by (try simp only [World.size_alloc]); omega)).trans (bp5))
  have bq6 : blk w6 (w4.heap.size) = some (.cells (cs .i64 (moveL (2 * x) (2 * y) (2 * z))) 23 (0, 0)) := (blk_below hb6 _ (by (try simp only [World.size_alloc]); omega)).trans ((blk_alloc_old _ _ _ (by (try simp only [World.size_alloc]); omega)).trans (bq5))
  have br6 : blk w6 (w5.heap.size) = some (.cells (cs .i64 (moveL (2 * x) (2 * y) (2 * z))) 23 (0, 0)) := (blk_below hb6 _ (by (try simp only [World.size_alloc]); omega)).trans (blk_alloc_at _ _ _ rfl)
  have L6 : Below w.heap.size w w6 := by repeat' (first | (with_reducible exact Below.refl _ _) | (with_reducible refine Rd.below_step ?_ (by assumption)) | (with_reducible refine Rd.below_alloc ?_ _) | (with_reducible refine Rd.below_drewN ?_ _) | (with_reducible refine Below.drew ?_) | (with_reducible refine Below.setCell ?_ ?_ _) | (with_reducible refine Rd.below_setRow ?_ ?_ _) | go_size | (simp only [World.size_alloc]; omega) | omega)
  clear bv5 bm5 bn5 bp5 bq5 lbv5 lbm5 lbn5 lbp5 lbq5 hb6 L5
  have lbv6 := blk_lt bv6
  have lbm6 := blk_lt bm6
  have lbn6 := blk_lt bn6
  have lbp6 := blk_lt bp6
  have lbq6 := blk_lt bq6
  have lbr6 := blk_lt br6
  have rv0 : IntKind.i64.wrap (v0 + x) = v0 + x := IntWalk.i64_in _ (by omega)
  have rv1 : IntKind.i64.wrap (v1 + y) = v1 + y := IntWalk.i64_in _ (by omega)
  have rv2 : IntKind.i64.wrap (v2 + z) = v2 + z := IntWalk.i64_in _ (by omega)
  go_upto_region 15 with (fail)
  refine Rd.name_world ?_
  intro w7 hW
  have bv7 : blk w7 (w.heap.size) = some (.cells (cs .i64 [v0, v1, v2, 65536]) 25 (0, 0)) := by rw [hW]; exact (blk_alloc_old _ _ _ (by (try simp only [World.size_alloc]); omega)).trans (bv6)
  have bm7 : blk w7 (w1.heap.size) = some (.cells (cs .i64 (moveL x y z)) 23 (0, 0)) := by rw [hW]; exact (blk_alloc_old _ _ _ (by (try simp only [World.size_alloc]); omega)).trans (bm6)
  have bn7 : blk w7 (w2.heap.size) = some (.cells (cs .i64 (moveL (-x) (-y) (-z))) 23 (0, 0)) := by rw [hW]; exact (blk_alloc_old _ _ _ (by (try simp only [World.size_alloc]); omega)).trans (bn6)
  have bp7 : blk w7 (w3.heap.size) = some (.cells (cs .i64 oneL) 23 (0, 0)) := by rw [hW]; exact (blk_alloc_old _ _ _ (by (try simp only [World.size_alloc]); omega)).trans (bp6)
  have bq7 : blk w7 (w4.heap.size) = some (.cells (cs .i64 (moveL (2 * x) (2 * y) (2 * z))) 23 (0, 0)) := by rw [hW]; exact (blk_alloc_old _ _ _ (by (try simp only [World.size_alloc]); omega)).trans (bq6)
  have br7 : blk w7 (w5.heap.size) = some (.cells (cs .i64 (moveL (2 * x) (2 * y) (2 * z))) 23 (0, 0)) := by rw [hW]; exact (blk_alloc_old _ _ _ (by (try simp only [World.size_alloc]); omega)).trans (br6)
  have ba7 : blk w7 (w6.heap.size) = some (.cells (cs .i64 [v0 + x, v1 + y, v2 + z, 65536]) 25 (0, 0)) := by rw [hW]; exact blk_alloc_at _ _ _ rfl
  have L7 : Below w.heap.size w w7 := by rw [hW]; repeat' (first | (with_reducible exact Below.refl _ _) | (with_reducible refine Rd.below_step ?_ (by assumption)) | (with_reducible refine Rd.below_alloc ?_ _) | (with_reducible refine Rd.below_drewN ?_ _) | (with_reducible refine Below.drew ?_) | (with_reducible refine Below.setCell ?_ ?_ _) | (with_reducible refine Rd.below_setRow ?_ ?_ _) | go_size | (simp only [World.size_alloc]; omega) | omega)
  have lbv7 := blk_lt bv7
  have lbm7 := blk_lt bm7
  have lbn7 := blk_lt bn7
  have lbp7 := blk_lt bp7
  have lbq7 := blk_lt bq7
  have lbr7 := blk_lt br7
  have lba7 := blk_lt ba7
  clear bv6 bm6 bn6 bp6 bq6 br6 lbv6 lbm6 lbn6 lbp6 lbq6 lbr6 hW L6
  have cc0 : w7.cell? ⟨w.heap.size, 0, none⟩ = some (.int .i64 v0) := by rw [blk_cell bv7]; rfl
  have cg0 := Go.cell_regrown cc0
  have cc1 : w7.cell? ⟨w.heap.size, 1, none⟩ = some (.int .i64 v1) := by rw [blk_cell bv7]; rfl
  have cg1 := Go.cell_regrown cc1
  have cc2 : w7.cell? ⟨w.heap.size, 2, none⟩ = some (.int .i64 v2) := by rw [blk_cell bv7]; rfl
  have cg2 := Go.cell_regrown cc2
  refine wp_region_quiet_below (by kernel_rfl) (by kernel_rfl) ?_
  (try simp only [List.append_eq, List.cons_append, List.nil_append])
  repeat (go_big_quiet_step ((first | (with_reducible exact Calls.regrown_of (one_any _)) | (with_reducible exact Calls.regrown_of (awake_any _)))))
  refine wpQuiet_nil ?_
  intro w8 hU
  have hb8 := Rd.below_of_regrown hU
  have s8 := hb8.size
  have bv8 := (blk_below hb8 _ lbv7).trans bv7
  have bm8 := (blk_below hb8 _ lbm7).trans bm7
  have bn8 := (blk_below hb8 _ lbn7).trans bn7
  have bp8 := (blk_below hb8 _ lbp7).trans bp7
  have bq8 := (blk_below hb8 _ lbq7).trans bq7
  have br8 := (blk_below hb8 _ lbr7).trans br7
  have ba8 := (blk_below hb8 _ lba7).trans ba7
  have L8 : Below w.heap.size w w8 := by repeat' (first | (with_reducible exact Below.refl _ _) | (with_reducible refine Rd.below_step ?_ (by assumption)) | (with_reducible refine Rd.below_alloc ?_ _) | (with_reducible refine Rd.below_drewN ?_ _) | (with_reducible refine Below.drew ?_) | (with_reducible refine Below.setCell ?_ ?_ _) | (with_reducible refine Rd.below_setRow ?_ ?_ _) | go_size | (simp only [World.size_alloc]; omega) | omega)
  clear hU bv7 bm7 bn7 bp7 bq7 br7 ba7 lbv7 lbm7 lbn7 lbp7 lbq7 lbr7 lba7 L7 hb8
  have lbv8 := blk_lt bv8
  have lbm8 := blk_lt bm8
  have lbn8 := blk_lt bn8
  have lbp8 := blk_lt bp8
  have lbq8 := blk_lt bq8
  have lbr8 := blk_lt br8
  have lba8 := blk_lt ba8
  go_wp2_with fail
  go_ret
  exact ⟨rfl, by repeat' (first | (with_reducible exact Below.refl _ _) | (with_reducible refine Rd.below_step ?_ (by assumption)) | (with_reducible refine Rd.below_alloc ?_ _) | (with_reducible refine Rd.below_drewN ?_ _) | (with_reducible refine Below.drew ?_) | (with_reducible refine Below.setCell ?_ ?_ _) | (with_reducible refine Rd.below_setRow ?_ ?_ _) | go_size | (simp only [World.size_alloc]; omega) | omega)⟩
theorem VecMoves_walk (a0 : Int) (a1 : Int) (a2 : Int) (a3_0 : Int) (a3_1 : Int) (a3_2 : Int) (a3_3 : Int) (w : World) (w0 : (Lit.int .i64 a0).wf = true) (w1 : (Lit.int .i64 a1).wf = true) (w2 : (Lit.int .i64 a2).wf = true) (w3_0 : (Lit.int .i64 a3_0).wf = true) (w3_1 : (Lit.int .i64 a3_1).wf = true) (w3_2 : (Lit.int .i64 a3_2).wf = true) (w3_3 : (Lit.int .i64 a3_3).wf = true) :
    Calls Try.prog 5 #[.int .i64 a0, .int .i64 a1, .int .i64 a2, .agg #[.int .i64 a3_0, .int .i64 a3_1, .int .i64 a3_2, .int .i64 a3_3]] w fun e w' => e = .returned (.bool true) ∧ Below w.heap.size w w' := by
  exact VecMoves_law a0 a1 a2 [a3_0, a3_1, a3_2, a3_3] w rfl w0 w1 w2 (wfc w3_0 (wfc w3_1 (wfc w3_2 (wfc w3_3 wfn))))

end Go.Proofs.Ytgfdmjicokhheaa.VecM
