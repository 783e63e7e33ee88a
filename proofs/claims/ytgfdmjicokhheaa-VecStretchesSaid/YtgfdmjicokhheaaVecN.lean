/-
  The law of package vec: what is stretched.
-/
import Derived.Test.YtgfdmjicokhheaaVecM
namespace Go.Proofs.Ytgfdmjicokhheaa.VecN
open Go.RowKit FixA Num Rd Go.Proofs.Ytgfdmjicokhheaa.Row VecA VecB VecC VecD VecE VecF VecG VecK VecM
set_option linter.unusedVariables false
set_option linter.unusedSimpArgs false
set_option maxRecDepth 10000
attribute [local go_sem ↓] load_mat load_vec store_mat store_vec
attribute [local go_sem] index_mat index_vec run_load_mat run_load_vec run_store_mat run_store_vec rowLoad_eq rowStore_eq blk_alloc_at blk_alloc_old blk_drew blk_drewN blk_set_far blk_set_far' blk_grow setRow_alloc_at setRow_alloc_old setRow_drew setRow_drewN all_map one_int



attribute [local go_sem] eq_mat eq_vec eq_vec_lit
set_option maxHeartbeats 4000000 in
theorem VecStretches_law (x : Int) (y : Int) (z : Int) (v : List Int) (w : World) (hv : v.length = 4) (wx : (Lit.int .i64 x).wf = true) (wy : (Lit.int .i64 y).wf = true) (wz : (Lit.int .i64 z).wf = true) (wv : Wf v) :
    Calls Try.prog 7 #[.int .i64 x, .int .i64 y, .int .i64 z, .agg (cs .i64 v)] w fun e w' => e = .returned (.bool true) ∧ Below w.heap.size w w' := by
  obtain ⟨v0, v1, v2, v3, rfl⟩ := len4 hv
  clear wv hv wx wy wz
  by_cases hvn : (-67108864 ≤ v0 ∧ v0 ≤ 67108864) ∧ (-67108864 ≤ v1 ∧ v1 ≤ 67108864) ∧ (-67108864 ≤ v2 ∧ v2 ≤ 67108864) ∧ (-67108864 ≤ v3 ∧ v3 ≤ 67108864)
  case neg =>
    rcases in_or_out v0 (-67108864) 67108864 with ⟨a1, a2⟩ | a1 | ⟨a1, a2⟩
    · rcases in_or_out v1 (-67108864) 67108864 with ⟨b1, b2⟩ | b1 | ⟨b1, b2⟩
      · rcases in_or_out v2 (-67108864) 67108864 with ⟨c1, c2⟩ | c1 | ⟨c1, c2⟩
        · rcases in_or_out v3 (-67108864) 67108864 with ⟨d1, d2⟩ | d1 | ⟨d1, d2⟩
          · exact absurd ⟨⟨a1, a2⟩, ⟨b1, b2⟩, ⟨c1, c2⟩, ⟨d1, d2⟩⟩ hvn
          all_goals
            clear hvn
            go_enter Try.func7, Try.ntmps7
            go_wp2
            refine wp_loop_rounds 5 ?_
            iterate 3 (rw [rounds_succ]; go_wp2)
            rw [rounds_succ]; go_wp2_with (go_at_call 20; refine (awake_any _).mono ?_; rintro e w1 ⟨rfl, hb⟩; have hs := hb.size; try simp only [World.size_alloc, World.size_setCell] at hs)
            go_ret
            exact ⟨rfl, by repeat' (first | (with_reducible exact Below.refl _ _) | (with_reducible refine Rd.below_step ?_ (by assumption)) | (with_reducible refine Rd.below_alloc ?_ _) | (with_reducible refine Rd.below_drewN ?_ _) | (with_reducible refine Below.drew ?_) | (with_reducible refine Below.setCell ?_ ?_ _) | (with_reducible refine Rd.below_setRow ?_ ?_ _) | go_size | (simp only [World.size_alloc]; omega) | omega)⟩
        all_goals
          clear hvn
          go_enter Try.func7, Try.ntmps7
          go_wp2
          refine wp_loop_rounds 5 ?_
          iterate 2 (rw [rounds_succ]; go_wp2)
          rw [rounds_succ]; go_wp2_with (go_at_call 20; refine (awake_any _).mono ?_; rintro e w1 ⟨rfl, hb⟩; have hs := hb.size; try simp only [World.size_alloc, World.size_setCell] at hs)
          go_ret
          exact ⟨rfl, by repeat' (first | (with_reducible exact Below.refl _ _) | (with_reducible refine Rd.below_step ?_ (by assumption)) | (with_reducible refine Rd.below_alloc ?_ _) | (with_reducible refine Rd.below_drewN ?_ _) | (with_reducible refine Below.drew ?_) | (with_reducible refine Below.setCell ?_ ?_ _) | (with_reducible refine Rd.below_setRow ?_ ?_ _) | go_size | (simp only [World.size_alloc]; omega) | omega)⟩
      all_goals
        clear hvn
        go_enter Try.func7, Try.ntmps7
        go_wp2
        refine wp_loop_rounds 5 ?_
        iterate 1 (rw [rounds_succ]; go_wp2)
        rw [rounds_succ]; go_wp2_with (go_at_call 20; refine (awake_any _).mono ?_; rintro e w1 ⟨rfl, hb⟩; have hs := hb.size; try simp only [World.size_alloc, World.size_setCell] at hs)
        go_ret
        exact ⟨rfl, by repeat' (first | (with_reducible exact Below.refl _ _) | (with_reducible refine Rd.below_step ?_ (by assumption)) | (with_reducible refine Rd.below_alloc ?_ _) | (with_reducible refine Rd.below_drewN ?_ _) | (with_reducible refine Below.drew ?_) | (with_reducible refine Below.setCell ?_ ?_ _) | (with_reducible refine Rd.below_setRow ?_ ?_ _) | go_size | (simp only [World.size_alloc]; omega) | omega)⟩
    all_goals
      clear hvn
      go_enter Try.func7, Try.ntmps7
      go_wp2
      refine wp_loop_rounds 5 ?_
      rw [rounds_succ]; go_wp2_with (go_at_call 20; refine (awake_any _).mono ?_; rintro e w1 ⟨rfl, hb⟩; have hs := hb.size; try simp only [World.size_alloc, World.size_setCell] at hs)
      go_ret
      exact ⟨rfl, by repeat' (first | (with_reducible exact Below.refl _ _) | (with_reducible refine Rd.below_step ?_ (by assumption)) | (with_reducible refine Rd.below_alloc ?_ _) | (with_reducible refine Rd.below_drewN ?_ _) | (with_reducible refine Below.drew ?_) | (with_reducible refine Below.setCell ?_ ?_ _) | (with_reducible refine Rd.below_setRow ?_ ?_ _) | go_size | (simp only [World.size_alloc]; omega) | omega)⟩
  obtain ⟨⟨a1, a2⟩, ⟨b1, b2⟩, ⟨c1, c2⟩, d1, d2⟩ := hvn
  by_cases hvn : (-8 ≤ x ∧ x ≤ 8) ∧ (-8 ≤ y ∧ y ≤ 8) ∧ (-8 ≤ z ∧ z ≤ 8)
  case neg =>
    rcases in_or_out x (-8) 8 with ⟨x1, x2⟩ | x1 | ⟨x1, x2⟩
    · rcases in_or_out y (-8) 8 with ⟨y1, y2⟩ | y1 | ⟨y1, y2⟩
      · rcases in_or_out z (-8) 8 with ⟨z1, z2⟩ | z1 | ⟨z1, z2⟩
        · exact absurd ⟨⟨x1, x2⟩, ⟨y1, y2⟩, ⟨z1, z2⟩⟩ hvn
        all_goals
          clear hvn
          go_enter Try.func7, Try.ntmps7
          go_wp2
          refine wp_loop_rounds 5 ?_
          iterate 4 (rw [rounds_succ]; go_wp2)
          rw [rounds_succ]; go_wp2_with (go_at_call 20; refine (awake_any _).mono ?_; rintro e w1 ⟨rfl, hb⟩; have hs := hb.size; try simp only [World.size_alloc, World.size_setCell] at hs)
          go_ret
          exact ⟨rfl, by repeat' (first | (with_reducible exact Below.refl _ _) | (with_reducible refine Rd.below_step ?_ (by assumption)) | (with_reducible refine Rd.below_alloc ?_ _) | (with_reducible refine Rd.below_drewN ?_ _) | (with_reducible refine Below.drew ?_) | (with_reducible refine Below.setCell ?_ ?_ _) | (with_reducible refine Rd.below_setRow ?_ ?_ _) | go_size | (simp only [World.size_alloc]; omega) | omega)⟩
      all_goals
        clear hvn
        go_enter Try.func7, Try.ntmps7
        go_wp2
        refine wp_loop_rounds 5 ?_
        iterate 4 (rw [rounds_succ]; go_wp2)
        rw [rounds_succ]; go_wp2_with (go_at_call 20; refine (awake_any _).mono ?_; rintro e w1 ⟨rfl, hb⟩; have hs := hb.size; try simp only [World.size_alloc, World.size_setCell] at hs)
        go_ret
        exact ⟨rfl, by repeat' (first | (with_reducible exact Below.refl _ _) | (with_reducible refine Rd.below_step ?_ (by assumption)) | (with_reducible refine Rd.below_alloc ?_ _) | (with_reducible refine Rd.below_drewN ?_ _) | (with_reducible refine Below.drew ?_) | (with_reducible refine Below.setCell ?_ ?_ _) | (with_reducible refine Rd.below_setRow ?_ ?_ _) | go_size | (simp only [World.size_alloc]; omega) | omega)⟩
    all_goals
      clear hvn
      go_enter Try.func7, Try.ntmps7
      go_wp2
      refine wp_loop_rounds 5 ?_
      iterate 4 (rw [rounds_succ]; go_wp2)
      rw [rounds_succ]; go_wp2_with (go_at_call 20; refine (awake_any _).mono ?_; rintro e w1 ⟨rfl, hb⟩; have hs := hb.size; try simp only [World.size_alloc, World.size_setCell] at hs)
      go_ret
      exact ⟨rfl, by repeat' (first | (with_reducible exact Below.refl _ _) | (with_reducible refine Rd.below_step ?_ (by assumption)) | (with_reducible refine Rd.below_alloc ?_ _) | (with_reducible refine Rd.below_drewN ?_ _) | (with_reducible refine Below.drew ?_) | (with_reducible refine Below.setCell ?_ ?_ _) | (with_reducible refine Rd.below_setRow ?_ ?_ _) | go_size | (simp only [World.size_alloc]; omega) | omega)⟩
  obtain ⟨⟨x1, x2⟩, ⟨y1, y2⟩, z1, z2⟩ := hvn
  have K1 := stretch_cells (x := x * 65536) (y := y * 65536) (z := z * 65536) (by omega) (by omega) (by omega)
  have M1 := Lib.hid (wf_of_cells K1)
  have A1 := Lib.hid (show allowV (stretchL (x * 65536) (y * 65536) (z * 65536)) = (stretchL (x * 65536) (y * 65536) (z * 65536), 0) by unfold allowV; rw [if_pos K1])
  have A2 := Lib.hid (show allowV (stretchL 131072 131072 131072) = (stretchL 131072 131072 131072, 0) by decide)
  have A3 := Lib.hid (show allowV (stretchL 32768 32768 32768) = (stretchL 32768 32768 32768, 0) by decide)
  have Q1 := Lib.hid (show mulV (stretchL 131072 131072 131072) (stretchL 32768 32768 32768) = (oneL, 0) by decide)
  have N := Lib.hid (show [v0, v1, v2, v3].all numB = true by simp [num_mk (show -268435456 ≤ v0 by omega) (by omega), num_mk (show -268435456 ≤ v1 by omega) (by omega), num_mk (show -268435456 ≤ v2 by omega) (by omega), num_mk (show -268435456 ≤ v3 by omega) (by omega)])
  have Q3 := Lib.hid (show applyV (stretchL (x * 65536) (y * 65536) (z * 65536)) [v0, v1, v2, v3] = ([x * v0, y * v1, z * v2, v3], 0) by rw [applyV_ok K1 N.out, apply_stretch])
  have WV := Lib.hid (show Wf [v0, v1, v2, v3] from wfc (wf_mk (by omega) (by omega)) (wfc (wf_mk (by omega) (by omega)) (wfc (wf_mk (by omega) (by omega)) (wfc (wf_mk (by omega) (by omega)) wfn))))
  have l1 : (stretchL (x * 65536) (y * 65536) (z * 65536)).length = 16 := rfl
  have l2 : (stretchL 131072 131072 131072).length = 16 := rfl
  have l3 : (stretchL 32768 32768 32768).length = 16 := rfl
  have l4 : oneL.length = 16 := rfl
  obtain ⟨e1, e2⟩ := prod_bd x1 x2 a1 a2
  obtain ⟨f1, f2⟩ := prod_bd y1 y2 b1 b2
  obtain ⟨g1, g2⟩ := prod_bd z1 z2 c1 c2
  clear K1
  go_enter Try.func7, Try.ntmps7
  go_wp2
  refine wp_loop_rounds 5 ?_
  iterate 4 (rw [rounds_succ]; go_wp2)
  rw [rounds_succ]
  go_wp2_with fail
  refine (stretch_any (x * 65536) (y * 65536) (z * 65536) _ (wf_mk (by omega) (by omega)) (wf_mk (by omega) (by omega)) (wf_mk (by omega) (by omega))).mono ?_
  rintro e w1 ⟨rfl, hb1⟩
  rw [A1.out]
  have s1 := hb1.size
  try simp only [World.size_alloc] at s1
  have bv1 : blk w1 (w.heap.size) = some (.cells (cs .i64 [v0, v1, v2, v3]) 25 (0, 0)) := (blk_below hb1 _ (by (try simp only [World.size_alloc]); omega)).trans (blk_alloc_at _ _ _ rfl)
  have L1 : Below w.heap.size w w1 := by repeat' (first | (with_reducible exact Below.refl _ _) | (with_reducible refine Rd.below_step ?_ (by assumption)) | (with_reducible refine Rd.below_alloc ?_ _) | (with_reducible refine Rd.below_drewN ?_ _) | (with_reducible refine Below.drew ?_) | (with_reducible refine Below.setCell ?_ ?_ _) | (with_reducible refine Rd.below_setRow ?_ ?_ _) | go_size | (simp only [World.size_alloc]; omega) | omega)
  clear hb1
  have lbv1 := blk_lt bv1
  go_wp2_with fail
  refine (apply_q Q3 l1 rfl _ M1.out WV.out).mono ?_
  rintro e w2 ⟨rfl, hb2⟩
  have s2 := hb2.size
  try simp only [World.size_alloc] at s2
  have bv2 : blk w2 (w.heap.size) = some (.cells (cs .i64 [v0, v1, v2, v3]) 25 (0, 0)) := (blk_below hb2 _ (by (try simp only [World.size_alloc]); omega)).trans ((blk_alloc_old _ _ _ (by (try simp only [World.size_alloc]); omega)).trans (bv1))
  have bm2 : blk w2 (w1.heap.size) = some (.cells (cs .i64 (stretchL (x * 65536) (y * 65536) (z * 65536))) 23 (0, 0)) := (blk_below hb2 _ (by (try simp only [World.size_alloc]); omega)).trans (blk_alloc_at _ _ _ rfl)
  have L2 : Below w.heap.size w w2 := by repeat' (first | (with_reducible exact Below.refl _ _) | (with_reducible refine Rd.below_step ?_ (by assumption)) | (with_reducible refine Rd.below_alloc ?_ _) | (with_reducible refine Rd.below_drewN ?_ _) | (with_reducible refine Below.drew ?_) | (with_reducible refine Below.setCell ?_ ?_ _) | (with_reducible refine Rd.below_setRow ?_ ?_ _) | go_size | (simp only [World.size_alloc]; omega) | omega)
  clear bv1 lbv1 hb2 L1
  have lbv2 := blk_lt bv2
  have lbm2 := blk_lt bm2
  go_wp2_with fail
  refine (stretch_any 131072 131072 131072 _ rfl rfl rfl).mono ?_
  rintro e w3 ⟨rfl, hb3⟩
  rw [A2.out]
  have s3 := hb3.size
  try simp only [World.size_alloc] at s3
  have bv3 : blk w3 (w.heap.size) = some (.cells (cs .i64 [v0, v1, v2, v3]) 25 (0, 0)) := (blk_below hb3 _ (by (try simp only [World.size_alloc]); omega)).trans ((blk_alloc_old _ _ _ (by (try simp only [World.size_alloc]); omega)).trans (bv2))
  have bm3 : blk w3 (w1.heap.size) = some (.cells (cs .i64 (stretchL (x * 65536) (y * 65536) (z * 65536))) 23 (0, 0)) := (blk_below hb3 _ (by (try simp only [World.size_alloc]); omega)).trans ((blk_alloc_old _ _ _ (by (try simp only [World.size_alloc]); omega)).trans (bm2))
  have ba3 : blk w3 (w2.heap.size) = some (.cells (cs .i64 [x * v0, y * v1, z * v2, v3]) 25 (0, 0)) := (blk_below hb3 _ (by (try simp only [World.size_alloc]); omega)).trans (blk_alloc_at _ _ _ rfl)
  have L3 : Below w.heap.size w w3 := by repeat' (first | (with_reducible exact Below.refl _ _) | (with_reducible refine Rd.below_step ?_ (by assumption)) | (with_reducible refine Rd.below_alloc ?_ _) | (with_reducible refine Rd.below_drewN ?_ _) | (with_reducible refine Below.drew ?_) | (with_reducible refine Below.setCell ?_ ?_ _) | (with_reducible refine Rd.below_setRow ?_ ?_ _) | go_size | (simp only [World.size_alloc]; omega) | omega)
  clear bv2 bm2 lbv2 lbm2 hb3 L2
  have lbv3 := blk_lt bv3
  have lbm3 := blk_lt bm3
  have lba3 := blk_lt ba3
  go_wp2_with fail
  refine (stretch_any 32768 32768 32768 _ rfl rfl rfl).mono ?_
  rintro e w4 ⟨rfl, hb4⟩
  rw [A3.out]
  have s4 := hb4.size
  try simp only [World.size_alloc] at s4
  have bv4 : blk w4 (w.heap.size) = some (.cells (cs .i64 [v0, v1, v2, v3]) 25 (0, 0)) := (blk_below hb4 _ (by (try simp only [World.size_alloc]); omega)).trans ((blk_alloc_old _ _ _ (by (try simp only [World.size_alloc]); omega)).trans (bv3))
  have bm4 : blk w4 (w1.heap.size) = some (.cells (cs .i64 (stretchL (x * 65536) (y * 65536) (z * 65536))) 23 (0, 0)) := (blk_below hb4 _ (by (try simp only [World.size_alloc]); omega)).trans ((blk_alloc_old _ _ _ (by (try simp only [World.size_alloc]); omega)).trans (bm3))
  have ba4 : blk w4 (w2.heap.size) = some (.cells (cs .i64 [x * v0, y * v1, z * v2, v3]) 25 (0, 0)) := (blk_below hb4 _ (by (try simp only [World.size_alloc]); omega)).trans ((blk_alloc_old _ _ _ (by (try simp only [World.size_alloc]); omega)).trans (ba3))
  have bn4 : blk w4 (w3.heap.size) = some (.cells (cs .i64 (stretchL 131072 131072 131072)) 23 (0, 0)) := (blk_below hb4 _ (by (try simp only [World.size_alloc]); omega)).trans (blk_alloc_at _ _ _ rfl)
  have L4 : Below w.heap.size w w4 := by repeat' (first | (with_reducible exact Below.refl _ _) | (with_reducible refine Rd.below_step ?_ (by assumption)) | (with_reducible refine Rd.below_alloc ?_ _) | (with_reducible refine Rd.below_drewN ?_ _) | (with_reducible refine Below.drew ?_) | (with_reducible refine Below.setCell ?_ ?_ _) | (with_reducible refine Rd.below_setRow ?_ ?_ _) | go_size | (simp only [World.size_alloc]; omega) | omega)
  clear bv3 bm3 ba3 lbv3 lbm3 lba3 hb4 L3
  have lbv4 := blk_lt bv4
  have lbm4 := blk_lt bm4
  have lba4 := blk_lt ba4
  have lbn4 := blk_lt bn4
  go_wp2_with fail
  refine (mul_q Q1 l2 l3 _ (by decide) (by decide)).mono ?_
  rintro e w5 ⟨rfl, hb5⟩
  have s5 := hb5.size
  try simp only [World.size_alloc] at s5
  have bv5 : blk w5 (w.heap.size) = some (.cells (cs .i64 [v0, v1, v2, v3]) 25 (0, 0)) := (blk_below hb5 _ (by (try simp only [World.size_alloc]); omega)).trans ((blk_alloc_old _ _ _ (by (try simp only [World.size_alloc]); omega)).trans (bv4))
  have bm5 : blk w5 (w1.heap.size) = some (.cells (cs .i64 (stretchL (x * 65536) (y * 65536) (z * 65536))) 23 (0, 0)) := (blk_below hb5 _ (by (try simp only [World.size_alloc]); omega)).trans ((blk_alloc_old _ _ _ (by (try simp only [World.size_alloc]); omega)).trans (bm4))
  have ba5 : blk w5 (w2.heap.size) = some (.cells (cs .i64 [x * v0, y * v1, z * v2, v3]) 25 (0, 0)) := (blk_below hb5 _ (by (try simp only [World.size_alloc]); omega)).trans ((blk_alloc_old _ _ _ (by (try simp only [World.size_alloc]); omega)).trans (ba4))
  have bn5 : blk w5 (w3.heap.size) = some (.cells (cs .i64 (stretchL 131072 131072 131072)) 23 (0, 0)) := (blk_below hb5 _ (by (try simp only [World.size_alloc]); omega)).trans ((blk_alloc_old _ _ _ (by (try simp only [World.size_alloc]); omega)).trans (bn4))
  have bo5 : blk w5 (w4.heap.size) = some (.cells (cs .i64 (stretchL 32768 32768 32768)) 23 (0, 0)) := (blk_below hb5 _ (by (try simp only [World.size_alloc]); omega)).trans (blk_alloc_at _ _ _ rfl)
  have L5 : Below w.heap.size w w5 := by repeat' (first | (with_reducible exact Below.refl _ _) | (with_reducible refine Rd.below_step ?_ (by assumption)) | (with_reducible refine Rd.below_alloc ?_ _) | (with_reducible refine Rd.below_drewN ?_ _) | (with_reducible refine Below.drew ?_) | (with_reducible refine Below.setCell ?_ ?_ _) | (with_reducible refine Rd.below_setRow ?_ ?_ _) | go_size | (simp only [World.size_alloc]; omega) | omega)
  clear bv4 bm4 ba4 bn4 lbv4 lbm4 lba4 lbn4 hb5 L4
  have lbv5 := blk_lt bv5
  have lbm5 := blk_lt bm5
  have lba5 := blk_lt ba5
  have lbn5 := blk_lt bn5
  have lbo5 := blk_lt bo5
  have rx : IntKind.i64.wrap (x * v0) = x * v0 := IntWalk.i64_in _ (by omega)
  have ry : IntKind.i64.wrap (y * v1) = y * v1 := IntWalk.i64_in _ (by omega)
  have rz : IntKind.i64.wrap (z * v2) = z * v2 := IntWalk.i64_in _ (by omega)
  go_upto_region 13 with (fail)
  refine Rd.name_world ?_
  intro w6 hW
  have bv6 : blk w6 (w.heap.size) = some (.cells (cs .i64 [v0, v1, v2, v3]) 25 (0, 0)) := by rw [hW]; exact (blk_alloc_old _ _ _ (by (try simp only [World.size_alloc]); omega)).trans (bv5)
  have bm6 : blk w6 (w1.heap.size) = some (.cells (cs .i64 (stretchL (x * 65536) (y * 65536) (z * 65536))) 23 (0, 0)) := by rw [hW]; exact (blk_alloc_old _ _ _ (by (try simp only [World.size_alloc]); omega)).trans (bm5)
  have ba6 : blk w6 (w2.heap.size) = some (.cells (cs .i64 [x * v0, y * v1, z * v2, v3]) 25 (0, 0)) := by rw [hW]; exact (blk_alloc_old _ _ _ (by (try simp only [World.size_alloc]); omega)).trans (ba5)
  have bn6 : blk w6 (w3.heap.size) = some (.cells (cs .i64 (stretchL 131072 131072 131072)) 23 (0, 0)) := by rw [hW]; exact (blk_alloc_old _ _ _ (by (try simp only [World.size_alloc]); omega)).trans (bn5)
  have bo6 : blk w6 (w4.heap.size) = some (.cells (cs .i64 (stretchL 32768 32768 32768)) 23 (0, 0)) := by rw [hW]; exact (blk_alloc_old _ _ _ (by (try simp only [World.size_alloc]); omega)).trans (bo5)
  have bp6 : blk w6 (w5.heap.size) = some (.cells (cs .i64 oneL) 23 (0, 0)) := by rw [hW]; exact blk_alloc_at _ _ _ rfl
  have L6 : Below w.heap.size w w6 := by rw [hW]; repeat' (first | (with_reducible exact Below.refl _ _) | (with_reducible refine Rd.below_step ?_ (by assumption)) | (with_reducible refine Rd.below_alloc ?_ _) | (with_reducible refine Rd.below_drewN ?_ _) | (with_reducible refine Below.drew ?_) | (with_reducible refine Below.setCell ?_ ?_ _) | (with_reducible refine Rd.below_setRow ?_ ?_ _) | go_size | (simp only [World.size_alloc]; omega) | omega)
  have lbv6 := blk_lt bv6
  have lbm6 := blk_lt bm6
  have lba6 := blk_lt ba6
  have lbn6 := blk_lt bn6
  have lbo6 := blk_lt bo6
  have lbp6 := blk_lt bp6
  clear bv5 bm5 ba5 bn5 bo5 lbv5 lbm5 lba5 lbn5 lbo5 hW L5
  have cc0 : w6.cell? ⟨w.heap.size, 0, none⟩ = some (.int .i64 v0) := by rw [blk_cell bv6]; rfl
  have cg0 := Go.cell_regrown cc0
  have cc1 : w6.cell? ⟨w.heap.size, 1, none⟩ = some (.int .i64 v1) := by rw [blk_cell bv6]; rfl
  have cg1 := Go.cell_regrown cc1
  have cc2 : w6.cell? ⟨w.heap.size, 2, none⟩ = some (.int .i64 v2) := by rw [blk_cell bv6]; rfl
  have cg2 := Go.cell_regrown cc2
  have cc3 : w6.cell? ⟨w.heap.size, 3, none⟩ = some (.int .i64 v3) := by rw [blk_cell bv6]; rfl
  have cg3 := Go.cell_regrown cc3
  refine wp_region_quiet_below (by kernel_rfl) (by kernel_rfl) ?_
  (try simp only [List.append_eq, List.cons_append, List.nil_append])
  repeat (go_big_quiet_step ((first | (with_reducible exact Calls.regrown_of (one_any _)) | (with_reducible exact Calls.regrown_of (awake_any _)))))
  refine wpQuiet_nil ?_
  intro w7 hU
  have hb7 := Rd.below_of_regrown hU
  have s7 := hb7.size
  have bv7 := (blk_below hb7 _ lbv6).trans bv6
  have bm7 := (blk_below hb7 _ lbm6).trans bm6
  have ba7 := (blk_below hb7 _ lba6).trans ba6
  have bn7 := (blk_below hb7 _ lbn6).trans bn6
  have bo7 := (blk_below hb7 _ lbo6).trans bo6
  have bp7 := (blk_below hb7 _ lbp6).trans bp6
  have L7 : Below w.heap.size w w7 := by repeat' (first | (with_reducible exact Below.refl _ _) | (with_reducible refine Rd.below_step ?_ (by assumption)) | (with_reducible refine Rd.below_alloc ?_ _) | (with_reducible refine Rd.below_drewN ?_ _) | (with_reducible refine Below.drew ?_) | (with_reducible refine Below.setCell ?_ ?_ _) | (with_reducible refine Rd.below_setRow ?_ ?_ _) | go_size | (simp only [World.size_alloc]; omega) | omega)
  clear hU bv6 bm6 ba6 bn6 bo6 bp6 lbv6 lbm6 lba6 lbn6 lbo6 lbp6 L6 hb7
  have lbv7 := blk_lt bv7
  have lbm7 := blk_lt bm7
  have lba7 := blk_lt ba7
  have lbn7 := blk_lt bn7
  have lbo7 := blk_lt bo7
  have lbp7 := blk_lt bp7
  go_wp2_with fail
  go_ret
  exact ⟨rfl, by repeat' (first | (with_reducible exact Below.refl _ _) | (with_reducible refine Rd.below_step ?_ (by assumption)) | (with_reducible refine Rd.below_alloc ?_ _) | (with_reducible refine Rd.below_drewN ?_ _) | (with_reducible refine Below.drew ?_) | (with_reducible refine Below.setCell ?_ ?_ _) | (with_reducible refine Rd.below_setRow ?_ ?_ _) | go_size | (simp only [World.size_alloc]; omega) | omega)⟩
theorem VecStretches_walk (a0 : Int) (a1 : Int) (a2 : Int) (a3_0 : Int) (a3_1 : Int) (a3_2 : Int) (a3_3 : Int) (w : World) (w0 : (Lit.int .i64 a0).wf = true) (w1 : (Lit.int .i64 a1).wf = true) (w2 : (Lit.int .i64 a2).wf = true) (w3_0 : (Lit.int .i64 a3_0).wf = true) (w3_1 : (Lit.int .i64 a3_1).wf = true) (w3_2 : (Lit.int .i64 a3_2).wf = true) (w3_3 : (Lit.int .i64 a3_3).wf = true) :
    Calls Try.prog 7 #[.int .i64 a0, .int .i64 a1, .int .i64 a2, .agg #[.int .i64 a3_0, .int .i64 a3_1, .int .i64 a3_2, .int .i64 a3_3]] w fun e w' => e = .returned (.bool true) ∧ Below w.heap.size w w' := by
  exact VecStretches_law a0 a1 a2 [a3_0, a3_1, a3_2, a3_3] w rfl w0 w1 w2 (wfc w3_0 (wfc w3_1 (wfc w3_2 (wfc w3_3 wfn))))

end Go.Proofs.Ytgfdmjicokhheaa.VecN
