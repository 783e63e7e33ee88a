/-
  The walk of ScreenTells.
-/
import Derived.Test.YtimfjogallcgnaaScJ
namespace Go.Proofs.Ytimfjogallcgnaa.ScK
open Go.RowKit FixA Num Rd Go.Proofs.Ytimfjogallcgnaa.Row Mid ClM ClC ClD ScM ScA ScB ScC ScD ScE ScF ScG ScH ScI ScJ
open Go.Proofs.Ytimfjogallcgnaa.VecA (cellB Wf)
set_option linter.unusedVariables false
set_option linter.unusedSimpArgs false
set_option maxRecDepth 10000
theorem eq_spot1 (x0 x1 x2 x3 x4 x5 y0 y1 y2 y3 y4 y5 : Int) (w : World) : (Op.equalIn 10000 33 (.agg #[.int .i64 x0, .int .i64 x1, .int .i64 x2, .int .i64 x3, .int .i64 x4, .int .i64 x5]) (.agg #[.int .i64 y0, .int .i64 y1, .int .i64 y2, .int .i64 y3, .int .i64 y4, .int .i64 y5])).run Try.prog w =
    .ok (eqL [x0, x1, x2, x3, x4, x5] [y0, y1, y2, y3, y4, y5]) w := eq_spotd 9997 _ _ _ _ _ _ _ _ _ _ _ _ w
attribute [local go_sem ↓] load_mat load_tri store_tri load_spot store_spot load_vx store_vx eq_spot1
attribute [local go_sem] one_int run_load_mat run_load_vx run_store_vx run_load_spot run_store_spot run_load_tri run_store_tri pcS pt_all midLoad_eq rowLoad_eq rowStore_eq blk_alloc_at blk_alloc_old blk_drew blk_drewN blk_set_far blk_set_far' blk_grow setRow_alloc_at setRow_alloc_old setRow_drew setRow_drewN
theorem place_len (m t : List Int) (w h : Int) (ht : t.length = 19) : (placeV m t w h).1.length ≤ 1000000 := by
  unfold placeV
  split
  · split
    · unfold fanV
      rw [trisK_len]
      have := ClH.polyV_len3 (row := rowV m t) rfl
      omega
    · simp
  · simp
set_option maxHeartbeats 4000000 in
theorem tells_gen (a0 a1 a2 a3 a4 a5 w h : Int) (ms : List Int) (t0 t1 t2 t3 t4 t5 t6 t7 t8 t9 t10 t11 t12 t13 t14 t15 t16 t17 t18 c0 c1 c2 c3 : Int) (W : World) (hm : ms.length = 16) (wm : Wf ms) :
    Calls Try.prog 3 #[.agg #[.int .i64 a0, .int .i64 a1, .int .i64 a2, .int .i64 a3, .int .i64 a4, .int .i64 a5], .int .i64 w, .int .i64 h, .agg (cs .i64 ms), .agg #[.int .i64 t0, .int .i64 t1, .int .i64 t2, .int .i64 t3, .int .i64 t4, .int .i64 t5, .int .i64 t6, .int .i64 t7, .int .i64 t8, .int .i64 t9, .int .i64 t10, .int .i64 t11, .int .i64 t12, .int .i64 t13, .int .i64 t14, .int .i64 t15, .int .i64 t16, .int .i64 t17, .int .i64 t18, .int .u8 c0, .int .u8 c1, .int .u8 c2, .int .u8 c3]] W fun e w' => e = .returned (.bool true) ∧ Below W.heap.size W w' := by
  have WM := Lib.hid wm
  obtain ⟨z0, z1, z2, z3, z4, z5, eS⟩ := len6' (spotV_len [a0, a1, a2, a3, a4, a5] w h)
  obtain ⟨qs, eq⟩ : ∃ q, (spotV [a0, a1, a2, a3, a4, a5] w h).2 = q := ⟨_, rfl⟩
  have CA : Hid (∀ X : World, Calls Try.prog 8 #[.agg #[.int .i64 a0, .int .i64 a1, .int .i64 a2, .int .i64 a3, .int .i64 a4, .int .i64 a5], .int .i64 w, .int .i64 h] X fun e w' => e = .returned (.tuple #[.agg #[.int .i64 z0, .int .i64 z1, .int .i64 z2, .int .i64 z3, .int .i64 z4, .int .i64 z5], .bool qs]) ∧ Below X.heap.size X w') := fun X => by
    have := spot_any [a0, a1, a2, a3, a4, a5] rfl w h X
    rw [eS, eq] at this
    exact this
  have CB : Hid (∀ X : World, Calls Try.prog 9 #[.agg #[.int .i64 a0, .int .i64 a1, .int .i64 a2, .int .i64 a3, .int .i64 a4, .int .i64 a5], .int .i64 w, .int .i64 h] X fun e w' => e = .returned (.tuple #[.agg #[.int .i64 z0, .int .i64 z1, .int .i64 z2, .int .i64 z3, .int .i64 z4, .int .i64 z5], .bool qs]) ∧ Below X.heap.size X w') := fun X => by
    have := rspot_any [a0, a1, a2, a3, a4, a5] rfl w h X
    rw [eS, eq] at this
    exact this
  clear eS eq wm
  have d0 : eqL [z0, z1, z2, z3, z4, z5] [z0, z1, z2, z3, z4, z5] = true := decide_eq_true rfl
  go_enter Try.func3, Try.ntmps3
  go_wp2_with fail
  refine (CA.out _).mono ?_
  rintro e w1 ⟨rfl, hb1⟩
  have s1 := hb1.size
  simp only [World.size_alloc] at s1
  have bV1 : blk w1 W.heap.size = some (.cells #[.int .i64 a0, .int .i64 a1, .int .i64 a2, .int .i64 a3, .int .i64 a4, .int .i64 a5] 25 (0, 0)) := (blk_below hb1 _ (by simp; omega)).trans (blk3_0 _ _ _ _)
  have bM1 : blk w1 (W.heap.size + 1) = some (.cells (cs .i64 ms) 27 (0, 0)) := (blk_below hb1 _ (by simp)).trans (blk3_1 _ _ _ _)
  have bT1 : blk w1 (W.heap.size + 1 + 1) = some (.cells #[.int .i64 t0, .int .i64 t1, .int .i64 t2, .int .i64 t3, .int .i64 t4, .int .i64 t5, .int .i64 t6, .int .i64 t7, .int .i64 t8, .int .i64 t9, .int .i64 t10, .int .i64 t11, .int .i64 t12, .int .i64 t13, .int .i64 t14, .int .i64 t15, .int .i64 t16, .int .i64 t17, .int .i64 t18, .int .u8 c0, .int .u8 c1, .int .u8 c2, .int .u8 c3] 31 (0, 0)) := (blk_below hb1 _ (by simp)).trans (blk3_2 _ _ _ _)
  have L1 : Below W.heap.size W w1 := by repeat' (first | (with_reducible exact Below.refl _ _) | (with_reducible refine Rd.below_step ?_ (by assumption)) | (with_reducible refine Rd.below_alloc ?_ _) | (with_reducible refine Rd.below_drewN ?_ _) | (with_reducible refine Below.drew ?_) | (with_reducible refine Below.setCell ?_ ?_ _) | (with_reducible refine Rd.below_setRow ?_ ?_ _) | go_size | (simp only [World.size_alloc]; omega) | omega)
  clear hb1 CA
  go_upto_region 2 with (fail)
  refine Rd.name_world ?_
  intro w2 hw
  have bA2 : blk w2 w1.heap.size = some (.cells #[.int .i64 z0, .int .i64 z1, .int .i64 z2, .int .i64 z3, .int .i64 z4, .int .i64 z5] 33 (0, 0)) := by rw [hw]; exact blk_alloc_at _ _ _ rfl
  have bV2 : blk w2 W.heap.size = some (.cells #[.int .i64 a0, .int .i64 a1, .int .i64 a2, .int .i64 a3, .int .i64 a4, .int .i64 a5] 25 (0, 0)) := by rw [hw]; exact (blk_alloc_old _ _ _ (blk_lt bV1)).trans bV1
  have bM2 : blk w2 (W.heap.size + 1) = some (.cells (cs .i64 ms) 27 (0, 0)) := by rw [hw]; exact (blk_alloc_old _ _ _ (blk_lt bM1)).trans bM1
  have bT2 : blk w2 (W.heap.size + 1 + 1) = some (.cells #[.int .i64 t0, .int .i64 t1, .int .i64 t2, .int .i64 t3, .int .i64 t4, .int .i64 t5, .int .i64 t6, .int .i64 t7, .int .i64 t8, .int .i64 t9, .int .i64 t10, .int .i64 t11, .int .i64 t12, .int .i64 t13, .int .i64 t14, .int .i64 t15, .int .i64 t16, .int .i64 t17, .int .i64 t18, .int .u8 c0, .int .u8 c1, .int .u8 c2, .int .u8 c3] 31 (0, 0)) := by rw [hw]; exact (blk_alloc_old _ _ _ (blk_lt bT1)).trans bT1
  have L2 : Below W.heap.size W w2 := by
    rw [hw]
    repeat' (first | (with_reducible exact Below.refl _ _) | (with_reducible refine Rd.below_step ?_ (by assumption)) | (with_reducible refine Rd.below_alloc ?_ _) | (with_reducible refine Rd.below_drewN ?_ _) | (with_reducible refine Below.drew ?_) | (with_reducible refine Below.setCell ?_ ?_ _) | (with_reducible refine Rd.below_setRow ?_ ?_ _) | go_size | (simp only [World.size_alloc]; omega) | omega)
  clear hw bV1 bM1 bT1 L1
  go_wp2_with fail
  refine (CB.out _).mono ?_
  rintro e w3 ⟨rfl, hb3⟩
  have s3 := hb3.size
  have bA3 := (blk_below hb3 _ (blk_lt bA2)).trans bA2
  have bM3 := (blk_below hb3 _ (blk_lt bM2)).trans bM2
  have bT3 := (blk_below hb3 _ (blk_lt bT2)).trans bT2
  have L3 : Below W.heap.size W w3 := by repeat' (first | (with_reducible exact Below.refl _ _) | (with_reducible refine Rd.below_step ?_ (by assumption)) | (with_reducible refine Rd.below_alloc ?_ _) | (with_reducible refine Rd.below_drewN ?_ _) | (with_reducible refine Below.drew ?_) | (with_reducible refine Below.setCell ?_ ?_ _) | (with_reducible refine Rd.below_setRow ?_ ?_ _) | go_size | (simp only [World.size_alloc]; omega) | omega)
  clear hb3 bA2 bV2 bM2 bT2 L2 CB
  go_upto_region 3 with (fail)
  refine Rd.name_world ?_
  intro w4 hw
  have bB4 : blk w4 w3.heap.size = some (.cells #[.int .i64 z0, .int .i64 z1, .int .i64 z2, .int .i64 z3, .int .i64 z4, .int .i64 z5] 33 (0, 0)) := by rw [hw]; exact blk_alloc_at _ _ _ rfl
  have bA4 : blk w4 w1.heap.size = some (.cells #[.int .i64 z0, .int .i64 z1, .int .i64 z2, .int .i64 z3, .int .i64 z4, .int .i64 z5] 33 (0, 0)) := by rw [hw]; exact (blk_alloc_old _ _ _ (blk_lt bA3)).trans bA3
  have bM4 : blk w4 (W.heap.size + 1) = some (.cells (cs .i64 ms) 27 (0, 0)) := by rw [hw]; exact (blk_alloc_old _ _ _ (blk_lt bM3)).trans bM3
  have bT4 : blk w4 (W.heap.size + 1 + 1) = some (.cells #[.int .i64 t0, .int .i64 t1, .int .i64 t2, .int .i64 t3, .int .i64 t4, .int .i64 t5, .int .i64 t6, .int .i64 t7, .int .i64 t8, .int .i64 t9, .int .i64 t10, .int .i64 t11, .int .i64 t12, .int .i64 t13, .int .i64 t14, .int .i64 t15, .int .i64 t16, .int .i64 t17, .int .i64 t18, .int .u8 c0, .int .u8 c1, .int .u8 c2, .int .u8 c3] 31 (0, 0)) := by rw [hw]; exact (blk_alloc_old _ _ _ (blk_lt bT3)).trans bT3
  have L4 : Below W.heap.size W w4 := by
    rw [hw]
    repeat' (first | (with_reducible exact Below.refl _ _) | (with_reducible refine Rd.below_step ?_ (by assumption)) | (with_reducible refine Rd.below_alloc ?_ _) | (with_reducible refine Rd.below_drewN ?_ _) | (with_reducible refine Below.drew ?_) | (with_reducible refine Below.setCell ?_ ?_ _) | (with_reducible refine Rd.below_setRow ?_ ?_ _) | go_size | (simp only [World.size_alloc]; omega) | omega)
  clear hw bA3 bM3 bT3 L3
  go_wp2_with fail
  refine (place_any ms t0 t1 t2 t3 t4 t5 t6 t7 t8 t9 t10 t11 t12 t13 t14 t15 t16 t17 t18 c0 c1 c2 c3 w h _ hm WM.out).mono ?_
  rintro e w5 ⟨⟨ad5, c5, rfl, hr5⟩, hb5⟩
  have hlen : (placeV ms [t0, t1, t2, t3, t4, t5, t6, t7, t8, t9, t10, t11, t12, t13, t14, t15, t16, t17, t18] w h).1.length ≤ 1000000 := place_len ms [t0, t1, t2, t3, t4, t5, t6, t7, t8, t9, t10, t11, t12, t13, t14, t15, t16, t17, t18] w h rfl
  obtain ⟨R, eR⟩ : ∃ R, (placeV ms [t0, t1, t2, t3, t4, t5, t6, t7, t8, t9, t10, t11, t12, t13, t14, t15, t16, t17, t18] w h).1 = R := ⟨_, rfl⟩
  obtain ⟨er, eE⟩ : ∃ e, (placeV ms [t0, t1, t2, t3, t4, t5, t6, t7, t8, t9, t10, t11, t12, t13, t14, t15, t16, t17, t18] w h).2 = e := ⟨_, rfl⟩
  have CR : Hid (∀ X : World, Calls Try.prog 11 #[.agg (cs .i64 ms), .agg #[.int .i64 t0, .int .i64 t1, .int .i64 t2, .int .i64 t3, .int .i64 t4, .int .i64 t5, .int .i64 t6, .int .i64 t7, .int .i64 t8, .int .i64 t9, .int .i64 t10, .int .i64 t11, .int .i64 t12, .int .i64 t13, .int .i64 t14, .int .i64 t15, .int .i64 t16, .int .i64 t17, .int .i64 t18, .int .u8 c0, .int .u8 c1, .int .u8 c2, .int .u8 c3], .int .i64 w, .int .i64 h] X fun e w' => (∃ ad' c', e = .returned (.tuple #[.slice ad' R.length c', .int .i64 er]) ∧ TriAt w' ad' R) ∧ Below X.heap.size X w') := fun X => by
    have := rplace_any ms t0 t1 t2 t3 t4 t5 t6 t7 t8 t9 t10 t11 t12 t13 t14 t15 t16 t17 t18 c0 c1 c2 c3 w h X hm WM.out
    rw [eR, eE] at this
    exact this
  rw [eR] at hr5 hlen
  rw [eR, eE]
  have H5 := Lib.hid hr5
  have bB5 := (blk_below hb5 _ (blk_lt bB4)).trans bB4
  have bA5 := (blk_below hb5 _ (blk_lt bA4)).trans bA4
  have bM5 := (blk_below hb5 _ (blk_lt bM4)).trans bM4
  have bT5 := (blk_below hb5 _ (blk_lt bT4)).trans bT4
  have L5 : Below W.heap.size W w5 := by repeat' (first | (with_reducible exact Below.refl _ _) | (with_reducible refine Rd.below_step ?_ (by assumption)) | (with_reducible refine Rd.below_alloc ?_ _) | (with_reducible refine Rd.below_drewN ?_ _) | (with_reducible refine Below.drew ?_) | (with_reducible refine Below.setCell ?_ ?_ _) | (with_reducible refine Rd.below_setRow ?_ ?_ _) | go_size | (simp only [World.size_alloc]; omega) | omega)
  clear hb5 hr5 bB4 bA4 bM4 bT4 L4 eR eE
  go_wp2_with fail
  refine (CR.out _).mono ?_
  rintro e w6 ⟨⟨ad6, c6, rfl, hr6⟩, hb6⟩
  have H6 := Lib.hid hr6
  have H56 := Lib.hid (TriAt.below (B := 0) H5.out hb6)
  have bB6 := (blk_below hb6 _ (blk_lt bB5)).trans bB5
  have bA6 := (blk_below hb6 _ (blk_lt bA5)).trans bA5
  have L6 : Below W.heap.size W w6 := by repeat' (first | (with_reducible exact Below.refl _ _) | (with_reducible refine Rd.below_step ?_ (by assumption)) | (with_reducible refine Rd.below_alloc ?_ _) | (with_reducible refine Rd.below_drewN ?_ _) | (with_reducible refine Below.drew ?_) | (with_reducible refine Below.setCell ?_ ?_ _) | (with_reducible refine Rd.below_setRow ?_ ?_ _) | go_size | (simp only [World.size_alloc]; omega) | omega)
  clear hb6 hr6 bB5 bA5 bM5 bT5 L5 CR H5
  go_wp2_with fail
  refine (same_any R R ad5 ad6 c5 c6 _ H56.out H6.out hlen hlen).mono ?_
  rintro e w7 ⟨rfl, hb7⟩
  have L7 : Below W.heap.size W w7 := by repeat' (first | (with_reducible exact Below.refl _ _) | (with_reducible refine Rd.below_step ?_ (by assumption)) | (with_reducible refine Rd.below_alloc ?_ _) | (with_reducible refine Rd.below_drewN ?_ _) | (with_reducible refine Below.drew ?_) | (with_reducible refine Below.setCell ?_ ?_ _) | (with_reducible refine Rd.below_setRow ?_ ?_ _) | go_size | (simp only [World.size_alloc]; omega) | omega)
  have dR : decide (R = R) = true := decide_eq_true rfl
  clear hb7
  go_wp2_with fail
  refine (awake_any _).mono ?_
  rintro e w8 ⟨rfl, hb8⟩
  have L8 : Below W.heap.size W w8 := by repeat' (first | (with_reducible exact Below.refl _ _) | (with_reducible refine Rd.below_step ?_ (by assumption)) | (with_reducible refine Rd.below_alloc ?_ _) | (with_reducible refine Rd.below_drewN ?_ _) | (with_reducible refine Below.drew ?_) | (with_reducible refine Below.setCell ?_ ?_ _) | (with_reducible refine Rd.below_setRow ?_ ?_ _) | go_size | (simp only [World.size_alloc]; omega) | omega)
  go_wp2
  go_ret
  exact ⟨rfl, L8⟩
end Go.Proofs.Ytimfjogallcgnaa.ScK
