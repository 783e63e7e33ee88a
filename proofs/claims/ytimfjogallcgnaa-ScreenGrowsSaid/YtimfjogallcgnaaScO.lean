/-
  The walk of ScreenGrows.
-/
import Derived.Test.YtimfjogallcgnaaScJ
import Derived.BigQuiet
import Derived.Test.YtimfjogallcgnaaPredT
namespace Go.Proofs.Ytimfjogallcgnaa.ScO
open Go.RowKit FixA Num Rd Go.Proofs.Ytimfjogallcgnaa.Row Mid ClM ClC ClD ScM ScA ScB ScC ScD ScE ScF ScG ScH ScI ScJ
open Go.Proofs.Ytimfjogallcgnaa.PredT (Stab)
set_option linter.unusedVariables false
set_option linter.unusedSimpArgs false
set_option maxRecDepth 10000
attribute [local go_sem ↓] load_spot store_spot load_vx store_vx
attribute [local go_sem] one_int run_load_vx run_store_vx run_load_spot run_store_spot pcS midLoad_eq rowLoad_eq rowStore_eq blk_alloc_at blk_alloc_old blk_drew blk_drewN blk_set_far blk_set_far' blk_grow setRow_alloc_at setRow_alloc_old setRow_drew setRow_drewN
theorem big16 {w h : Int} (a : 1 ≤ w) (b : w ≤ 16) (c : 1 ≤ h) (d : h ≤ 16) : frameB w h = true ∧ frameB (2 * w) (2 * h) = true := ⟨frame_mk (by omega) (by omega) (by omega) (by omega), frame_mk (by omega) (by omega) (by omega) (by omega)⟩
set_option maxHeartbeats 4000000 in
theorem grows_gen (a0 a1 a2 a3 a4 a5 w h : Int) (W : World) :
    Calls Try.prog 7 #[.agg #[.int .i64 a0, .int .i64 a1, .int .i64 a2, .int .i64 a3, .int .i64 a4, .int .i64 a5], .int .i64 w, .int .i64 h] W fun e w' => e = .returned (.bool true) ∧ Below W.heap.size W w' := by
  by_cases g1 : 1 ≤ w
  case neg =>
    have d1 : decide (w < 1) = true := decide_eq_true (by omega)
    go_enter Try.func7, Try.ntmps7
    go_wp2_with fail
    refine (awake_any _).mono ?_
    rintro e w2 ⟨rfl, hb2⟩
    have L2 : Below W.heap.size W w2 := by repeat' (first | (with_reducible exact Below.refl _ _) | (with_reducible refine Rd.below_step ?_ (by assumption)) | (with_reducible refine Rd.below_alloc ?_ _) | (with_reducible refine Rd.below_drewN ?_ _) | (with_reducible refine Below.drew ?_) | (with_reducible refine Below.setCell ?_ ?_ _) | (with_reducible refine Rd.below_setRow ?_ ?_ _) | go_size | (simp only [World.size_alloc]; omega) | omega)
    go_wp2
    go_ret
    exact ⟨rfl, L2⟩
  have d1 : decide (w < 1) = false := decide_eq_false (by omega)
  by_cases g2 : w ≤ 16
  case neg =>
    have d2 : decide (16 < w) = true := decide_eq_true (by omega)
    go_enter Try.func7, Try.ntmps7
    go_wp2_with fail
    refine (awake_any _).mono ?_
    rintro e w2 ⟨rfl, hb2⟩
    have L2 : Below W.heap.size W w2 := by repeat' (first | (with_reducible exact Below.refl _ _) | (with_reducible refine Rd.below_step ?_ (by assumption)) | (with_reducible refine Rd.below_alloc ?_ _) | (with_reducible refine Rd.below_drewN ?_ _) | (with_reducible refine Below.drew ?_) | (with_reducible refine Below.setCell ?_ ?_ _) | (with_reducible refine Rd.below_setRow ?_ ?_ _) | go_size | (simp only [World.size_alloc]; omega) | omega)
    go_wp2
    go_ret
    exact ⟨rfl, L2⟩
  have d2 : decide (16 < w) = false := decide_eq_false (by omega)
  by_cases g3 : 1 ≤ h
  case neg =>
    have d3 : decide (h < 1) = true := decide_eq_true (by omega)
    go_enter Try.func7, Try.ntmps7
    go_wp2_with fail
    refine (awake_any _).mono ?_
    rintro e w2 ⟨rfl, hb2⟩
    have L2 : Below W.heap.size W w2 := by repeat' (first | (with_reducible exact Below.refl _ _) | (with_reducible refine Rd.below_step ?_ (by assumption)) | (with_reducible refine Rd.below_alloc ?_ _) | (with_reducible refine Rd.below_drewN ?_ _) | (with_reducible refine Below.drew ?_) | (with_reducible refine Below.setCell ?_ ?_ _) | (with_reducible refine Rd.below_setRow ?_ ?_ _) | go_size | (simp only [World.size_alloc]; omega) | omega)
    go_wp2
    go_ret
    exact ⟨rfl, L2⟩
  have d3 : decide (h < 1) = false := decide_eq_false (by omega)
  by_cases g4 : h ≤ 16
  case neg =>
    have d4 : decide (16 < h) = true := decide_eq_true (by omega)
    go_enter Try.func7, Try.ntmps7
    go_wp2_with fail
    refine (awake_any _).mono ?_
    rintro e w2 ⟨rfl, hb2⟩
    have L2 : Below W.heap.size W w2 := by repeat' (first | (with_reducible exact Below.refl _ _) | (with_reducible refine Rd.below_step ?_ (by assumption)) | (with_reducible refine Rd.below_alloc ?_ _) | (with_reducible refine Rd.below_drewN ?_ _) | (with_reducible refine Below.drew ?_) | (with_reducible refine Below.setCell ?_ ?_ _) | (with_reducible refine Rd.below_setRow ?_ ?_ _) | go_size | (simp only [World.size_alloc]; omega) | omega)
    go_wp2
    go_ret
    exact ⟨rfl, L2⟩
  have d4 : decide (16 < h) = false := decide_eq_false (by omega)
  obtain ⟨f1, f2⟩ := big16 g1 g2 g3 g4
  have CS := Lib.hid (spot_any [a0, a1, a2, a3, a4, a5] rfl w h)
  have CM := Lib.hid (spot_any [a0, a1, a2, a3, a4, a5] rfl (2 * w) (2 * h))
  by_cases hok : vxB [a0, a1, a2, a3, a4, a5] = true
  case neg =>
    have hok' : vxB [a0, a1, a2, a3, a4, a5] = false := by simpa using hok
    rw [spotV_no2 hok'] at CS CM
    clear hok hok' f1 f2
    go_enter Try.func7, Try.ntmps7
    go_wp2_with fail
    refine (CS.out _).mono ?_
    rintro e w1 ⟨rfl, hb1⟩
    have s1 := hb1.size
    simp only [World.size_alloc] at s1
    have bV1 : blk w1 W.heap.size = some (.cells #[.int .i64 a0, .int .i64 a1, .int .i64 a2, .int .i64 a3, .int .i64 a4, .int .i64 a5] 25 (0, 0)) := (blk_below hb1 _ (by simp)).trans (blk_alloc_at _ _ _ rfl)
    have L1 : Below W.heap.size W w1 := by repeat' (first | (with_reducible exact Below.refl _ _) | (with_reducible refine Rd.below_step ?_ (by assumption)) | (with_reducible refine Rd.below_alloc ?_ _) | (with_reducible refine Rd.below_drewN ?_ _) | (with_reducible refine Below.drew ?_) | (with_reducible refine Below.setCell ?_ ?_ _) | (with_reducible refine Rd.below_setRow ?_ ?_ _) | go_size | (simp only [World.size_alloc]; omega) | omega)
    clear hb1
    go_upto_region 4 with (fail)
    refine Rd.name_world ?_
    intro w2 hw
    have bV2 : blk w2 W.heap.size = some (.cells #[.int .i64 a0, .int .i64 a1, .int .i64 a2, .int .i64 a3, .int .i64 a4, .int .i64 a5] 25 (0, 0)) := by rw [hw]; exact (blk_alloc_old _ _ _ (blk_lt bV1)).trans bV1
    have L2 : Below W.heap.size W w2 := by
      rw [hw]
      repeat' (first | (with_reducible exact Below.refl _ _) | (with_reducible refine Rd.below_step ?_ (by assumption)) | (with_reducible refine Rd.below_alloc ?_ _) | (with_reducible refine Rd.below_drewN ?_ _) | (with_reducible refine Below.drew ?_) | (with_reducible refine Below.setCell ?_ ?_ _) | (with_reducible refine Rd.below_setRow ?_ ?_ _) | go_size | (simp only [World.size_alloc]; omega) | omega)
    clear hw bV1 L1
    go_wp2_with fail
    refine (CM.out _).mono ?_
    rintro e w3 ⟨rfl, hb3⟩
    have L3 : Below W.heap.size W w3 := by repeat' (first | (with_reducible exact Below.refl _ _) | (with_reducible refine Rd.below_step ?_ (by assumption)) | (with_reducible refine Rd.below_alloc ?_ _) | (with_reducible refine Rd.below_drewN ?_ _) | (with_reducible refine Below.drew ?_) | (with_reducible refine Below.setCell ?_ ?_ _) | (with_reducible refine Rd.below_setRow ?_ ?_ _) | go_size | (simp only [World.size_alloc]; omega) | omega)
    clear hb3
    go_wp2_with fail
    refine (awake_any _).mono ?_
    rintro e w4 ⟨rfl, hb4⟩
    have L4 : Below W.heap.size W w4 := by repeat' (first | (with_reducible exact Below.refl _ _) | (with_reducible refine Rd.below_step ?_ (by assumption)) | (with_reducible refine Rd.below_alloc ?_ _) | (with_reducible refine Rd.below_drewN ?_ _) | (with_reducible refine Below.drew ?_) | (with_reducible refine Below.setCell ?_ ?_ _) | (with_reducible refine Rd.below_setRow ?_ ?_ _) | go_size | (simp only [World.size_alloc]; omega) | omega)
    go_wp2
    go_ret
    exact ⟨rfl, L4⟩
  have hv := vx_of (v := [a0, a1, a2, a3, a4, a5]) rfl hok
  obtain ⟨z0, ez0⟩ : ∃ x, near (nX [a0, a1, a2, a3, a4, a5] w) (dV [a0, a1, a2, a3, a4, a5]) = x := ⟨_, rfl⟩
  obtain ⟨z1, ez1⟩ : ∃ x, near (nY [a0, a1, a2, a3, a4, a5] h) (dV [a0, a1, a2, a3, a4, a5]) = x := ⟨_, rfl⟩
  obtain ⟨z2, ez2⟩ : ∃ x, near (nZ [a0, a1, a2, a3, a4, a5]) (dV [a0, a1, a2, a3, a4, a5]) = x := ⟨_, rfl⟩
  obtain ⟨z3, ez3⟩ : ∃ x, dV [a0, a1, a2, a3, a4, a5] = x := ⟨_, rfl⟩
  obtain ⟨r0, er0⟩ : ∃ x, near (nX [a0, a1, a2, a3, a4, a5] (2 * w)) (dV [a0, a1, a2, a3, a4, a5]) = x := ⟨_, rfl⟩
  obtain ⟨r1, er1⟩ : ∃ x, near (nY [a0, a1, a2, a3, a4, a5] (2 * h)) (dV [a0, a1, a2, a3, a4, a5]) = x := ⟨_, rfl⟩
  have mx := twice_x (w := w) hv
  have my := twice_y (h := h) hv
  rw [ez0, er0] at mx
  rw [ez1, er1] at my
  have si := spot_in (w := w) (h := h) hv (by omega) (by omega)
  have sm := spot_in (w := 2 * w) (h := 2 * h) hv (by omega) (by omega)
  have zx0 : 0 ≤ z0 ∧ z0 ≤ 256 * w := by rw [← ez0]; exact ⟨si.x0, si.x1⟩
  have zy0 : 0 ≤ z1 ∧ z1 ≤ 256 * h := by rw [← ez1]; exact ⟨si.y0, si.y1⟩
  have rx0 : 0 ≤ r0 ∧ r0 ≤ 256 * (2 * w) := by rw [← er0]; exact ⟨sm.x0, sm.x1⟩
  have ry0 : 0 ≤ r1 ∧ r1 ≤ 256 * (2 * h) := by rw [← er1]; exact ⟨sm.y0, sm.y1⟩
  have e1 : spotV [a0, a1, a2, a3, a4, a5] w h = ([z0, z1, z2, z3] ++ [a4, a5], true) := by
    rw [spotV_yes f1 hok]
    unfold spotL
    rw [ez0, ez1, ez2, ez3]; rfl
  have e2 : spotV [a0, a1, a2, a3, a4, a5] (2 * w) (2 * h) = ([r0, r1, z2, z3] ++ [a4, a5], true) := by
    rw [spotV_yes f2 hok]
    unfold spotL
    rw [er0, er1, ez2, ez3]; rfl
  rw [e1] at CS
  rw [e2] at CM
  have CM' : Hid (∀ X : World, Calls Try.prog 8 #[.agg #[.int .i64 a0, .int .i64 a1, .int .i64 a2, .int .i64 a3, .int .i64 a4, .int .i64 a5], .int .i64 (2 * w), .int .i64 (2 * h)] X fun e w' => e = .returned (.tuple #[.agg #[.int .i64 r0, .int .i64 r1, .int .i64 z2, .int .i64 z3, .int .i64 a4, .int .i64 a5], .bool true]) ∧ Below X.heap.size X w') := fun X => CM.out X
  have CS' : Hid (∀ X : World, Calls Try.prog 8 #[.agg #[.int .i64 a0, .int .i64 a1, .int .i64 a2, .int .i64 a3, .int .i64 a4, .int .i64 a5], .int .i64 w, .int .i64 h] X fun e w' => e = .returned (.tuple #[.agg #[.int .i64 z0, .int .i64 z1, .int .i64 z2, .int .i64 z3, .int .i64 a4, .int .i64 a5], .bool true]) ∧ Below X.heap.size X w') := fun X => CS.out X
  clear CM CS e1 e2 ez0 ez1 ez2 ez3 er0 er1 si sm hv hok
  go_enter Try.func7, Try.ntmps7
  go_wp2_with fail
  refine (CS'.out _).mono ?_
  rintro e w1 ⟨rfl, hb1⟩
  have s1 := hb1.size
  simp only [World.size_alloc] at s1
  have bV1 : blk w1 W.heap.size = some (.cells #[.int .i64 a0, .int .i64 a1, .int .i64 a2, .int .i64 a3, .int .i64 a4, .int .i64 a5] 25 (0, 0)) := (blk_below hb1 _ (by simp)).trans (blk_alloc_at _ _ _ rfl)
  have L1 : Below W.heap.size W w1 := by repeat' (first | (with_reducible exact Below.refl _ _) | (with_reducible refine Rd.below_step ?_ (by assumption)) | (with_reducible refine Rd.below_alloc ?_ _) | (with_reducible refine Rd.below_drewN ?_ _) | (with_reducible refine Below.drew ?_) | (with_reducible refine Below.setCell ?_ ?_ _) | (with_reducible refine Rd.below_setRow ?_ ?_ _) | go_size | (simp only [World.size_alloc]; omega) | omega)
  clear hb1 CS'
  go_upto_region 4 with (fail)
  refine Rd.name_world ?_
  intro w2 hw
  have bA : blk w2 w1.heap.size = some (.cells #[.int .i64 z0, .int .i64 z1, .int .i64 z2, .int .i64 z3, .int .i64 a4, .int .i64 a5] 33 (0, 0)) := by rw [hw]; exact blk_alloc_at _ _ _ rfl
  have bV : blk w2 W.heap.size = some (.cells #[.int .i64 a0, .int .i64 a1, .int .i64 a2, .int .i64 a3, .int .i64 a4, .int .i64 a5] 25 (0, 0)) := by rw [hw]; exact (blk_alloc_old _ _ _ (blk_lt bV1)).trans bV1
  have L2 : Below W.heap.size W w2 := by
    rw [hw]
    repeat' (first | (with_reducible exact Below.refl _ _) | (with_reducible refine Rd.below_step ?_ (by assumption)) | (with_reducible refine Rd.below_alloc ?_ _) | (with_reducible refine Rd.below_drewN ?_ _) | (with_reducible refine Below.drew ?_) | (with_reducible refine Below.setCell ?_ ?_ _) | (with_reducible refine Rd.below_setRow ?_ ?_ _) | go_size | (simp only [World.size_alloc]; omega) | omega)
  clear hw bV1 L1
  go_wp2_with fail
  refine (CM'.out _).mono ?_
  rintro e w4 ⟨rfl, hb4⟩
  have bA4 := (blk_below hb4 _ (blk_lt bA)).trans bA
  have L4 : Below W.heap.size W w4 := by repeat' (first | (with_reducible exact Below.refl _ _) | (with_reducible refine Rd.below_step ?_ (by assumption)) | (with_reducible refine Rd.below_alloc ?_ _) | (with_reducible refine Rd.below_drewN ?_ _) | (with_reducible refine Below.drew ?_) | (with_reducible refine Below.setCell ?_ ?_ _) | (with_reducible refine Rd.below_setRow ?_ ?_ _) | go_size | (simp only [World.size_alloc]; omega) | omega)
  clear hb4 bA bV L2 CM'
  go_upto_region 5 with (fail)
  refine Rd.name_world ?_
  intro w5 hw
  have bA5 : blk w5 w1.heap.size = some (.cells #[.int .i64 z0, .int .i64 z1, .int .i64 z2, .int .i64 z3, .int .i64 a4, .int .i64 a5] 33 (0, 0)) := by rw [hw]; exact (blk_alloc_old _ _ _ (blk_lt bA4)).trans bA4
  have bB5 : blk w5 w4.heap.size = some (.cells #[.int .i64 r0, .int .i64 r1, .int .i64 z2, .int .i64 z3, .int .i64 a4, .int .i64 a5] 33 (0, 0)) := by rw [hw]; exact blk_alloc_at _ _ _ rfl
  have L5 : Below W.heap.size W w5 := by
    rw [hw]
    repeat' (first | (with_reducible exact Below.refl _ _) | (with_reducible refine Rd.below_step ?_ (by assumption)) | (with_reducible refine Rd.below_alloc ?_ _) | (with_reducible refine Rd.below_drewN ?_ _) | (with_reducible refine Below.drew ?_) | (with_reducible refine Below.setCell ?_ ?_ _) | (with_reducible refine Rd.below_setRow ?_ ?_ _) | go_size | (simp only [World.size_alloc]; omega) | omega)
  clear hw bA4 L4
  have p0 : w5.cell? ⟨w1.heap.size, 0, none⟩ = some (.int .i64 z0) := by rw [blk_cell bA5]; rfl
  have p1 : w5.cell? ⟨w1.heap.size, 1, none⟩ = some (.int .i64 z1) := by rw [blk_cell bA5]; rfl
  have p2 : w5.cell? ⟨w1.heap.size, 2, none⟩ = some (.int .i64 z2) := by rw [blk_cell bA5]; rfl
  have p3 : w5.cell? ⟨w1.heap.size, 3, none⟩ = some (.int .i64 z3) := by rw [blk_cell bA5]; rfl
  have p4 : w5.cell? ⟨w1.heap.size, 4, none⟩ = some (.int .i64 a4) := by rw [blk_cell bA5]; rfl
  have p5 : w5.cell? ⟨w1.heap.size, 5, none⟩ = some (.int .i64 a5) := by rw [blk_cell bA5]; rfl
  have q0 : w5.cell? ⟨w4.heap.size, 0, none⟩ = some (.int .i64 r0) := by rw [blk_cell bB5]; rfl
  have q1 : w5.cell? ⟨w4.heap.size, 1, none⟩ = some (.int .i64 r1) := by rw [blk_cell bB5]; rfl
  have q2 : w5.cell? ⟨w4.heap.size, 2, none⟩ = some (.int .i64 z2) := by rw [blk_cell bB5]; rfl
  have q3 : w5.cell? ⟨w4.heap.size, 3, none⟩ = some (.int .i64 z3) := by rw [blk_cell bB5]; rfl
  have q4 : w5.cell? ⟨w4.heap.size, 4, none⟩ = some (.int .i64 a4) := by rw [blk_cell bB5]; rfl
  have q5 : w5.cell? ⟨w4.heap.size, 5, none⟩ = some (.int .i64 a5) := by rw [blk_cell bB5]; rfl
  have hx0 : -1 ≤ r0 - 2 * z0 := mx.1
  have hx1 : r0 - 2 * z0 ≤ 1 := mx.2
  have hy0 : -1 ≤ r1 - 2 * z1 := my.1
  have hy1 : r1 - 2 * z1 ≤ 1 := my.2
  have e0 : decide (-1 ≤ r0 - 2 * z0) = true := decide_eq_true hx0
  have e1 : decide (r0 - 2 * z0 ≤ 1) = true := decide_eq_true hx1
  have e2 : decide (-1 ≤ r1 - 2 * z1) = true := decide_eq_true hy0
  have e3 : decide (r1 - 2 * z1 ≤ 1) = true := decide_eq_true hy1
  clear bA5 bB5
  go_upto_region 7 with (fail)
  go_quiet (fail)
  go_wp2_with fail
  refine (awake_any _).mono ?_
  rintro e w6 ⟨rfl, hb6⟩
  have L6 : Below W.heap.size W w6 := by repeat' (first | (with_reducible exact Below.refl _ _) | (with_reducible refine Rd.below_step ?_ (by assumption)) | (with_reducible refine Rd.below_alloc ?_ _) | (with_reducible refine Rd.below_drewN ?_ _) | (with_reducible refine Below.drew ?_) | (with_reducible refine Below.setCell ?_ ?_ _) | (with_reducible refine Rd.below_setRow ?_ ?_ _) | go_size | (simp only [World.size_alloc]; omega) | omega)
  go_wp2
  go_ret
  exact ⟨rfl, L6⟩
end Go.Proofs.Ytimfjogallcgnaa.ScO
