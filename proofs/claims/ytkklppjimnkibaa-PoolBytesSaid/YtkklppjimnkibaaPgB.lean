/-
  The root; who a page is in; two compared; the document's own answers.
-/
import Derived.Test.YtkklppjimnkibaaPgA
namespace Go.Proofs.Ytkklppjimnkibaa.PgB
open Go.RowKit Rd Go.Proofs.Ytkklppjimnkibaa.Row Mid PgM PgA
open Go.Proofs.Ytkklppjimnkibaa.Num (ret_int ret_bool)
set_option linter.unusedVariables false
set_option linter.unusedSimpArgs false
set_option maxRecDepth 10000
attribute [local go_sem ↓] load_pg store_pg
attribute [local go_sem] one_int pc3 run_load_pg run_store_pg midLoad_eq rowLoad_eq rowStore_eq blk_alloc_at blk_alloc_old blk_drew blk_drewN blk_set_far blk_set_far' blk_grow setRow_alloc_at setRow_alloc_old setRow_drew setRow_drewN
theorem root_any (d : Int) (w : World) :
    Calls Try.prog 30 #[.int .i64 d] w fun e w' => e = .returned (.agg (cs .i64 (rootV d))) ∧ Below w.heap.size w w' := by
  go_enter Try.func30, Try.ntmps30
  go_wp2_with fail
  refine (isDepth_any d _).mono ?_
  rintro e w1 ⟨rfl, hb1⟩
  have bR : blk w1 w.heap.size = some (.cells (cs .i64 [0, 0, 0]) 35 (0, 0)) := (blk_below hb1 _ (by simp)).trans (blk_alloc_at _ _ _ rfl)
  have L1 : Below w.heap.size w w1 := by repeat' (first | (with_reducible exact Below.refl _ _) | (with_reducible refine Rd.below_step ?_ (by assumption)) | (with_reducible refine Rd.below_alloc ?_ _) | (with_reducible refine Rd.below_drewN ?_ _) | (with_reducible refine Below.drew ?_) | (with_reducible refine Below.setCell ?_ ?_ _) | (with_reducible refine Rd.below_setRow ?_ ?_ _) | go_size | (simp only [World.size_alloc]; omega) | omega)
  clear hb1
  obtain ⟨qd, ed⟩ : ∃ q, depthB d = q := ⟨_, rfl⟩
  rw [ed]
  have ED : Hid (depthB d = qd) := Lib.hid ed
  clear ed
  cases qd
  case false =>
    have E := Lib.hid (show rootV d = [0, 0, 0] by unfold rootV; rw [ED.out]; rfl)
    go_wp2
    exact ret_pg1 rfl w.heap.size [0, 0, 0] rfl rfl (blk_setRow_of bR _) rfl ⟨by rw [E.out], by repeat' (first | (with_reducible exact Below.refl _ _) | (with_reducible refine Rd.below_step ?_ (by assumption)) | (with_reducible refine Rd.below_alloc ?_ _) | (with_reducible refine Rd.below_drewN ?_ _) | (with_reducible refine Below.drew ?_) | (with_reducible refine Below.setCell ?_ ?_ _) | (with_reducible refine Rd.below_setRow ?_ ?_ _) | go_size | (simp only [World.size_alloc]; omega) | omega)⟩
  have E := Lib.hid (show rootV d = [d, 0, 0] by unfold rootV; rw [ED.out]; rfl)
  go_wp2
  exact ret_pg1 rfl w.heap.size [d, 0, 0] rfl rfl (blk_setRow_of bR _) rfl ⟨by rw [E.out], by repeat' (first | (with_reducible exact Below.refl _ _) | (with_reducible refine Rd.below_step ?_ (by assumption)) | (with_reducible refine Rd.below_alloc ?_ _) | (with_reducible refine Rd.below_drewN ?_ _) | (with_reducible refine Below.drew ?_) | (with_reducible refine Below.setCell ?_ ?_ _) | (with_reducible refine Rd.below_setRow ?_ ?_ _) | go_size | (simp only [World.size_alloc]; omega) | omega)⟩
theorem rroot_any (d : Int) (w : World) :
    Calls Try.prog 34 #[.int .i64 d] w fun e w' => e = .returned (.agg (cs .i64 (rootV d))) ∧ Below w.heap.size w w' := by
  go_enter Try.func34, Try.ntmps34
  go_wp2_with fail
  refine (rwithin_any d 0 3 _).mono ?_
  rintro e w1 ⟨rfl, hb1⟩
  have bR : blk w1 w.heap.size = some (.cells (cs .i64 [0, 0, 0]) 35 (0, 0)) := (blk_below hb1 _ (by simp)).trans (blk_alloc_at _ _ _ rfl)
  have L1 : Below w.heap.size w w1 := by repeat' (first | (with_reducible exact Below.refl _ _) | (with_reducible refine Rd.below_step ?_ (by assumption)) | (with_reducible refine Rd.below_alloc ?_ _) | (with_reducible refine Rd.below_drewN ?_ _) | (with_reducible refine Below.drew ?_) | (with_reducible refine Below.setCell ?_ ?_ _) | (with_reducible refine Rd.below_setRow ?_ ?_ _) | go_size | (simp only [World.size_alloc]; omega) | omega)
  clear hb1
  obtain ⟨qd, ed⟩ : ∃ q, decide (0 ≤ d ∧ d ≤ 3) = q := ⟨_, rfl⟩
  rw [ed]
  have ED : Hid (depthB d = qd) := Lib.hid ed
  clear ed
  cases qd
  case false =>
    have E := Lib.hid (show rootV d = [0, 0, 0] by unfold rootV; rw [ED.out]; rfl)
    go_wp2
    exact ret_pg1 rfl w.heap.size [0, 0, 0] rfl rfl (blk_setRow_of bR _) rfl ⟨by rw [E.out], by repeat' (first | (with_reducible exact Below.refl _ _) | (with_reducible refine Rd.below_step ?_ (by assumption)) | (with_reducible refine Rd.below_alloc ?_ _) | (with_reducible refine Rd.below_drewN ?_ _) | (with_reducible refine Below.drew ?_) | (with_reducible refine Below.setCell ?_ ?_ _) | (with_reducible refine Rd.below_setRow ?_ ?_ _) | go_size | (simp only [World.size_alloc]; omega) | omega)⟩
  have E := Lib.hid (show rootV d = [d, 0, 0] by unfold rootV; rw [ED.out]; rfl)
  go_wp2
  exact ret_pg1 rfl w.heap.size [d, 0, 0] rfl rfl (blk_setRow_of bR _) rfl ⟨by rw [E.out], by repeat' (first | (with_reducible exact Below.refl _ _) | (with_reducible refine Rd.below_step ?_ (by assumption)) | (with_reducible refine Rd.below_alloc ?_ _) | (with_reducible refine Rd.below_drewN ?_ _) | (with_reducible refine Below.drew ?_) | (with_reducible refine Below.setCell ?_ ?_ _) | (with_reducible refine Rd.below_setRow ?_ ?_ _) | go_size | (simp only [World.size_alloc]; omega) | omega)⟩
set_option maxHeartbeats 2000000 in
theorem rvalid_any (d L X Y : Int) (w : World) :
    Calls Try.prog 40 #[.int .i64 d, pg L X Y] w fun e w' => e = .returned (.bool (validB d L X Y)) ∧ Below w.heap.size w w' := by
  have CW := Lib.hid rwithin_any
  go_enter Try.func40, Try.ntmps40
  go_upto_region 1 with (fail)
  refine Rd.name_world ?_
  intro w1 hw
  have bP : blk w1 w.heap.size = some (.cells #[.int .i64 L, .int .i64 X, .int .i64 Y] 35 (0, 0)) := by rw [hw]; exact blk_alloc_at _ _ _ rfl
  have L1 : Below w.heap.size w w1 := by
    rw [hw]
    repeat' (first | (with_reducible exact Below.refl _ _) | (with_reducible refine Rd.below_step ?_ (by assumption)) | (with_reducible refine Rd.below_alloc ?_ _) | (with_reducible refine Rd.below_drewN ?_ _) | (with_reducible refine Below.drew ?_) | (with_reducible refine Below.setCell ?_ ?_ _) | (with_reducible refine Rd.below_setRow ?_ ?_ _) | go_size | (simp only [World.size_alloc]; omega) | omega)
  clear hw
  have g0 := Go.cell_regrown (w := w1) (a := ⟨w.heap.size, 0, none⟩) (v := .int .i64 L) (by rw [blk_cell bP]; rfl)
  have g1 := Go.cell_regrown (w := w1) (a := ⟨w.heap.size, 1, none⟩) (v := .int .i64 X) (by rw [blk_cell bP]; rfl)
  have g2 := Go.cell_regrown (w := w1) (a := ⟨w.heap.size, 2, none⟩) (v := .int .i64 Y) (by rw [blk_cell bP]; rfl)
  clear bP
  by_cases hd : 0 ≤ d ∧ d ≤ 3
  case neg =>
    have C1 : Hid (∀ W : World, Calls Try.prog 44 #[.int .i64 d, .int .i64 0, .int .i64 3] W fun e w' => e = .returned (.bool false) ∧ Below W.heap.size W w') := fun W => by
      have := CW.out d 0 3 W
      rwa [decide_eq_false hd] at this
    have E := Lib.hid (valid_no (d := d) (L := L) (X := X) (Y := Y) (fun h => hd h.1))
    (refine wp_region_quiet_below (by kernel_rfl) (by kernel_rfl) ?_; (repeat (go_big_quiet_step ((first | (with_reducible exact Calls.regrown_of (C1.out _)) )))); refine wpQuiet_nil ?_)
    intro w2 hU
    have KU := Rd.below_of_regrown hU
    have L2 : Below w.heap.size w w2 := by repeat' (first | (with_reducible exact Below.refl _ _) | (with_reducible refine Rd.below_step ?_ (by assumption)) | (with_reducible refine Rd.below_alloc ?_ _) | (with_reducible refine Rd.below_drewN ?_ _) | (with_reducible refine Below.drew ?_) | (with_reducible refine Below.setCell ?_ ?_ _) | (with_reducible refine Rd.below_setRow ?_ ?_ _) | go_size | (simp only [World.size_alloc]; omega) | omega)
    go_wp2
    go_ret
    exact ⟨by first | exact ret_bool E.out.symm | rfl, L2⟩
  have C1 : Hid (∀ W : World, Calls Try.prog 44 #[.int .i64 d, .int .i64 0, .int .i64 3] W fun e w' => e = .returned (.bool true) ∧ Below W.heap.size W w') := fun W => by
    have := CW.out d 0 3 W
    rwa [decide_eq_true hd] at this
  by_cases hL : 0 ≤ L ∧ L ≤ d
  case neg =>
    have C2 : Hid (∀ W : World, Calls Try.prog 44 #[.int .i64 L, .int .i64 0, .int .i64 d] W fun e w' => e = .returned (.bool false) ∧ Below W.heap.size W w') := fun W => by
      have := CW.out L 0 d W
      rwa [decide_eq_false hL] at this
    have E := Lib.hid (valid_no (d := d) (L := L) (X := X) (Y := Y) (fun h => hL h.2.1))
    (refine wp_region_quiet_below (by kernel_rfl) (by kernel_rfl) ?_; (repeat (go_big_quiet_step ((first | (with_reducible exact Calls.regrown_of (C1.out _)) | (with_reducible exact Calls.regrown_of (C2.out _)) )))); refine wpQuiet_nil ?_)
    intro w2 hU
    have KU := Rd.below_of_regrown hU
    have L2 : Below w.heap.size w w2 := by repeat' (first | (with_reducible exact Below.refl _ _) | (with_reducible refine Rd.below_step ?_ (by assumption)) | (with_reducible refine Rd.below_alloc ?_ _) | (with_reducible refine Rd.below_drewN ?_ _) | (with_reducible refine Below.drew ?_) | (with_reducible refine Below.setCell ?_ ?_ _) | (with_reducible refine Rd.below_setRow ?_ ?_ _) | go_size | (simp only [World.size_alloc]; omega) | omega)
    go_wp2
    go_ret
    exact ⟨by first | exact ret_bool E.out.symm | rfl, L2⟩
  have C2 : Hid (∀ W : World, Calls Try.prog 44 #[.int .i64 L, .int .i64 0, .int .i64 d] W fun e w' => e = .returned (.bool true) ∧ Below W.heap.size W w') := fun W => by
    have := CW.out L 0 d W
    rwa [decide_eq_true hL] at this
  have CS := Lib.hid (fun W => rside_any d L hL.1 hL.2 hd.2 W)
  have hs := sd_bd hL.1 hL.2 hd.2
  have VY := Lib.hid (fun (h : (0 ≤ X ∧ X < sd d L) ∧ (0 ≤ Y ∧ Y < sd d L)) => valid_mk (d := d) (L := L) (X := X) (Y := Y) ⟨hd, hL, h⟩)
  have VN := Lib.hid (fun (h : ¬ ((0 ≤ X ∧ X < sd d L) ∧ (0 ≤ Y ∧ Y < sd d L))) => valid_no (d := d) (L := L) (X := X) (Y := Y) (fun a => h a.2.2))
  obtain ⟨s, es⟩ : ∃ s, sd d L = s := ⟨_, rfl⟩
  rw [es] at CS hs VY VN
  clear es
  by_cases hX : 0 ≤ X ∧ X < s
  case neg =>
    have C3 : Hid (∀ W : World, Calls Try.prog 44 #[.int .i64 X, .int .i64 0, .int .i64 (s - 1)] W fun e w' => e = .returned (.bool false) ∧ Below W.heap.size W w') := fun W => by
      have := CW.out X 0 (s - 1) W
      rwa [decide_eq_false (by omega)] at this
    have E := Lib.hid (VN.out (fun h => hX h.1))
    (refine wp_region_quiet_below (by kernel_rfl) (by kernel_rfl) ?_; (repeat (go_big_quiet_step ((first | (with_reducible exact Calls.regrown_of (C1.out _)) | (with_reducible exact Calls.regrown_of (C2.out _)) | (with_reducible exact Calls.regrown_of (CS.out _)) | (with_reducible exact Calls.regrown_of (C3.out _)) )))); refine wpQuiet_nil ?_)
    intro w2 hU
    have KU := Rd.below_of_regrown hU
    have L2 : Below w.heap.size w w2 := by repeat' (first | (with_reducible exact Below.refl _ _) | (with_reducible refine Rd.below_step ?_ (by assumption)) | (with_reducible refine Rd.below_alloc ?_ _) | (with_reducible refine Rd.below_drewN ?_ _) | (with_reducible refine Below.drew ?_) | (with_reducible refine Below.setCell ?_ ?_ _) | (with_reducible refine Rd.below_setRow ?_ ?_ _) | go_size | (simp only [World.size_alloc]; omega) | omega)
    go_wp2
    go_ret
    exact ⟨by first | exact ret_bool E.out.symm | rfl, L2⟩
  have C3 : Hid (∀ W : World, Calls Try.prog 44 #[.int .i64 X, .int .i64 0, .int .i64 (s - 1)] W fun e w' => e = .returned (.bool true) ∧ Below W.heap.size W w') := fun W => by
    have := CW.out X 0 (s - 1) W
    rwa [decide_eq_true (by omega)] at this
  by_cases hY : 0 ≤ Y ∧ Y < s
  case neg =>
    have C4 : Hid (∀ W : World, Calls Try.prog 44 #[.int .i64 Y, .int .i64 0, .int .i64 (s - 1)] W fun e w' => e = .returned (.bool false) ∧ Below W.heap.size W w') := fun W => by
      have := CW.out Y 0 (s - 1) W
      rwa [decide_eq_false (by omega)] at this
    have E := Lib.hid (VN.out (fun h => hY h.2))
    (refine wp_region_quiet_below (by kernel_rfl) (by kernel_rfl) ?_; (repeat (go_big_quiet_step ((first | (with_reducible exact Calls.regrown_of (C1.out _)) | (with_reducible exact Calls.regrown_of (C2.out _)) | (with_reducible exact Calls.regrown_of (CS.out _)) | (with_reducible exact Calls.regrown_of (C3.out _)) | (with_reducible exact Calls.regrown_of (C4.out _)) )))); refine wpQuiet_nil ?_)
    intro w2 hU
    have KU := Rd.below_of_regrown hU
    have L2 : Below w.heap.size w w2 := by repeat' (first | (with_reducible exact Below.refl _ _) | (with_reducible refine Rd.below_step ?_ (by assumption)) | (with_reducible refine Rd.below_alloc ?_ _) | (with_reducible refine Rd.below_drewN ?_ _) | (with_reducible refine Below.drew ?_) | (with_reducible refine Below.setCell ?_ ?_ _) | (with_reducible refine Rd.below_setRow ?_ ?_ _) | go_size | (simp only [World.size_alloc]; omega) | omega)
    go_wp2
    go_ret
    exact ⟨by first | exact ret_bool E.out.symm | rfl, L2⟩
  have C4 : Hid (∀ W : World, Calls Try.prog 44 #[.int .i64 Y, .int .i64 0, .int .i64 (s - 1)] W fun e w' => e = .returned (.bool true) ∧ Below W.heap.size W w') := fun W => by
    have := CW.out Y 0 (s - 1) W
    rwa [decide_eq_true (by omega)] at this
  have E := Lib.hid (VY.out ⟨hX, hY⟩)
  (refine wp_region_quiet_below (by kernel_rfl) (by kernel_rfl) ?_; (repeat (go_big_quiet_step ((first | (with_reducible exact Calls.regrown_of (C1.out _)) | (with_reducible exact Calls.regrown_of (C2.out _)) | (with_reducible exact Calls.regrown_of (CS.out _)) | (with_reducible exact Calls.regrown_of (C3.out _)) | (with_reducible exact Calls.regrown_of (C4.out _)) )))); refine wpQuiet_nil ?_)
  intro w2 hU
  have KU := Rd.below_of_regrown hU
  have L2 : Below w.heap.size w w2 := by repeat' (first | (with_reducible exact Below.refl _ _) | (with_reducible refine Rd.below_step ?_ (by assumption)) | (with_reducible refine Rd.below_alloc ?_ _) | (with_reducible refine Rd.below_drewN ?_ _) | (with_reducible refine Below.drew ?_) | (with_reducible refine Below.setCell ?_ ?_ _) | (with_reducible refine Rd.below_setRow ?_ ?_ _) | go_size | (simp only [World.size_alloc]; omega) | omega)
  go_wp2
  go_ret
  exact ⟨by first | exact ret_bool E.out.symm | rfl, L2⟩
end Go.Proofs.Ytkklppjimnkibaa.PgB
