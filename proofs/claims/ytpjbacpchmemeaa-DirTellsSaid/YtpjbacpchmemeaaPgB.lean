/-
  The root; who a page is in; two compared; the document's own answers.
-/
import Derived.Test.YtpjbacpchmemeaaPgA
namespace Go.Proofs.Ytpjbacpchmemeaa.PgB
open Go.RowKit Rd Go.Proofs.Ytpjbacpchmemeaa.Row Mid PgM PgA
open Go.Proofs.Ytpjbacpchmemeaa.Num (ret_int ret_bool)
set_option linter.unusedVariables false
set_option linter.unusedSimpArgs false
set_option maxRecDepth 10000
attribute [local go_sem ↓] load_pg store_pg
attribute [local go_sem] one_int pc3 run_load_pg run_store_pg midLoad_eq rowLoad_eq rowStore_eq blk_alloc_at blk_alloc_old blk_drew blk_drewN blk_set_far blk_set_far' blk_grow setRow_alloc_at setRow_alloc_old setRow_drew setRow_drewN
theorem compare_any (a b : Int) (w : World) :
    Calls Try.prog 52 #[.int .i64 a, .int .i64 b] w fun e w' => e = .returned (.int .i64 (cmpV a b)) ∧ Below w.heap.size w w' := by
  by_cases h1 : a < b
  · have E := Lib.hid (show cmpV a b = -1 by unfold cmpV; rw [if_pos h1])
    go_enter Try.func52, Try.ntmps52
    go_wp2_with (go_at_call 68; refine (Try.cmp_isNaN_int2 _ _).mono ?_; rintro e w' ⟨rfl, rfl⟩)
    go_ret
    exact ⟨by rw [E.out]; rfl, by repeat' (first | (with_reducible exact Below.refl _ _) | (with_reducible refine Rd.below_step ?_ (by assumption)) | (with_reducible refine Rd.below_alloc ?_ _) | (with_reducible refine Rd.below_drewN ?_ _) | (with_reducible refine Below.drew ?_) | (with_reducible refine Below.setCell ?_ ?_ _) | (with_reducible refine Rd.below_setRow ?_ ?_ _) | go_size | (simp only [World.size_alloc]; omega) | omega)⟩
  · by_cases h2 : b < a
    · have E := Lib.hid (show cmpV a b = 1 by unfold cmpV; rw [if_neg h1, if_pos h2])
      go_enter Try.func52, Try.ntmps52
      go_wp2_with (go_at_call 68; refine (Try.cmp_isNaN_int2 _ _).mono ?_; rintro e w' ⟨rfl, rfl⟩)
      go_ret
      exact ⟨by rw [E.out]; rfl, by repeat' (first | (with_reducible exact Below.refl _ _) | (with_reducible refine Rd.below_step ?_ (by assumption)) | (with_reducible refine Rd.below_alloc ?_ _) | (with_reducible refine Rd.below_drewN ?_ _) | (with_reducible refine Below.drew ?_) | (with_reducible refine Below.setCell ?_ ?_ _) | (with_reducible refine Rd.below_setRow ?_ ?_ _) | go_size | (simp only [World.size_alloc]; omega) | omega)⟩
    · have E := Lib.hid (show cmpV a b = 0 by unfold cmpV; rw [if_neg h1, if_neg h2])
      go_enter Try.func52, Try.ntmps52
      go_wp2_with (go_at_call 68; refine (Try.cmp_isNaN_int2 _ _).mono ?_; rintro e w' ⟨rfl, rfl⟩)
      go_ret
      exact ⟨by rw [E.out]; rfl, by repeat' (first | (with_reducible exact Below.refl _ _) | (with_reducible refine Rd.below_step ?_ (by assumption)) | (with_reducible refine Rd.below_alloc ?_ _) | (with_reducible refine Rd.below_drewN ?_ _) | (with_reducible refine Below.drew ?_) | (with_reducible refine Below.setCell ?_ ?_ _) | (with_reducible refine Rd.below_setRow ?_ ?_ _) | go_size | (simp only [World.size_alloc]; omega) | omega)⟩
theorem cmp_any (d L X Y L' X' Y' : Int) (w : World) :
    Calls Try.prog 30 #[.int .i64 d, pg L X Y, pg L' X' Y'] w fun e w' => e = .returned (.int .i64 (cmpV (keyV d L X Y) (keyV d L' X' Y'))) ∧ Below w.heap.size w w' := by
  have CA := Lib.hid (fun W => key_any d L X Y W)
  have CB := Lib.hid (fun W => key_any d L' X' Y' W)
  have CC := Lib.hid (fun W => compare_any (keyV d L X Y) (keyV d L' X' Y') W)
  obtain ⟨x, ex⟩ : ∃ x, keyV d L X Y = x := ⟨_, rfl⟩
  obtain ⟨y, ey⟩ : ∃ x, keyV d L' X' Y' = x := ⟨_, rfl⟩
  rw [ex] at CA CC ⊢
  rw [ey] at CB CC ⊢
  clear ex ey
  go_enter Try.func30, Try.ntmps30
  go_upto_region 1 with (fail)
  refine Rd.name_world ?_
  intro w1 hw
  have b1 : blk w1 w.heap.size = some (.cells #[.int .i64 L, .int .i64 X, .int .i64 Y] 25 (0, 0)) := by rw [hw]; exact blk2_0 _ _ _
  have b2 : blk w1 (w.heap.size + 1) = some (.cells #[.int .i64 L', .int .i64 X', .int .i64 Y'] 25 (0, 0)) := by rw [hw]; exact blk2_1 _ _ _
  have L1 : Below w.heap.size w w1 := by
    rw [hw]
    repeat' (first | (with_reducible exact Below.refl _ _) | (with_reducible refine Rd.below_step ?_ (by assumption)) | (with_reducible refine Rd.below_alloc ?_ _) | (with_reducible refine Rd.below_drewN ?_ _) | (with_reducible refine Below.drew ?_) | (with_reducible refine Below.setCell ?_ ?_ _) | (with_reducible refine Rd.below_setRow ?_ ?_ _) | go_size | (simp only [World.size_alloc]; omega) | omega)
  clear hw
  have l1 := blk_lt b1
  have l2 := blk_lt b2
  (refine wp_region_quiet_below (by kernel_rfl) (by kernel_rfl) ?_; (repeat (go_big_quiet_step ((first | (with_reducible exact Calls.regrown_of (CA.out _)) | (with_reducible exact Calls.regrown_of (CB.out _)) | (with_reducible exact Calls.regrown_of (CC.out _)))))); refine wpQuiet_nil ?_)
  intro w2 hU
  have KU := Rd.below_of_regrown hU
  have L2 : Below w.heap.size w w2 := by repeat' (first | (with_reducible exact Below.refl _ _) | (with_reducible refine Rd.below_step ?_ (by assumption)) | (with_reducible refine Rd.below_alloc ?_ _) | (with_reducible refine Rd.below_drewN ?_ _) | (with_reducible refine Below.drew ?_) | (with_reducible refine Below.setCell ?_ ?_ _) | (with_reducible refine Rd.below_setRow ?_ ?_ _) | go_size | (simp only [World.size_alloc]; omega) | omega)
  go_wp2
  go_ret
  exact ⟨rfl, L2⟩
set_option maxHeartbeats 2000000 in
theorem rvalid_any (d L X Y : Int) (w : World) :
    Calls Try.prog 34 #[.int .i64 d, pg L X Y] w fun e w' => e = .returned (.bool (validB d L X Y)) ∧ Below w.heap.size w w' := by
  have CW := Lib.hid rwithin_any
  go_enter Try.func34, Try.ntmps34
  go_upto_region 1 with (fail)
  refine Rd.name_world ?_
  intro w1 hw
  have bP : blk w1 w.heap.size = some (.cells #[.int .i64 L, .int .i64 X, .int .i64 Y] 25 (0, 0)) := by rw [hw]; exact blk_alloc_at _ _ _ rfl
  have L1 : Below w.heap.size w w1 := by
    rw [hw]
    repeat' (first | (with_reducible exact Below.refl _ _) | (with_reducible refine Rd.below_step ?_ (by assumption)) | (with_reducible refine Rd.below_alloc ?_ _) | (with_reducible refine Rd.below_drewN ?_ _) | (with_reducible refine Below.drew ?_) | (with_reducible refine Below.setCell ?_ ?_ _) | (with_reducible refine Rd.below_setRow ?_ ?_ _) | go_size | (simp only [World.size_alloc]; omega) | omega)
  clear hw
  have g0 := Go.cell_regrown (w := w1) (a := ⟨w.heap.size, 0, none⟩) (v := .int .i64 L) (by rw [blk_cell bP]; rfl)
  have g1 := Go.cell_regrown (w := w1) (a := ⟨w.heap.size, 1, none⟩) (v := .int .i64 X) (by rw [blk_cell bP]; rfl)
  have g2 := Go.cell_regrown (w := w1) (a := ⟨w.heap.size, 2, none⟩) (v := .int .i64 Y) (by rw [blk_cell bP]; rfl)
  clear bP
  by_cases hd : 0 ≤ d ∧ d ≤ 3
  case neg =>
    have C1 : Hid (∀ W : World, Calls Try.prog 33 #[.int .i64 d, .int .i64 0, .int .i64 3] W fun e w' => e = .returned (.bool false) ∧ Below W.heap.size W w') := fun W => by
      have := CW.out d 0 3 W
      rwa [decide_eq_false hd] at this
    have E := Lib.hid (valid_no (d := d) (L := L) (X := X) (Y := Y) (fun h => hd h.1))
    (refine wp_region_quiet_below (by kernel_rfl) (by kernel_rfl) ?_; (repeat (go_big_quiet_step ((first | (with_reducible exact Calls.regrown_of (C1.out _)) )))); refine wpQuiet_nil ?_)
    intro w2 hU
    have KU := Rd.below_of_regrown hU
    have L2 : Below w.heap.size w w2 := by repeat' (first | (with_reducible exact Below.refl _ _) | (with_reducible refine Rd.below_step ?_ (by assumption)) | (with_reducible refine Rd.below_alloc ?_ _) | (with_reducible refine Rd.below_drewN ?_ _) | (with_reducible refine Below.drew ?_) | (with_reducible refine Below.setCell ?_ ?_ _) | (with_reducible refine Rd.below_setRow ?_ ?_ _) | go_size | (simp only [World.size_alloc]; omega) | omega)
    go_wp2
    go_ret
    exact ⟨by first | exact ret_bool E.out.symm | rfl, L2⟩
  have C1 : Hid (∀ W : World, Calls Try.prog 33 #[.int .i64 d, .int .i64 0, .int .i64 3] W fun e w' => e = .returned (.bool true) ∧ Below W.heap.size W w') := fun W => by
    have := CW.out d 0 3 W
    rwa [decide_eq_true hd] at this
  by_cases hL : 0 ≤ L ∧ L ≤ d
  case neg =>
    have C2 : Hid (∀ W : World, Calls Try.prog 33 #[.int .i64 L, .int .i64 0, .int .i64 d] W fun e w' => e = .returned (.bool false) ∧ Below W.heap.size W w') := fun W => by
      have := CW.out L 0 d W
      rwa [decide_eq_false hL] at this
    have E := Lib.hid (valid_no (d := d) (L := L) (X := X) (Y := Y) (fun h => hL h.2.1))
    (refine wp_region_quiet_below (by kernel_rfl) (by kernel_rfl) ?_; (repeat (go_big_quiet_step ((first | (with_reducible exact Calls.regrown_of (C1.out _)) | (with_reducible exact Calls.regrown_of (C2.out _)) )))); refine wpQuiet_nil ?_)
    intro w2 hU
    have KU := Rd.below_of_regrown hU
    have L2 : Below w.heap.size w w2 := by repeat' (first | (with_reducible exact Below.refl _ _) | (with_reducible refine Rd.below_step ?_ (by assumption)) | (with_reducible refine Rd.below_alloc ?_ _) | (with_reducible refine Rd.below_drewN ?_ _) | (with_reducible refine Below.drew ?_) | (with_reducible refine Below.setCell ?_ ?_ _) | (with_reducible refine Rd.below_setRow ?_ ?_ _) | go_size | (simp only [World.size_alloc]; omega) | omega)
    go_wp2
    go_ret
    exact ⟨by first | exact ret_bool E.out.symm | rfl, L2⟩
  have C2 : Hid (∀ W : World, Calls Try.prog 33 #[.int .i64 L, .int .i64 0, .int .i64 d] W fun e w' => e = .returned (.bool true) ∧ Below W.heap.size W w') := fun W => by
    have := CW.out L 0 d W
    rwa [decide_eq_true hL] at this
  have CS := Lib.hid (fun W => rside_any d L hL.1 hL.2 hd.2 W)
  have hs := sd_bd hL.1 hL.2 hd.2
  have VY := Lib.hid (fun (h : (0 ≤ X ∧ X < sd d L) ∧ (0 ≤ Y ∧ Y < sd d L)) => valid_mk (d := d) (L := L) (X := X) (Y := Y) ⟨hd, hL, h⟩)
  have VN := Lib.hid (fun (h : ¬ ((0 ≤ X ∧ X < sd d L) ∧ (0 ≤ Y ∧ Y < sd d L))) => valid_no (d := d) (L := L) (X := X) (Y := Y) (fun a => h a.2.2))
  obtain ⟨s, es⟩ : ∃ s, sd d L = s := ⟨_, rfl⟩
  rw [es] at CS hs VY VN
  clear es
  by_cases hX : 0 ≤ X ∧ X < s
  case neg =>
    have C3 : Hid (∀ W : World, Calls Try.prog 33 #[.int .i64 X, .int .i64 0, .int .i64 (s - 1)] W fun e w' => e = .returned (.bool false) ∧ Below W.heap.size W w') := fun W => by
      have := CW.out X 0 (s - 1) W
      rwa [decide_eq_false (by omega)] at this
    have E := Lib.hid (VN.out (fun h => hX h.1))
    (refine wp_region_quiet_below (by kernel_rfl) (by kernel_rfl) ?_; (repeat (go_big_quiet_step ((first | (with_reducible exact Calls.regrown_of (C1.out _)) | (with_reducible exact Calls.regrown_of (C2.out _)) | (with_reducible exact Calls.regrown_of (CS.out _)) | (with_reducible exact Calls.regrown_of (C3.out _)) )))); refine wpQuiet_nil ?_)
    intro w2 hU
    have KU := Rd.below_of_regrown hU
    have L2 : Below w.heap.size w w2 := by repeat' (first | (with_reducible exact Below.refl _ _) | (with_reducible refine Rd.below_step ?_ (by assumption)) | (with_reducible refine Rd.below_alloc ?_ _) | (with_reducible refine Rd.below_drewN ?_ _) | (with_reducible refine Below.drew ?_) | (with_reducible refine Below.setCell ?_ ?_ _) | (with_reducible refine Rd.below_setRow ?_ ?_ _) | go_size | (simp only [World.size_alloc]; omega) | omega)
    go_wp2
    go_ret
    exact ⟨by first | exact ret_bool E.out.symm | rfl, L2⟩
  have C3 : Hid (∀ W : World, Calls Try.prog 33 #[.int .i64 X, .int .i64 0, .int .i64 (s - 1)] W fun e w' => e = .returned (.bool true) ∧ Below W.heap.size W w') := fun W => by
    have := CW.out X 0 (s - 1) W
    rwa [decide_eq_true (by omega)] at this
  by_cases hY : 0 ≤ Y ∧ Y < s
  case neg =>
    have C4 : Hid (∀ W : World, Calls Try.prog 33 #[.int .i64 Y, .int .i64 0, .int .i64 (s - 1)] W fun e w' => e = .returned (.bool false) ∧ Below W.heap.size W w') := fun W => by
      have := CW.out Y 0 (s - 1) W
      rwa [decide_eq_false (by omega)] at this
    have E := Lib.hid (VN.out (fun h => hY h.2))
    (refine wp_region_quiet_below (by kernel_rfl) (by kernel_rfl) ?_; (repeat (go_big_quiet_step ((first | (with_reducible exact Calls.regrown_of (C1.out _)) | (with_reducible exact Calls.regrown_of (C2.out _)) | (with_reducible exact Calls.regrown_of (CS.out _)) | (with_reducible exact Calls.regrown_of (C3.out _)) | (with_reducible exact Calls.regrown_of (C4.out _)) )))); refine wpQuiet_nil ?_)
    intro w2 hU
    have KU := Rd.below_of_regrown hU
    have L2 : Below w.heap.size w w2 := by repeat' (first | (with_reducible exact Below.refl _ _) | (with_reducible refine Rd.below_step ?_ (by assumption)) | (with_reducible refine Rd.below_alloc ?_ _) | (with_reducible refine Rd.below_drewN ?_ _) | (with_reducible refine Below.drew ?_) | (with_reducible refine Below.setCell ?_ ?_ _) | (with_reducible refine Rd.below_setRow ?_ ?_ _) | go_size | (simp only [World.size_alloc]; omega) | omega)
    go_wp2
    go_ret
    exact ⟨by first | exact ret_bool E.out.symm | rfl, L2⟩
  have C4 : Hid (∀ W : World, Calls Try.prog 33 #[.int .i64 Y, .int .i64 0, .int .i64 (s - 1)] W fun e w' => e = .returned (.bool true) ∧ Below W.heap.size W w') := fun W => by
    have := CW.out Y 0 (s - 1) W
    rwa [decide_eq_true (by omega)] at this
  have E := Lib.hid (VY.out ⟨hX, hY⟩)
  (refine wp_region_quiet_below (by kernel_rfl) (by kernel_rfl) ?_; (repeat (go_big_quiet_step ((first | (with_reducible exact Calls.regrown_of (C1.out _)) | (with_reducible exact Calls.regrown_of (C2.out _)) | (with_reducible exact Calls.regrown_of (CS.out _)) | (with_reducible exact Calls.regrown_of (C3.out _)) | (with_reducible exact Calls.regrown_of (C4.out _)) )))); refine wpQuiet_nil ?_)
  intro w2 hU
  have KU := Rd.below_of_regrown hU
  have L2 : Below w.heap.size w w2 := by repeat' (first | (with_reducible exact Below.refl _ _) | (with_reducible refine Rd.below_step ?_ (by assumption)) | (with_reducible refine Rd.below_alloc ?_ _) | (with_reducible refine Rd.below_drewN ?_ _) | (with_reducible refine Below.drew ?_) | (with_reducible refine Below.setCell ?_ ?_ _) | (with_reducible refine Rd.below_setRow ?_ ?_ _) | go_size | (simp only [World.size_alloc]; omega) | omega)
  go_wp2
  go_ret
  exact ⟨by first | exact ret_bool E.out.symm | rfl, L2⟩
set_option maxHeartbeats 2000000 in
theorem rkey_any (d L X Y : Int) (w : World) :
    Calls Try.prog 35 #[.int .i64 d, pg L X Y] w fun e w' => e = .returned (.int .i64 (keyV d L X Y)) ∧ Below w.heap.size w w' := by
  go_enter Try.func35, Try.ntmps35
  go_wp2_with fail
  refine (rvalid_any d L X Y _).mono ?_
  rintro e w1 ⟨rfl, hb1⟩
  have s1 := hb1.size
  simp only [World.size_alloc] at s1
  have bP : blk w1 w.heap.size = some (.cells #[.int .i64 L, .int .i64 X, .int .i64 Y] 25 (0, 0)) := (blk_below hb1 _ (by simp)).trans (blk_alloc_at _ _ _ rfl)
  have L1 : Below w.heap.size w w1 := by repeat' (first | (with_reducible exact Below.refl _ _) | (with_reducible refine Rd.below_step ?_ (by assumption)) | (with_reducible refine Rd.below_alloc ?_ _) | (with_reducible refine Rd.below_drewN ?_ _) | (with_reducible refine Below.drew ?_) | (with_reducible refine Below.setCell ?_ ?_ _) | (with_reducible refine Rd.below_setRow ?_ ?_ _) | go_size | (simp only [World.size_alloc]; omega) | omega)
  clear hb1
  obtain ⟨qd, ed⟩ : ∃ q, validB d L X Y = q := ⟨_, rfl⟩
  rw [ed]
  have ED := Lib.hid ed
  clear ed
  cases qd
  case false =>
    have E := Lib.hid (keyV_no ED.out)
    go_wp2
    go_ret
    exact ⟨by rw [E.out]; rfl, by repeat' (first | (with_reducible exact Below.refl _ _) | (with_reducible refine Rd.below_step ?_ (by assumption)) | (with_reducible refine Rd.below_alloc ?_ _) | (with_reducible refine Rd.below_drewN ?_ _) | (with_reducible refine Below.drew ?_) | (with_reducible refine Below.setCell ?_ ?_ _) | (with_reducible refine Rd.below_setRow ?_ ?_ _) | go_size | (simp only [World.size_alloc]; omega) | omega)⟩
  have E := Lib.hid (keyV_yes ED.out)
  have v := valid_yes ED.out
  obtain ⟨⟨d0, d3⟩, ⟨l0, l1⟩, hx, hy⟩ := v
  have BP := Lib.hid bP
  have lP := blk_lt bP
  clear bP
  go_wp2_with fail
  go_loopw [5, 6] (fun n i W => ∃ l : Int, L ≤ l ∧ l ≤ d ∧ i = .int .i64 l ∧ n = .int .i64 (frontV d l) ∧ Below w1.heap.size w1 W) (fun n i _ => (intOf i + 1).toNat)
  case atStart => exact ⟨d, by omega, by omega, rfl, by rw [front_top d0 d3], Below.refl _ _⟩
  case round =>
    obtain ⟨l, hl0, hl1, rfl, rfl, hb⟩ := hrel
    rename World => W
    have bW := (blk_below hb _ lP).trans BP.out
    have fb := front_bd (d := d) (l := l) (by omega) hl1 d3
    by_cases hlt : L < l
    · have c0 : W.cell? ⟨w.heap.size, 0, none⟩ = some (.int .i64 L) := by rw [blk_cell bW]; rfl
      have CS := Lib.hid (fun X => rside_any d l (by omega) hl1 d3 X)
      have ST := Lib.hid (front_step (d := d) (l := l) (by omega) hl1 d3)
      have sb := sd_bd (d := d) (l := l) (by omega) hl1 d3
      obtain ⟨s, es⟩ : ∃ s, sd d l = s := ⟨_, rfl⟩
      obtain ⟨a, ea⟩ : ∃ a, frontV d l = a := ⟨_, rfl⟩
      rw [es] at CS ST sb
      rw [ea] at ST fb ⊢
      clear es ea
      have p := Mid.prod_bd (a := s) (b := s) (A := 8) (B := 8) (by omega) (by omega) (by omega) (by omega)
      have hs := hb.size
      go_wp2_with (go_at_call 45; refine (CS.out _).mono ?_; rintro e w' ⟨rfl, hb'⟩; have hs' := hb'.size)
      exact ⟨⟨l - 1, by omega, by omega, by go_num, by rw [← ST.out], by repeat' (first | (with_reducible exact Below.refl _ _) | (with_reducible refine Rd.below_step ?_ (by assumption)) | (with_reducible refine Rd.below_alloc ?_ _) | (with_reducible refine Rd.below_drewN ?_ _) | (with_reducible refine Below.drew ?_) | (with_reducible refine Below.setCell ?_ ?_ _) | (with_reducible refine Rd.below_setRow ?_ ?_ _) | go_size | (simp only [World.size_alloc]; omega) | omega)⟩, by simp [intOf]; omega⟩
    · obtain rfl : L = l := by omega
      have CS := Lib.hid (fun X => rside_any d L l0 l1 d3 X)
      have sb := sd_bd l0 l1 d3
      obtain ⟨s, es⟩ : ∃ s, sd d L = s := ⟨_, rfl⟩
      obtain ⟨a, ea⟩ : ∃ a, frontV d L = a := ⟨_, rfl⟩
      rw [es] at CS sb E hx hy
      rw [ea] at E fb ⊢
      clear es ea
      have p := Mid.prod_bd (a := Y) (b := s) (A := 8) (B := 8) (by omega) (by omega) (by omega) (by omega)
      have c0 : W.cell? ⟨w.heap.size, 0, none⟩ = some (.int .i64 L) := by rw [blk_cell bW]; rfl
      have g0 := Go.cell_regrown (w := W) (a := ⟨w.heap.size, 0, none⟩) (v := .int .i64 L) (by rw [blk_cell bW]; rfl)
      have g1 := Go.cell_regrown (w := W) (a := ⟨w.heap.size, 1, none⟩) (v := .int .i64 X) (by rw [blk_cell bW]; rfl)
      have g2 := Go.cell_regrown (w := W) (a := ⟨w.heap.size, 2, none⟩) (v := .int .i64 Y) (by rw [blk_cell bW]; rfl)
      have LW : Below w.heap.size w W := L1.trans (hb.mono L1.size)
      go_upto_region 8 with (fail)
      (refine wp_region_quiet_below (by kernel_rfl) (by kernel_rfl) ?_; (repeat (go_big_quiet_step ((first | (with_reducible exact Calls.regrown_of (CS.out _)))))); refine wpQuiet_nil ?_)
      intro w2 hU
      have KU := Rd.below_of_regrown hU
      have L2 : Below w.heap.size w w2 := by repeat' (first | (with_reducible exact Below.refl _ _) | (with_reducible refine Rd.below_step ?_ (by assumption)) | (with_reducible refine Rd.below_alloc ?_ _) | (with_reducible refine Rd.below_drewN ?_ _) | (with_reducible refine Below.drew ?_) | (with_reducible refine Below.setCell ?_ ?_ _) | (with_reducible refine Rd.below_setRow ?_ ?_ _) | go_size | (simp only [World.size_alloc]; omega) | omega)
      clear hU KU g0 g1 g2 CS
      go_wp2
      go_ret
      exact ⟨by rw [E.out, Int.mul_comm s Y]; rfl, by repeat' (first | (with_reducible exact Below.refl _ _) | (with_reducible refine Rd.below_step ?_ (by assumption)) | (with_reducible refine Rd.below_alloc ?_ _) | (with_reducible refine Rd.below_drewN ?_ _) | (with_reducible refine Below.drew ?_) | (with_reducible refine Below.setCell ?_ ?_ _) | (with_reducible refine Rd.below_setRow ?_ ?_ _) | go_size | (simp only [World.size_alloc]; omega) | omega)⟩
end Go.Proofs.Ytpjbacpchmemeaa.PgB
