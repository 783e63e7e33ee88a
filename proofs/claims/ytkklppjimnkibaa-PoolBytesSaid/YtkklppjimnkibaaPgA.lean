/-
  Depths, sides, whether a page may be, its number: both answers.
-/
import Derived.Test.YtkklppjimnkibaaPgM
import Derived.Test.YtkklppjimnkibaaMid
import Derived.Test.YtkklppjimnkibaaNum
import Derived.Test.YtkklppjimnkibaaShelf
import Derived.BigGuard
import Derived.BigQuiet
namespace Go.Proofs.Ytkklppjimnkibaa.PgA
open Go.RowKit Rd Go.Proofs.Ytkklppjimnkibaa.Row Mid PgM
open Go.Proofs.Ytkklppjimnkibaa.Num (ret_int ret_bool)
set_option linter.unusedVariables false
set_option linter.unusedSimpArgs false
set_option maxRecDepth 10000
theorem isDepth_any (d : Int) (w : World) :
    Calls Try.prog 55 #[.int .i64 d] w fun e w' => e = .returned (.bool (depthB d)) ∧ Below w.heap.size w w' := by
  by_cases a : 0 ≤ d
  · by_cases b : d ≤ 3
    · have E := Lib.hid (depth_mk a b)
      have a1 : decide (0 ≤ d) = true := by simpa using a
      have b1 : decide (d ≤ 3) = true := by simpa using b
      go_enter Try.func55, Try.ntmps55
      go_wp2
      go_ret
      exact ⟨by first | exact ret_bool E.out.symm | rfl, by repeat' (first | (with_reducible exact Below.refl _ _) | (with_reducible refine Rd.below_step ?_ (by assumption)) | (with_reducible refine Rd.below_alloc ?_ _) | (with_reducible refine Rd.below_drewN ?_ _) | (with_reducible refine Below.drew ?_) | (with_reducible refine Below.setCell ?_ ?_ _) | (with_reducible refine Rd.below_setRow ?_ ?_ _) | go_size | (simp only [World.size_alloc]; omega) | omega)⟩
    · have E := Lib.hid (depth_no (d := d) (by omega))
      have a1 : decide (0 ≤ d) = true := by simpa using a
      have b1 : decide (d ≤ 3) = false := by simpa using b
      go_enter Try.func55, Try.ntmps55
      go_wp2
      go_ret
      exact ⟨by first | exact ret_bool E.out.symm | rfl, by repeat' (first | (with_reducible exact Below.refl _ _) | (with_reducible refine Rd.below_step ?_ (by assumption)) | (with_reducible refine Rd.below_alloc ?_ _) | (with_reducible refine Rd.below_drewN ?_ _) | (with_reducible refine Below.drew ?_) | (with_reducible refine Below.setCell ?_ ?_ _) | (with_reducible refine Rd.below_setRow ?_ ?_ _) | go_size | (simp only [World.size_alloc]; omega) | omega)⟩
  · have E := Lib.hid (depth_no (d := d) (by omega))
    have a1 : decide (0 ≤ d) = false := by simpa using a
    go_enter Try.func55, Try.ntmps55
    go_wp2
    go_ret
    exact ⟨by first | exact ret_bool E.out.symm | rfl, by repeat' (first | (with_reducible exact Below.refl _ _) | (with_reducible refine Rd.below_step ?_ (by assumption)) | (with_reducible refine Rd.below_alloc ?_ _) | (with_reducible refine Rd.below_drewN ?_ _) | (with_reducible refine Below.drew ?_) | (with_reducible refine Below.setCell ?_ ?_ _) | (with_reducible refine Rd.below_setRow ?_ ?_ _) | go_size | (simp only [World.size_alloc]; omega) | omega)⟩
theorem side_any (d l : Int) (h0 : 0 ≤ l) (h1 : l ≤ d) (h2 : d ≤ 3) (w : World) :
    Calls Try.prog 57 #[.int .i64 d, .int .i64 l] w fun e w' => e = .returned (.int .i64 (sd d l)) ∧ Below w.heap.size w w' := by
  rcases ten h0 h1 h2 with ⟨rfl, rfl⟩ | ⟨rfl, rfl⟩ | ⟨rfl, rfl⟩ | ⟨rfl, rfl⟩ | ⟨rfl, rfl⟩ | ⟨rfl, rfl⟩ | ⟨rfl, rfl⟩ | ⟨rfl, rfl⟩ | ⟨rfl, rfl⟩ | ⟨rfl, rfl⟩
  all_goals
    go_enter Try.func57, Try.ntmps57
    go_wp2
    go_ret
    exact ⟨rfl, by repeat' (first | (with_reducible exact Below.refl _ _) | (with_reducible refine Rd.below_step ?_ (by assumption)) | (with_reducible refine Rd.below_alloc ?_ _) | (with_reducible refine Rd.below_drewN ?_ _) | (with_reducible refine Below.drew ?_) | (with_reducible refine Below.setCell ?_ ?_ _) | (with_reducible refine Rd.below_setRow ?_ ?_ _) | go_size | (simp only [World.size_alloc]; omega) | omega)⟩
theorem rside_any (d l : Int) (h0 : 0 ≤ l) (h1 : l ≤ d) (h2 : d ≤ 3) (w : World) :
    Calls Try.prog 45 #[.int .i64 d, .int .i64 l] w fun e w' => e = .returned (.int .i64 (sd d l)) ∧ Below w.heap.size w w' := by
  rcases ten h0 h1 h2 with ⟨rfl, rfl⟩ | ⟨rfl, rfl⟩ | ⟨rfl, rfl⟩ | ⟨rfl, rfl⟩ | ⟨rfl, rfl⟩ | ⟨rfl, rfl⟩ | ⟨rfl, rfl⟩ | ⟨rfl, rfl⟩ | ⟨rfl, rfl⟩ | ⟨rfl, rfl⟩
  all_goals
    go_enter Try.func45, Try.ntmps45
    go_wp2
    go_ret
    exact ⟨rfl, by repeat' (first | (with_reducible exact Below.refl _ _) | (with_reducible refine Rd.below_step ?_ (by assumption)) | (with_reducible refine Rd.below_alloc ?_ _) | (with_reducible refine Rd.below_drewN ?_ _) | (with_reducible refine Below.drew ?_) | (with_reducible refine Below.setCell ?_ ?_ _) | (with_reducible refine Rd.below_setRow ?_ ?_ _) | go_size | (simp only [World.size_alloc]; omega) | omega)⟩
theorem ahead_any (d l : Int) (h0 : 0 ≤ l) (h1 : l ≤ d) (h2 : d ≤ 3) (w : World) :
    Calls Try.prog 56 #[.int .i64 d, .int .i64 l] w fun e w' => e = .returned (.int .i64 (frontV d l)) ∧ Below w.heap.size w w' := by
  have b := sd_bd h0 h1 h2
  have CS := Lib.hid (fun X => side_any d l h0 h1 h2 X)
  have EA := Lib.hid (show frontV d l = (sd d l * sd d l - 1).tdiv 3 from rfl)
  obtain ⟨s, es⟩ : ∃ s, sd d l = s := ⟨_, rfl⟩
  rw [es] at b CS EA
  clear es
  have p := Mid.prod_bd (a := s) (b := s) (A := 8) (B := 8) (by omega) (by omega) (by omega) (by omega)
  go_enter Try.func56, Try.ntmps56
  go_wp2_with (go_at_call 57; refine (CS.out _).mono ?_; rintro e w' ⟨rfl, hb⟩)
  go_ret
  exact ⟨by rw [EA.out]; rfl, by repeat' (first | (with_reducible exact Below.refl _ _) | (with_reducible refine Rd.below_step ?_ (by assumption)) | (with_reducible refine Rd.below_alloc ?_ _) | (with_reducible refine Rd.below_drewN ?_ _) | (with_reducible refine Below.drew ?_) | (with_reducible refine Below.setCell ?_ ?_ _) | (with_reducible refine Rd.below_setRow ?_ ?_ _) | go_size | (simp only [World.size_alloc]; omega) | omega)⟩
theorem rwithin_any (n a b : Int) (W : World) :
    Calls Try.prog 44 #[.int .i64 n, .int .i64 a, .int .i64 b] W fun e w' => e = .returned (.bool (decide (a ≤ n ∧ n ≤ b))) ∧ Below W.heap.size W w' := by
  by_cases h1 : a ≤ n
  · by_cases h2 : n ≤ b
    · have E := Lib.hid (show decide (a ≤ n ∧ n ≤ b) = true from decide_eq_true ⟨h1, h2⟩)
      have d1 : decide (a ≤ n) = true := by simpa using h1
      have d2 : decide (n ≤ b) = true := by simpa using h2
      go_enter Try.func44, Try.ntmps44
      go_wp2
      go_ret
      exact ⟨by first | exact ret_bool E.out.symm | rfl, by repeat' (first | (with_reducible exact Below.refl _ _) | (with_reducible refine Rd.below_step ?_ (by assumption)) | (with_reducible refine Rd.below_alloc ?_ _) | (with_reducible refine Rd.below_drewN ?_ _) | (with_reducible refine Below.drew ?_) | (with_reducible refine Below.setCell ?_ ?_ _) | (with_reducible refine Rd.below_setRow ?_ ?_ _) | go_size | (simp only [World.size_alloc]; omega) | omega)⟩
    · have E := Lib.hid (show decide (a ≤ n ∧ n ≤ b) = false from decide_eq_false (by omega))
      have d1 : decide (a ≤ n) = true := by simpa using h1
      have d2 : decide (n ≤ b) = false := by simpa using h2
      go_enter Try.func44, Try.ntmps44
      go_wp2
      go_ret
      exact ⟨by first | exact ret_bool E.out.symm | rfl, by repeat' (first | (with_reducible exact Below.refl _ _) | (with_reducible refine Rd.below_step ?_ (by assumption)) | (with_reducible refine Rd.below_alloc ?_ _) | (with_reducible refine Rd.below_drewN ?_ _) | (with_reducible refine Below.drew ?_) | (with_reducible refine Below.setCell ?_ ?_ _) | (with_reducible refine Rd.below_setRow ?_ ?_ _) | go_size | (simp only [World.size_alloc]; omega) | omega)⟩
  · have E := Lib.hid (show decide (a ≤ n ∧ n ≤ b) = false from decide_eq_false (by omega))
    have d1 : decide (a ≤ n) = false := by simpa using h1
    go_enter Try.func44, Try.ntmps44
    go_wp2
    go_ret
    exact ⟨by first | exact ret_bool E.out.symm | rfl, by repeat' (first | (with_reducible exact Below.refl _ _) | (with_reducible refine Rd.below_step ?_ (by assumption)) | (with_reducible refine Rd.below_alloc ?_ _) | (with_reducible refine Rd.below_drewN ?_ _) | (with_reducible refine Below.drew ?_) | (with_reducible refine Below.setCell ?_ ?_ _) | (with_reducible refine Rd.below_setRow ?_ ?_ _) | go_size | (simp only [World.size_alloc]; omega) | omega)⟩

/-! A page by value, in its box -/
theorem load_pg (x : Value) : Instr.loadAt 35 x = loadRow 35 x := rfl
theorem store_pg (x v : Value) : Instr.storeAt 35 x v = storeRow 35 x v := rfl
theorem run_load_pg (g o : Nat) (W : World) : (loadRow 35 (.pointer (some ⟨g, o, none⟩))).run Try.prog W = midLoad Try.prog 35 3 g o W := run_loadMid Try.underlying35 rfl (by kernel_rfl) g o W
theorem run_store_pg (g o : Nat) (c : Array Value) (W : World) : (storeRow 35 (.pointer (some ⟨g, o, none⟩)) (.agg c)).run Try.prog W = rowStore Try.prog 35 3 g o c W := run_storeRow (by kernel_rfl) g o c W
theorem pc3 (a b c : Value) : Mid.piece #[a, b, c] 0 3 = #[a, b, c] := rfl
theorem info_pg : (Try.prog.info? 35).map (·.size) = some 3 := by kernel_rfl
theorem ret_pg1 {fn : Func} {R : Ending → World → Prop} {a : Act} {W : World} {p : Tmp} (h : fn.results = #[.cell p 35]) (g : Nat) (l : List Int) (hp : a.tmps.getD p undef = .pointer (some ⟨g, 0, none⟩)) (hl : l.length = 3)
    (hg : blk W g = some (.cells (cs .i64 l) 35 (0, 0))) (hd : a.defers = []) (hR : R (.returned (.agg (cs .i64 l))) W) : bodyPost Try.prog fn R .ret a W :=
  bodyPost_ret (results_row1 h _ _ g _ _ _ _ hp hg Try.underlying35 rfl (by rw [info_pg]; simp [hl])) hd hR
theorem ret_pg2 {fn : Func} {R : Ending → World → Prop} {a : Act} {W : World} {p q : Tmp} (h : fn.results = #[.cell p 35, .tmp q]) (g : Nat) (l : List Int) (hp : a.tmps.getD p undef = .pointer (some ⟨g, 0, none⟩)) (hl : l.length = 3)
    (hg : blk W g = some (.cells (cs .i64 l) 35 (0, 0))) (hd : a.defers = []) (hR : R (.returned (.tuple #[.agg (cs .i64 l), a.tmps.getD q undef])) W) : bodyPost Try.prog fn R .ret a W :=
  bodyPost_ret (results_row2 h _ _ g _ _ _ _ hp hg Try.underlying35 rfl (by rw [info_pg]; simp [hl])) hd hR
attribute [local go_sem ↓] load_pg store_pg
attribute [local go_sem] one_int pc3 run_load_pg run_store_pg midLoad_eq rowLoad_eq rowStore_eq blk_alloc_at blk_alloc_old blk_drew blk_drewN blk_set_far blk_set_far' blk_grow setRow_alloc_at setRow_alloc_old setRow_drew setRow_drewN
abbrev pg (L X Y : Int) : Value := .agg #[.int .i64 L, .int .i64 X, .int .i64 Y]

set_option maxHeartbeats 1000000 in
theorem valid_any (d L X Y : Int) (w : World) :
    Calls Try.prog 59 #[.int .i64 d, pg L X Y] w fun e w' => e = .returned (.bool (validB d L X Y)) ∧ Below w.heap.size w w' := by
  go_enter Try.func59, Try.ntmps59
  go_wp2_with fail
  refine (isDepth_any d _).mono ?_
  rintro e w1 ⟨rfl, hb1⟩
  have s1 := hb1.size
  simp only [World.size_alloc] at s1
  have bP : blk w1 w.heap.size = some (.cells #[.int .i64 L, .int .i64 X, .int .i64 Y] 35 (0, 0)) := (blk_below hb1 _ (by simp)).trans (blk_alloc_at _ _ _ rfl)
  have L1 : Below w.heap.size w w1 := by repeat' (first | (with_reducible exact Below.refl _ _) | (with_reducible refine Rd.below_step ?_ (by assumption)) | (with_reducible refine Rd.below_alloc ?_ _) | (with_reducible refine Rd.below_drewN ?_ _) | (with_reducible refine Below.drew ?_) | (with_reducible refine Below.setCell ?_ ?_ _) | (with_reducible refine Rd.below_setRow ?_ ?_ _) | go_size | (simp only [World.size_alloc]; omega) | omega)
  have c0 : w1.cell? ⟨w.heap.size, 0, none⟩ = some (.int .i64 L) := by rw [blk_cell bP]; rfl
  clear hb1
  obtain ⟨qd, ed⟩ : ∃ q, depthB d = q := ⟨_, rfl⟩
  rw [ed]
  have ED := Lib.hid ed
  clear ed
  cases qd
  case false =>
    have E := Lib.hid (valid_no (d := d) (L := L) (X := X) (Y := Y) (fun h => by have := of_decide_eq_false ED.out; exact this h.1))
    go_wp2
    go_ret
    exact ⟨by first | exact ret_bool E.out.symm | rfl, by repeat' (first | (with_reducible exact Below.refl _ _) | (with_reducible refine Rd.below_step ?_ (by assumption)) | (with_reducible refine Rd.below_alloc ?_ _) | (with_reducible refine Rd.below_drewN ?_ _) | (with_reducible refine Below.drew ?_) | (with_reducible refine Below.setCell ?_ ?_ _) | (with_reducible refine Rd.below_setRow ?_ ?_ _) | go_size | (simp only [World.size_alloc]; omega) | omega)⟩
  have hd := depth_yes ED.out
  by_cases h0 : 0 ≤ L
  case neg =>
    have E := Lib.hid (valid_no (d := d) (L := L) (X := X) (Y := Y) (fun h => by omega))
    have d0 : decide (L < 0) = true := decide_eq_true (by omega)
    go_wp2
    go_ret
    exact ⟨by first | exact ret_bool E.out.symm | rfl, by repeat' (first | (with_reducible exact Below.refl _ _) | (with_reducible refine Rd.below_step ?_ (by assumption)) | (with_reducible refine Rd.below_alloc ?_ _) | (with_reducible refine Rd.below_drewN ?_ _) | (with_reducible refine Below.drew ?_) | (with_reducible refine Below.setCell ?_ ?_ _) | (with_reducible refine Rd.below_setRow ?_ ?_ _) | go_size | (simp only [World.size_alloc]; omega) | omega)⟩
  have d0 : decide (L < 0) = false := decide_eq_false (by omega)
  by_cases h1 : L ≤ d
  case neg =>
    have E := Lib.hid (valid_no (d := d) (L := L) (X := X) (Y := Y) (fun h => by omega))
    have d1 : decide (d < L) = true := decide_eq_true (by omega)
    go_wp2
    go_ret
    exact ⟨by first | exact ret_bool E.out.symm | rfl, by repeat' (first | (with_reducible exact Below.refl _ _) | (with_reducible refine Rd.below_step ?_ (by assumption)) | (with_reducible refine Rd.below_alloc ?_ _) | (with_reducible refine Rd.below_drewN ?_ _) | (with_reducible refine Below.drew ?_) | (with_reducible refine Below.setCell ?_ ?_ _) | (with_reducible refine Rd.below_setRow ?_ ?_ _) | go_size | (simp only [World.size_alloc]; omega) | omega)⟩
  have d1 : decide (d < L) = false := decide_eq_false (by omega)
  go_wp2_with fail
  refine (side_any d L h0 h1 hd.2 _).mono ?_
  rintro e w2 ⟨rfl, hb2⟩
  have bP2 := (blk_below hb2 _ (blk_lt bP)).trans bP
  have L2 : Below w.heap.size w w2 := by repeat' (first | (with_reducible exact Below.refl _ _) | (with_reducible refine Rd.below_step ?_ (by assumption)) | (with_reducible refine Rd.below_alloc ?_ _) | (with_reducible refine Rd.below_drewN ?_ _) | (with_reducible refine Below.drew ?_) | (with_reducible refine Below.setCell ?_ ?_ _) | (with_reducible refine Rd.below_setRow ?_ ?_ _) | go_size | (simp only [World.size_alloc]; omega) | omega)
  have c1 : w2.cell? ⟨w.heap.size, 1, none⟩ = some (.int .i64 X) := by rw [blk_cell bP2]; rfl
  have c2 : w2.cell? ⟨w.heap.size, 2, none⟩ = some (.int .i64 Y) := by rw [blk_cell bP2]; rfl
  have VY := Lib.hid (fun (h : (0 ≤ X ∧ X < sd d L) ∧ (0 ≤ Y ∧ Y < sd d L)) => valid_mk (d := d) (L := L) (X := X) (Y := Y) ⟨hd, ⟨h0, h1⟩, h⟩)
  have VN := Lib.hid (fun (h : ¬ ((0 ≤ X ∧ X < sd d L) ∧ (0 ≤ Y ∧ Y < sd d L))) => valid_no (d := d) (L := L) (X := X) (Y := Y) (fun a => h a.2.2))
  obtain ⟨s, es⟩ : ∃ s, sd d L = s := ⟨_, rfl⟩
  rw [es] at VY VN ⊢
  clear es hb2 bP c0 d0 d1
  by_cases x0 : 0 ≤ X
  case neg =>
    have E := Lib.hid (VN.out (by omega))
    have e0 : decide (0 ≤ X) = false := decide_eq_false x0
    go_wp2
    go_ret
    exact ⟨by first | exact ret_bool E.out.symm | rfl, by repeat' (first | (with_reducible exact Below.refl _ _) | (with_reducible refine Rd.below_step ?_ (by assumption)) | (with_reducible refine Rd.below_alloc ?_ _) | (with_reducible refine Rd.below_drewN ?_ _) | (with_reducible refine Below.drew ?_) | (with_reducible refine Below.setCell ?_ ?_ _) | (with_reducible refine Rd.below_setRow ?_ ?_ _) | go_size | (simp only [World.size_alloc]; omega) | omega)⟩
  have e0 : decide (0 ≤ X) = true := decide_eq_true x0
  by_cases x1 : X < s
  case neg =>
    have E := Lib.hid (VN.out (by omega))
    have e1 : decide (X < s) = false := decide_eq_false x1
    go_wp2
    go_ret
    exact ⟨by first | exact ret_bool E.out.symm | rfl, by repeat' (first | (with_reducible exact Below.refl _ _) | (with_reducible refine Rd.below_step ?_ (by assumption)) | (with_reducible refine Rd.below_alloc ?_ _) | (with_reducible refine Rd.below_drewN ?_ _) | (with_reducible refine Below.drew ?_) | (with_reducible refine Below.setCell ?_ ?_ _) | (with_reducible refine Rd.below_setRow ?_ ?_ _) | go_size | (simp only [World.size_alloc]; omega) | omega)⟩
  have e1 : decide (X < s) = true := decide_eq_true x1
  by_cases y0 : 0 ≤ Y
  case neg =>
    have E := Lib.hid (VN.out (by omega))
    have e2 : decide (0 ≤ Y) = false := decide_eq_false y0
    go_wp2
    go_ret
    exact ⟨by first | exact ret_bool E.out.symm | rfl, by repeat' (first | (with_reducible exact Below.refl _ _) | (with_reducible refine Rd.below_step ?_ (by assumption)) | (with_reducible refine Rd.below_alloc ?_ _) | (with_reducible refine Rd.below_drewN ?_ _) | (with_reducible refine Below.drew ?_) | (with_reducible refine Below.setCell ?_ ?_ _) | (with_reducible refine Rd.below_setRow ?_ ?_ _) | go_size | (simp only [World.size_alloc]; omega) | omega)⟩
  have e2 : decide (0 ≤ Y) = true := decide_eq_true y0
  by_cases y1 : Y < s
  case neg =>
    have E := Lib.hid (VN.out (by omega))
    have e3 : decide (Y < s) = false := decide_eq_false y1
    go_wp2
    go_ret
    exact ⟨by first | exact ret_bool E.out.symm | rfl, by repeat' (first | (with_reducible exact Below.refl _ _) | (with_reducible refine Rd.below_step ?_ (by assumption)) | (with_reducible refine Rd.below_alloc ?_ _) | (with_reducible refine Rd.below_drewN ?_ _) | (with_reducible refine Below.drew ?_) | (with_reducible refine Below.setCell ?_ ?_ _) | (with_reducible refine Rd.below_setRow ?_ ?_ _) | go_size | (simp only [World.size_alloc]; omega) | omega)⟩
  have e3 : decide (Y < s) = true := decide_eq_true y1
  have E := Lib.hid (VY.out ⟨⟨x0, x1⟩, y0, y1⟩)
  go_wp2
  go_ret
  exact ⟨by first | exact ret_bool E.out.symm | rfl, by repeat' (first | (with_reducible exact Below.refl _ _) | (with_reducible refine Rd.below_step ?_ (by assumption)) | (with_reducible refine Rd.below_alloc ?_ _) | (with_reducible refine Rd.below_drewN ?_ _) | (with_reducible refine Below.drew ?_) | (with_reducible refine Below.setCell ?_ ?_ _) | (with_reducible refine Rd.below_setRow ?_ ?_ _) | go_size | (simp only [World.size_alloc]; omega) | omega)⟩

set_option maxHeartbeats 1000000 in
theorem key_any (d L X Y : Int) (w : World) :
    Calls Try.prog 38 #[.int .i64 d, pg L X Y] w fun e w' => e = .returned (.int .i64 (keyV d L X Y)) ∧ Below w.heap.size w w' := by
  go_enter Try.func38, Try.ntmps38
  go_wp2_with fail
  refine (valid_any d L X Y _).mono ?_
  rintro e w1 ⟨rfl, hb1⟩
  have s1 := hb1.size
  simp only [World.size_alloc] at s1
  have bP : blk w1 w.heap.size = some (.cells #[.int .i64 L, .int .i64 X, .int .i64 Y] 35 (0, 0)) := (blk_below hb1 _ (by simp)).trans (blk_alloc_at _ _ _ rfl)
  have L1 : Below w.heap.size w w1 := by repeat' (first | (with_reducible exact Below.refl _ _) | (with_reducible refine Rd.below_step ?_ (by assumption)) | (with_reducible refine Rd.below_alloc ?_ _) | (with_reducible refine Rd.below_drewN ?_ _) | (with_reducible refine Below.drew ?_) | (with_reducible refine Below.setCell ?_ ?_ _) | (with_reducible refine Rd.below_setRow ?_ ?_ _) | go_size | (simp only [World.size_alloc]; omega) | omega)
  clear hb1
  obtain ⟨qd, ed⟩ : ∃ q, validB d L X Y = q := ⟨_, rfl⟩
  rw [ed]
  have ED := Lib.hid ed
  clear ed
  cases qd
  case false =>
    have E := Lib.hid (keyV_no ED.out)
    go_wp2
    go_ret
    exact ⟨by rw [E.out]; rfl, by repeat' (first | (with_reducible exact Below.refl _ _) | (with_reducible refine Rd.below_step ?_ (by assumption)) | (with_reducible refine Rd.below_alloc ?_ _) | (with_reducible refine Rd.below_drewN ?_ _) | (with_reducible refine Below.drew ?_) | (with_reducible refine Below.setCell ?_ ?_ _) | (with_reducible refine Rd.below_setRow ?_ ?_ _) | go_size | (simp only [World.size_alloc]; omega) | omega)⟩
  have E := Lib.hid (keyV_yes ED.out)
  have v := valid_yes ED.out
  have CA := Lib.hid (fun X => ahead_any d L v.2.1.1 v.2.1.2 v.1.2 X)
  have CS := Lib.hid (fun X => side_any d L v.2.1.1 v.2.1.2 v.1.2 X)
  have b1 := sd_bd v.2.1.1 v.2.1.2 v.1.2
  have b2 := front_bd v.2.1.1 v.2.1.2 v.1.2
  obtain ⟨s, es⟩ : ∃ s, sd d L = s := ⟨_, rfl⟩
  obtain ⟨a, ea⟩ : ∃ a, frontV d L = a := ⟨_, rfl⟩
  rw [es] at E v CS b1
  rw [ea] at E CA b2
  have hx := v.2.2.1
  have hy := v.2.2.2
  clear es ea v
  have p := Mid.prod_bd (a := s) (b := Y) (A := 8) (B := 8) (by omega) (by omega) (by omega) (by omega)
  have g0 := Go.cell_regrown (w := w1) (a := ⟨w.heap.size, 0, none⟩) (v := .int .i64 L) (by rw [blk_cell bP]; rfl)
  have g1 := Go.cell_regrown (w := w1) (a := ⟨w.heap.size, 1, none⟩) (v := .int .i64 X) (by rw [blk_cell bP]; rfl)
  have g2 := Go.cell_regrown (w := w1) (a := ⟨w.heap.size, 2, none⟩) (v := .int .i64 Y) (by rw [blk_cell bP]; rfl)
  go_upto_region 3 with (fail)
  (refine wp_region_quiet_below (by kernel_rfl) (by kernel_rfl) ?_; (repeat (go_big_quiet_step ((first | (with_reducible exact Calls.regrown_of (CA.out _)) | (with_reducible exact Calls.regrown_of (CS.out _)))))); refine wpQuiet_nil ?_)
  intro w2 hU
  have KU := Rd.below_of_regrown hU
  have L2 : Below w.heap.size w w2 := by repeat' (first | (with_reducible exact Below.refl _ _) | (with_reducible refine Rd.below_step ?_ (by assumption)) | (with_reducible refine Rd.below_alloc ?_ _) | (with_reducible refine Rd.below_drewN ?_ _) | (with_reducible refine Below.drew ?_) | (with_reducible refine Below.setCell ?_ ?_ _) | (with_reducible refine Rd.below_setRow ?_ ?_ _) | go_size | (simp only [World.size_alloc]; omega) | omega)
  clear hU KU g0 g1 g2 CA CS
  go_wp2
  go_ret
  exact ⟨by rw [E.out]; rfl, by repeat' (first | (with_reducible exact Below.refl _ _) | (with_reducible refine Rd.below_step ?_ (by assumption)) | (with_reducible refine Rd.below_alloc ?_ _) | (with_reducible refine Rd.below_drewN ?_ _) | (with_reducible refine Below.drew ?_) | (with_reducible refine Below.setCell ?_ ?_ _) | (with_reducible refine Rd.below_setRow ?_ ?_ _) | go_size | (simp only [World.size_alloc]; omega) | omega)⟩
theorem count_any (d : Int) (w : World) :
    Calls Try.prog 29 #[.int .i64 d] w fun e w' => e = .returned (.int .i64 (countV d)) ∧ Below w.heap.size w w' := by
  go_enter Try.func29, Try.ntmps29
  go_wp2_with fail
  refine (isDepth_any d _).mono ?_
  rintro e w1 ⟨rfl, hb1⟩
  obtain ⟨qd, ed⟩ : ∃ q, depthB d = q := ⟨_, rfl⟩
  rw [ed]
  have ED := Lib.hid ed
  clear ed
  cases qd
  case false =>
    have E := Lib.hid (show countV d = 0 by unfold countV; rw [ED.out]; rfl)
    go_wp2
    go_ret
    exact ⟨by rw [E.out]; rfl, by repeat' (first | (with_reducible exact Below.refl _ _) | (with_reducible refine Rd.below_step ?_ (by assumption)) | (with_reducible refine Rd.below_alloc ?_ _) | (with_reducible refine Rd.below_drewN ?_ _) | (with_reducible refine Below.drew ?_) | (with_reducible refine Below.setCell ?_ ?_ _) | (with_reducible refine Rd.below_setRow ?_ ?_ _) | go_size | (simp only [World.size_alloc]; omega) | omega)⟩
  have E := Lib.hid (show countV d = frontV d 0 + sd d 0 * sd d 0 by unfold countV; rw [ED.out]; rfl)
  have hd := depth_yes ED.out
  have CA := Lib.hid (fun X => ahead_any d 0 (by omega) hd.1 hd.2 X)
  have CS := Lib.hid (fun X => side_any d 0 (by omega) hd.1 hd.2 X)
  have b1 := sd_bd (d := d) (l := 0) (by omega) hd.1 hd.2
  have b2 := front_bd (d := d) (l := 0) (by omega) hd.1 hd.2
  obtain ⟨s, es⟩ : ∃ s, sd d 0 = s := ⟨_, rfl⟩
  obtain ⟨a, ea⟩ : ∃ a, frontV d 0 = a := ⟨_, rfl⟩
  rw [es] at E CS b1
  rw [ea] at E CA b2
  clear es ea
  have p := Mid.prod_bd (a := s) (b := s) (A := 8) (B := 8) (by omega) (by omega) (by omega) (by omega)
  go_wp2_with (first | (go_at_call 56; refine (CA.out _).mono ?_; rintro e w2 ⟨rfl, hb2⟩) | (go_at_call 57; refine (CS.out _).mono ?_; rintro e w' ⟨rfl, hb⟩))
  go_ret
  exact ⟨by rw [E.out]; rfl, by repeat' (first | (with_reducible exact Below.refl _ _) | (with_reducible refine Rd.below_step ?_ (by assumption)) | (with_reducible refine Rd.below_alloc ?_ _) | (with_reducible refine Rd.below_drewN ?_ _) | (with_reducible refine Below.drew ?_) | (with_reducible refine Below.setCell ?_ ?_ _) | (with_reducible refine Rd.below_setRow ?_ ?_ _) | go_size | (simp only [World.size_alloc]; omega) | omega)⟩
end Go.Proofs.Ytkklppjimnkibaa.PgA
