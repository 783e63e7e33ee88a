/-
  The walks of the laws of package hue, but for the first.
-/
import Derived.Test.YthlgokaehkifkaaHueD
import Derived.Test.YthlgokaehkifkaaFlat
namespace Go.Proofs.Ythlgokaehkifkaa.HueE
open Go.RowKit HueA Rd HueB HueC HueD
set_option linter.unusedVariables false
set_option linter.unusedSimpArgs false
set_option maxRecDepth 10000
attribute [local go_sem] Eq.eq_col

theorem mix_lo {t a b : Int} (h0 : 0 ≤ t) (h1 : t ≤ 256) (p : B8 a) (q : B8 b) : min a b ≤ mixB t a b ∧ mixB t a b ≤ max a b := by
  obtain ⟨k1, k2, k3, k4, k5⟩ := mix_bd h0 h1 p q
  unfold mixB
  rcases Int.le_total a b with h | h
  · have e1 : (256 - t) * a + t * a = 256 * a := by rw [← Int.add_mul]; congr 1; omega
    have e2 : t * a ≤ t * b := Int.mul_le_mul_of_nonneg_left h h0
    have e3 : (256 - t) * b + t * b = 256 * b := by rw [← Int.add_mul]; congr 1; omega
    have e4 : (256 - t) * a ≤ (256 - t) * b := Int.mul_le_mul_of_nonneg_left h (by omega)
    omega
  · have e1 : (256 - t) * a + t * a = 256 * a := by rw [← Int.add_mul]; congr 1; omega
    have e2 : t * b ≤ t * a := Int.mul_le_mul_of_nonneg_left h h0
    have e3 : (256 - t) * b + t * b = 256 * b := by rw [← Int.add_mul]; congr 1; omega
    have e4 : (256 - t) * b ≤ (256 - t) * a := Int.mul_le_mul_of_nonneg_left h (by omega)
    omega
theorem mix_0 (a b : Int) (p : B8 a) : mixB (clamp 0) a b = a := by
  have : clamp 0 = 0 := by decide
  rw [this]; unfold mixB; simp only [B8] at p; omega
theorem mix_m (a b : Int) (p : B8 a) : mixB (clamp (-1)) a b = a := by
  have : clamp (-1) = 0 := by decide
  rw [this]; unfold mixB; simp only [B8] at p; omega
theorem mix_256 (a b : Int) (p : B8 b) : mixB (clamp 256) a b = b := by
  have : clamp 256 = 256 := by decide
  rw [this]; unfold mixB; simp only [B8] at p; omega
theorem mix_999 (a b : Int) (p : B8 b) : mixB (clamp 999) a b = b := by
  have : clamp 999 = 256 := by decide
  rw [this]; unfold mixB; simp only [B8] at p; omega
theorem mix_same (t a : Int) (p : B8 a) : mixB t a a = a := by
  unfold mixB
  have e1 : (256 - t) * a + t * a = 256 * a := by rw [← Int.add_mul]; congr 1; omega
  simp only [B8] at p; omega
theorem mean_same (a : Int) : meanB a a a a = a := by unfold meanB; omega
theorem times_255 (a : Int) (p : B8 a) : timesB a 255 = a := by unfold timesB; simp only [B8] at p; omega
theorem times_255' (a : Int) (p : B8 a) : timesB 255 a = a := by unfold timesB; simp only [B8] at p; omega
theorem times_0 (a : Int) : timesB a 0 = 0 := by unfold timesB; omega
theorem times_comm (a b : Int) : timesB a b = timesB b a := by unfold timesB; rw [Int.mul_comm]
theorem b8_of {a : Int} (h : (Lit.int .u8 a).wf = true) : B8 a := bounds_u8 h

set_option maxHeartbeats 4000000 in
theorem HueKeeps_walk (a0_0 : Int) (a0_1 : Int) (a0_2 : Int) (a0_3 : Int) (a1_0 : Int) (a1_1 : Int) (a1_2 : Int) (a1_3 : Int) (a2 : Int) (w : World) (w0_0 : (Lit.int .u8 a0_0).wf = true) (w0_1 : (Lit.int .u8 a0_1).wf = true) (w0_2 : (Lit.int .u8 a0_2).wf = true) (w0_3 : (Lit.int .u8 a0_3).wf = true) (w1_0 : (Lit.int .u8 a1_0).wf = true) (w1_1 : (Lit.int .u8 a1_1).wf = true) (w1_2 : (Lit.int .u8 a1_2).wf = true) (w1_3 : (Lit.int .u8 a1_3).wf = true) (w2 : (Lit.int .i64 a2).wf = true) :
    Calls Try.prog 4 #[.agg #[.int .u8 a0_0, .int .u8 a0_1, .int .u8 a0_2, .int .u8 a0_3], .agg #[.int .u8 a1_0, .int .u8 a1_1, .int .u8 a1_2, .int .u8 a1_3], .int .i64 a2] w fun e w' => e = .returned (.bool true) ∧ Below w.heap.size w w' := by
  have p0_0 := b8_of w0_0
  have p0_1 := b8_of w0_1
  have p0_2 := b8_of w0_2
  have p0_3 := b8_of w0_3
  have p1_0 := b8_of w1_0
  have p1_1 := b8_of w1_1
  have p1_2 := b8_of w1_2
  have p1_3 := b8_of w1_3
  have m0 := mix_lo (clamp_bd a2).1 (clamp_bd a2).2 p0_0 p1_0
  have q0 := mixB_bd (clamp_bd a2).1 (clamp_bd a2).2 p0_0 p1_0
  obtain ⟨y0, hg0⟩ : ∃ y, mixB (clamp a2) a0_0 a1_0 = y := ⟨_, rfl⟩
  rw [hg0] at m0 q0
  have m1 := mix_lo (clamp_bd a2).1 (clamp_bd a2).2 p0_1 p1_1
  have q1 := mixB_bd (clamp_bd a2).1 (clamp_bd a2).2 p0_1 p1_1
  obtain ⟨y1, hg1⟩ : ∃ y, mixB (clamp a2) a0_1 a1_1 = y := ⟨_, rfl⟩
  rw [hg1] at m1 q1
  have m2 := mix_lo (clamp_bd a2).1 (clamp_bd a2).2 p0_2 p1_2
  have q2 := mixB_bd (clamp_bd a2).1 (clamp_bd a2).2 p0_2 p1_2
  obtain ⟨y2, hg2⟩ : ∃ y, mixB (clamp a2) a0_2 a1_2 = y := ⟨_, rfl⟩
  rw [hg2] at m2 q2
  have m3 := mix_lo (clamp_bd a2).1 (clamp_bd a2).2 p0_3 p1_3
  have q3 := mixB_bd (clamp_bd a2).1 (clamp_bd a2).2 p0_3 p1_3
  obtain ⟨y3, hg3⟩ : ∃ y, mixB (clamp a2) a0_3 a1_3 = y := ⟨_, rfl⟩
  rw [hg3] at m3 q3
  go_enter Try.func4, Try.ntmps4
  go_wp2_with fail
  refine (lerp_any a0_0 a0_1 a0_2 a0_3 a1_0 a1_1 a1_2 a1_3 a2 _ p0_0 p0_1 p0_2 p0_3 p1_0 p1_1 p1_2 p1_3 w2).mono ?_
  rintro e w1 ⟨rfl, hb⟩
  have hs := hb.size
  try simp only [World.size_alloc, World.size_setCell, World.size_drew] at hs
  rw [hg0, hg1, hg2, hg3]
  have fa0 : w1.cell? ⟨w.heap.size, 0, none⟩ = some (.int .u8 a0_0) := by rw [hb.cell (p := ⟨w.heap.size, 0, none⟩) (by simp; omega)]; go_cell
  have fb0 : w1.cell? ⟨w.heap.size + 1, 0, none⟩ = some (.int .u8 a1_0) := by rw [hb.cell (p := ⟨w.heap.size + 1, 0, none⟩) (by simp)]; go_cell
  have fc0 : w1.cell? ⟨w.heap.size + 1 + 1, 0, none⟩ = some (.int .u8 255) := by rw [hb.cell (p := ⟨w.heap.size + 1 + 1, 0, none⟩) (by simp)]; go_cell
  have fa1 : w1.cell? ⟨w.heap.size, 1, none⟩ = some (.int .u8 a0_1) := by rw [hb.cell (p := ⟨w.heap.size, 1, none⟩) (by simp; omega)]; go_cell
  have fb1 : w1.cell? ⟨w.heap.size + 1, 1, none⟩ = some (.int .u8 a1_1) := by rw [hb.cell (p := ⟨w.heap.size + 1, 1, none⟩) (by simp)]; go_cell
  have fc1 : w1.cell? ⟨w.heap.size + 1 + 1, 1, none⟩ = some (.int .u8 255) := by rw [hb.cell (p := ⟨w.heap.size + 1 + 1, 1, none⟩) (by simp)]; go_cell
  have fa2 : w1.cell? ⟨w.heap.size, 2, none⟩ = some (.int .u8 a0_2) := by rw [hb.cell (p := ⟨w.heap.size, 2, none⟩) (by simp; omega)]; go_cell
  have fb2 : w1.cell? ⟨w.heap.size + 1, 2, none⟩ = some (.int .u8 a1_2) := by rw [hb.cell (p := ⟨w.heap.size + 1, 2, none⟩) (by simp)]; go_cell
  have fc2 : w1.cell? ⟨w.heap.size + 1 + 1, 2, none⟩ = some (.int .u8 255) := by rw [hb.cell (p := ⟨w.heap.size + 1 + 1, 2, none⟩) (by simp)]; go_cell
  have fa3 : w1.cell? ⟨w.heap.size, 3, none⟩ = some (.int .u8 a0_3) := by rw [hb.cell (p := ⟨w.heap.size, 3, none⟩) (by simp; omega)]; go_cell
  have fb3 : w1.cell? ⟨w.heap.size + 1, 3, none⟩ = some (.int .u8 a1_3) := by rw [hb.cell (p := ⟨w.heap.size + 1, 3, none⟩) (by simp)]; go_cell
  have fc3 : w1.cell? ⟨w.heap.size + 1 + 1, 3, none⟩ = some (.int .u8 255) := by rw [hb.cell (p := ⟨w.heap.size + 1 + 1, 3, none⟩) (by simp)]; go_cell
  have l0 : decide (y0 < if a1_0 < a0_0 then a1_0 else a0_0) = false := decide_eq_false (by split <;> omega)
  have u0 : decide ((if a0_0 < a1_0 then a1_0 else a0_0) < y0) = false := decide_eq_false (by split <;> omega)
  have l1 : decide (y1 < if a1_1 < a0_1 then a1_1 else a0_1) = false := decide_eq_false (by split <;> omega)
  have u1 : decide ((if a0_1 < a1_1 then a1_1 else a0_1) < y1) = false := decide_eq_false (by split <;> omega)
  have l2 : decide (y2 < if a1_2 < a0_2 then a1_2 else a0_2) = false := decide_eq_false (by split <;> omega)
  have u2 : decide ((if a0_2 < a1_2 then a1_2 else a0_2) < y2) = false := decide_eq_false (by split <;> omega)
  have l3 : decide (y3 < if a1_3 < a0_3 then a1_3 else a0_3) = false := decide_eq_false (by split <;> omega)
  have u3 : decide ((if a0_3 < a1_3 then a1_3 else a0_3) < y3) = false := decide_eq_false (by split <;> omega)
  have M0 := Lib.hid m0
  have G0 := Lib.hid hg0
  have Q0 := Lib.hid q0
  have P0 := Lib.hid p0_0
  have R0 := Lib.hid p1_0
  clear m0 hg0 q0 p0_0 p1_0 w0_0 w1_0
  have M1 := Lib.hid m1
  have G1 := Lib.hid hg1
  have Q1 := Lib.hid q1
  have P1 := Lib.hid p0_1
  have R1 := Lib.hid p1_1
  clear m1 hg1 q1 p0_1 p1_1 w0_1 w1_1
  have M2 := Lib.hid m2
  have G2 := Lib.hid hg2
  have Q2 := Lib.hid q2
  have P2 := Lib.hid p0_2
  have R2 := Lib.hid p1_2
  clear m2 hg2 q2 p0_2 p1_2 w0_2 w1_2
  have M3 := Lib.hid m3
  have G3 := Lib.hid hg3
  have Q3 := Lib.hid q3
  have P3 := Lib.hid p0_3
  have R3 := Lib.hid p1_3
  clear m3 hg3 q3 p0_3 p1_3 w0_3 w1_3
  have ne0 : w.heap.size < w1.heap.size := by omega
  have ne1 : w.heap.size + 1 < w1.heap.size := by omega
  have ne2 : w.heap.size + 1 + 1 < w1.heap.size := by omega
  have L1 : Below w.heap.size w w1 := by repeat' (first | (with_reducible exact Below.refl _ _) | (with_reducible refine Rd.below_step ?_ (by assumption)) | (with_reducible refine Rd.below_alloc ?_ _) | (with_reducible refine Rd.below_drewN ?_ _) | (with_reducible refine Below.drew ?_) | (with_reducible refine Below.setCell ?_ ?_ _) | (with_reducible refine Rd.below_setRow ?_ ?_ _) | go_size | (simp only [World.size_alloc]; omega) | omega)
  have HB := Lib.hid hb
  clear hb hs
  go_wp2_with fail
  refine wp_loop_rounds 5 ?_
  rw [rounds_succ]; go_wp2; go_quiet (fail)
  generalize (if a1_0 < a0_0 then a1_0 else a0_0) = z0
  generalize (if a0_0 < a1_0 then a1_0 else a0_0) = x0
  go_wp2
  rw [rounds_succ]; go_wp2; go_quiet (fail)
  generalize (if a1_1 < a0_1 then a1_1 else a0_1) = z1
  generalize (if a0_1 < a1_1 then a1_1 else a0_1) = x1
  go_wp2
  rw [rounds_succ]; go_wp2; go_quiet (fail)
  generalize (if a1_2 < a0_2 then a1_2 else a0_2) = z2
  generalize (if a0_2 < a1_2 then a1_2 else a0_2) = x2
  go_wp2
  rw [rounds_succ]; go_wp2; go_quiet (fail)
  generalize (if a1_3 < a0_3 then a1_3 else a0_3) = z3
  generalize (if a0_3 < a1_3 then a1_3 else a0_3) = x3
  go_wp2
  have mix_0_0 := mix_0 a0_0 a1_0 P0.out
  have mix_m_0 := mix_m a0_0 a1_0 P0.out
  have mix_256_0 := mix_256 a0_0 a1_0 R0.out
  have mix_999_0 := mix_999 a0_0 a1_0 R0.out
  have ms_0 := mix_same (clamp a2) a0_0 P0.out
  have mn_0 := mean_same a0_0
  have t1_0 := times_255 a0_0 P0.out
  have t2_0 := times_255' a0_0 P0.out
  have t3_0 := times_0 a0_0
  have t4_0 := times_comm a1_0 a0_0
  have mix_0_1 := mix_0 a0_1 a1_1 P1.out
  have mix_m_1 := mix_m a0_1 a1_1 P1.out
  have mix_256_1 := mix_256 a0_1 a1_1 R1.out
  have mix_999_1 := mix_999 a0_1 a1_1 R1.out
  have ms_1 := mix_same (clamp a2) a0_1 P1.out
  have mn_1 := mean_same a0_1
  have t1_1 := times_255 a0_1 P1.out
  have t2_1 := times_255' a0_1 P1.out
  have t3_1 := times_0 a0_1
  have t4_1 := times_comm a1_1 a0_1
  have mix_0_2 := mix_0 a0_2 a1_2 P2.out
  have mix_m_2 := mix_m a0_2 a1_2 P2.out
  have mix_256_2 := mix_256 a0_2 a1_2 R2.out
  have mix_999_2 := mix_999 a0_2 a1_2 R2.out
  have ms_2 := mix_same (clamp a2) a0_2 P2.out
  have mn_2 := mean_same a0_2
  have t1_2 := times_255 a0_2 P2.out
  have t2_2 := times_255' a0_2 P2.out
  have t3_2 := times_0 a0_2
  have t4_2 := times_comm a1_2 a0_2
  have mix_0_3 := mix_0 a0_3 a1_3 P3.out
  have mix_m_3 := mix_m a0_3 a1_3 P3.out
  have mix_256_3 := mix_256 a0_3 a1_3 R3.out
  have mix_999_3 := mix_999 a0_3 a1_3 R3.out
  have ms_3 := mix_same (clamp a2) a0_3 P3.out
  have mn_3 := mean_same a0_3
  have t1_3 := times_255 a0_3 P3.out
  have t2_3 := times_255' a0_3 P3.out
  have t3_3 := times_0 a0_3
  have t4_3 := times_comm a1_3 a0_3
  rw [rounds_succ]
  go_wp2_with fail
  simp only [List.append_eq, List.cons_append, List.nil_append]
  refine name_world ?_
  intro W hW
  have kk : Below w1.heap.size w1 W := by rw [hW]; repeat' (first | (with_reducible exact Below.refl _ _) | (with_reducible refine Rd.below_step ?_ (by assumption)) | (with_reducible refine Rd.below_alloc ?_ _) | (with_reducible refine Rd.below_drewN ?_ _) | (with_reducible refine Below.drew ?_) | (with_reducible refine Below.setCell ?_ ?_ _) | (with_reducible refine Rd.below_setRow ?_ ?_ _) | go_size | (simp only [World.size_alloc]; omega) | omega)
  have ga0 := Go.cell_regrown ((kk.cell (p := ⟨w.heap.size, 0, none⟩) ne0).trans fa0)
  have gb0 := Go.cell_regrown ((kk.cell (p := ⟨w.heap.size + 1, 0, none⟩) ne1).trans fb0)
  have gc0 := Go.cell_regrown ((kk.cell (p := ⟨w.heap.size + 1 + 1, 0, none⟩) ne2).trans fc0)
  have ga1 := Go.cell_regrown ((kk.cell (p := ⟨w.heap.size, 1, none⟩) ne0).trans fa1)
  have gb1 := Go.cell_regrown ((kk.cell (p := ⟨w.heap.size + 1, 1, none⟩) ne1).trans fb1)
  have gc1 := Go.cell_regrown ((kk.cell (p := ⟨w.heap.size + 1 + 1, 1, none⟩) ne2).trans fc1)
  have ga2 := Go.cell_regrown ((kk.cell (p := ⟨w.heap.size, 2, none⟩) ne0).trans fa2)
  have gb2 := Go.cell_regrown ((kk.cell (p := ⟨w.heap.size + 1, 2, none⟩) ne1).trans fb2)
  have gc2 := Go.cell_regrown ((kk.cell (p := ⟨w.heap.size + 1 + 1, 2, none⟩) ne2).trans fc2)
  have ga3 := Go.cell_regrown ((kk.cell (p := ⟨w.heap.size, 3, none⟩) ne0).trans fa3)
  have gb3 := Go.cell_regrown ((kk.cell (p := ⟨w.heap.size + 1, 3, none⟩) ne1).trans fb3)
  have gc3 := Go.cell_regrown ((kk.cell (p := ⟨w.heap.size + 1 + 1, 3, none⟩) ne2).trans fc3)
  clear hW
  refine wp_region_quiet_below (by kernel_rfl) (by kernel_rfl) ?_
  repeat (go_big_quiet_step ((first
    | exact Calls.regrown_of (lerp_any _ _ _ _ _ _ _ _ _ _ (by first | exact P0.out | exact P1.out | exact P2.out | exact P3.out | exact R0.out | exact R1.out | exact R2.out | exact R3.out | decide) (by first | exact P0.out | exact P1.out | exact P2.out | exact P3.out | exact R0.out | exact R1.out | exact R2.out | exact R3.out | decide) (by first | exact P0.out | exact P1.out | exact P2.out | exact P3.out | exact R0.out | exact R1.out | exact R2.out | exact R3.out | decide) (by first | exact P0.out | exact P1.out | exact P2.out | exact P3.out | exact R0.out | exact R1.out | exact R2.out | exact R3.out | decide) (by first | exact P0.out | exact P1.out | exact P2.out | exact P3.out | exact R0.out | exact R1.out | exact R2.out | exact R3.out | decide) (by first | exact P0.out | exact P1.out | exact P2.out | exact P3.out | exact R0.out | exact R1.out | exact R2.out | exact R3.out | decide) (by first | exact P0.out | exact P1.out | exact P2.out | exact P3.out | exact R0.out | exact R1.out | exact R2.out | exact R3.out | decide) (by first | exact P0.out | exact P1.out | exact P2.out | exact P3.out | exact R0.out | exact R1.out | exact R2.out | exact R3.out | decide) (by first | assumption | decide))
    | exact Calls.regrown_of (mean_any _ _ _ _ _ _ _ _ _ _ _ _ _ _ _ _ _ (by first | exact P0.out | exact P1.out | exact P2.out | exact P3.out | exact R0.out | exact R1.out | exact R2.out | exact R3.out | decide) (by first | exact P0.out | exact P1.out | exact P2.out | exact P3.out | exact R0.out | exact R1.out | exact R2.out | exact R3.out | decide) (by first | exact P0.out | exact P1.out | exact P2.out | exact P3.out | exact R0.out | exact R1.out | exact R2.out | exact R3.out | decide) (by first | exact P0.out | exact P1.out | exact P2.out | exact P3.out | exact R0.out | exact R1.out | exact R2.out | exact R3.out | decide) (by first | exact P0.out | exact P1.out | exact P2.out | exact P3.out | exact R0.out | exact R1.out | exact R2.out | exact R3.out | decide) (by first | exact P0.out | exact P1.out | exact P2.out | exact P3.out | exact R0.out | exact R1.out | exact R2.out | exact R3.out | decide) (by first | exact P0.out | exact P1.out | exact P2.out | exact P3.out | exact R0.out | exact R1.out | exact R2.out | exact R3.out | decide) (by first | exact P0.out | exact P1.out | exact P2.out | exact P3.out | exact R0.out | exact R1.out | exact R2.out | exact R3.out | decide) (by first | exact P0.out | exact P1.out | exact P2.out | exact P3.out | exact R0.out | exact R1.out | exact R2.out | exact R3.out | decide) (by first | exact P0.out | exact P1.out | exact P2.out | exact P3.out | exact R0.out | exact R1.out | exact R2.out | exact R3.out | decide) (by first | exact P0.out | exact P1.out | exact P2.out | exact P3.out | exact R0.out | exact R1.out | exact R2.out | exact R3.out | decide) (by first | exact P0.out | exact P1.out | exact P2.out | exact P3.out | exact R0.out | exact R1.out | exact R2.out | exact R3.out | decide) (by first | exact P0.out | exact P1.out | exact P2.out | exact P3.out | exact R0.out | exact R1.out | exact R2.out | exact R3.out | decide) (by first | exact P0.out | exact P1.out | exact P2.out | exact P3.out | exact R0.out | exact R1.out | exact R2.out | exact R3.out | decide) (by first | exact P0.out | exact P1.out | exact P2.out | exact P3.out | exact R0.out | exact R1.out | exact R2.out | exact R3.out | decide) (by first | exact P0.out | exact P1.out | exact P2.out | exact P3.out | exact R0.out | exact R1.out | exact R2.out | exact R3.out | decide))
    | exact Calls.regrown_of (times_any _ _ _ _ _ _ _ _ _ (by first | exact P0.out | exact P1.out | exact P2.out | exact P3.out | exact R0.out | exact R1.out | exact R2.out | exact R3.out | decide) (by first | exact P0.out | exact P1.out | exact P2.out | exact P3.out | exact R0.out | exact R1.out | exact R2.out | exact R3.out | decide) (by first | exact P0.out | exact P1.out | exact P2.out | exact P3.out | exact R0.out | exact R1.out | exact R2.out | exact R3.out | decide) (by first | exact P0.out | exact P1.out | exact P2.out | exact P3.out | exact R0.out | exact R1.out | exact R2.out | exact R3.out | decide) (by first | exact P0.out | exact P1.out | exact P2.out | exact P3.out | exact R0.out | exact R1.out | exact R2.out | exact R3.out | decide) (by first | exact P0.out | exact P1.out | exact P2.out | exact P3.out | exact R0.out | exact R1.out | exact R2.out | exact R3.out | decide) (by first | exact P0.out | exact P1.out | exact P2.out | exact P3.out | exact R0.out | exact R1.out | exact R2.out | exact R3.out | decide) (by first | exact P0.out | exact P1.out | exact P2.out | exact P3.out | exact R0.out | exact R1.out | exact R2.out | exact R3.out | decide))
    | exact Calls.regrown_of (awake_any _))))
  refine wpQuiet_nil ?_
  intro _ hw'
  obtain ⟨⟨dq, osq⟩, hw''⟩ := hw'
  subst hw''
  go_wp2
  go_ret
  exact ⟨rfl, below_step (below_step L1 kk) (below_regrown W dq osq)⟩
end Go.Proofs.Ythlgokaehkifkaa.HueE
