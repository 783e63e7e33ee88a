/-
  The walk of HueMeans.
-/
import Derived.Test.YthlgokaehkifkaaHueE
import Derived.Deep.Cut
namespace Go.Proofs.Ythlgokaehkifkaa.HueG
open Go.RowKit HueA Rd HueB HueC HueD HueE
set_option linter.unusedVariables false
set_option linter.unusedSimpArgs false
set_option maxRecDepth 10000
attribute [local go_sem] Eq.eq_col Eq.run_min4 Eq.run_max4

theorem run_maxT {P : Program} {w : World} (ts : Array TypeId) (t : TypeId) (k : IntKind) (x y : Int) : (Builtin.max_ ts t #[.int k x, .int k y]).run P w = .ok (.int k (max x y)) w := by
  have e : ∀ a b : Int, (if b > a then b else a) = max a b := fun a b => by split <;> omega
  simp [Builtin.max_, Builtin.max2, e]
  repeat' split
  all_goals (first | rfl | (congr 2; omega))
attribute [local go_sem high] run_maxT

theorem mean_p1 (a b c d : Int) : meanB d b a c = meanB a b c d := by unfold meanB; omega
theorem mean_p2 (a b c d : Int) : meanB b c d a = meanB a b c d := by unfold meanB; omega
theorem mean_in {a b c d : Int} : ¬ meanB a b c d < min a (min b (min c d)) ∧ ¬ max a (max b (max c d)) < meanB a b c d := by unfold meanB; omega
theorem mean_up (a b c d m : Int) : ¬ meanB (max a m) b c d < meanB a b c d := by unfold meanB; omega
theorem mean_b8 {a b c d : Int} (p : B8 a) (q : B8 b) (r : B8 c) (s : B8 d) : B8 (meanB a b c d) := by simp only [B8] at *; unfold meanB; omega
theorem up_b8 {a m : Int} (p : B8 a) (q : B8 m) : B8 (max a m) := by simp only [B8] at *; omega

set_option maxHeartbeats 4000000 in
theorem HueMeans_walk (a0_0 : Int) (a0_1 : Int) (a0_2 : Int) (a0_3 : Int) (a0_4 : Int) (a0_5 : Int) (a0_6 : Int) (a0_7 : Int) (a0_8 : Int) (a0_9 : Int) (a0_10 : Int) (a0_11 : Int) (a0_12 : Int) (a0_13 : Int) (a0_14 : Int) (a0_15 : Int) (a1 : Int) (w : World) (w0_0 : (Lit.int .u8 a0_0).wf = true) (w0_1 : (Lit.int .u8 a0_1).wf = true) (w0_2 : (Lit.int .u8 a0_2).wf = true) (w0_3 : (Lit.int .u8 a0_3).wf = true) (w0_4 : (Lit.int .u8 a0_4).wf = true) (w0_5 : (Lit.int .u8 a0_5).wf = true) (w0_6 : (Lit.int .u8 a0_6).wf = true) (w0_7 : (Lit.int .u8 a0_7).wf = true) (w0_8 : (Lit.int .u8 a0_8).wf = true) (w0_9 : (Lit.int .u8 a0_9).wf = true) (w0_10 : (Lit.int .u8 a0_10).wf = true) (w0_11 : (Lit.int .u8 a0_11).wf = true) (w0_12 : (Lit.int .u8 a0_12).wf = true) (w0_13 : (Lit.int .u8 a0_13).wf = true) (w0_14 : (Lit.int .u8 a0_14).wf = true) (w0_15 : (Lit.int .u8 a0_15).wf = true) (w1 : (Lit.int .u8 a1).wf = true) :
    Calls Try.prog 7 #[.agg #[.int .u8 a0_0, .int .u8 a0_1, .int .u8 a0_2, .int .u8 a0_3, .int .u8 a0_4, .int .u8 a0_5, .int .u8 a0_6, .int .u8 a0_7, .int .u8 a0_8, .int .u8 a0_9, .int .u8 a0_10, .int .u8 a0_11, .int .u8 a0_12, .int .u8 a0_13, .int .u8 a0_14, .int .u8 a0_15], .int .u8 a1] w fun e w' => e = .returned (.bool true) ∧ Below w.heap.size w w' := by
  have p0 := b8_of w0_0
  have p1 := b8_of w0_1
  have p2 := b8_of w0_2
  have p3 := b8_of w0_3
  have p4 := b8_of w0_4
  have p5 := b8_of w0_5
  have p6 := b8_of w0_6
  have p7 := b8_of w0_7
  have p8 := b8_of w0_8
  have p9 := b8_of w0_9
  have p10 := b8_of w0_10
  have p11 := b8_of w0_11
  have p12 := b8_of w0_12
  have p13 := b8_of w0_13
  have p14 := b8_of w0_14
  have p15 := b8_of w0_15
  have pm := b8_of w1
  have s0 := mean_p1 a0_0 a0_4 a0_8 a0_12
  have t0 := mean_p2 a0_0 a0_4 a0_8 a0_12
  have n0 := @mean_in a0_0 a0_4 a0_8 a0_12
  have v0 := mean_up a0_0 a0_4 a0_8 a0_12 a1
  have by0 := mean_b8 p0 p4 p8 p12
  obtain ⟨y0, hy0⟩ : ∃ y, meanB a0_0 a0_4 a0_8 a0_12 = y := ⟨_, rfl⟩
  rw [hy0] at s0 t0 n0 v0 by0
  have s1 := mean_p1 a0_1 a0_5 a0_9 a0_13
  have t1 := mean_p2 a0_1 a0_5 a0_9 a0_13
  have n1 := @mean_in a0_1 a0_5 a0_9 a0_13
  have v1 := mean_up a0_1 a0_5 a0_9 a0_13 a1
  have by1 := mean_b8 p1 p5 p9 p13
  obtain ⟨y1, hy1⟩ : ∃ y, meanB a0_1 a0_5 a0_9 a0_13 = y := ⟨_, rfl⟩
  rw [hy1] at s1 t1 n1 v1 by1
  have s2 := mean_p1 a0_2 a0_6 a0_10 a0_14
  have t2 := mean_p2 a0_2 a0_6 a0_10 a0_14
  have n2 := @mean_in a0_2 a0_6 a0_10 a0_14
  have v2 := mean_up a0_2 a0_6 a0_10 a0_14 a1
  have by2 := mean_b8 p2 p6 p10 p14
  obtain ⟨y2, hy2⟩ : ∃ y, meanB a0_2 a0_6 a0_10 a0_14 = y := ⟨_, rfl⟩
  rw [hy2] at s2 t2 n2 v2 by2
  have s3 := mean_p1 a0_3 a0_7 a0_11 a0_15
  have t3 := mean_p2 a0_3 a0_7 a0_11 a0_15
  have n3 := @mean_in a0_3 a0_7 a0_11 a0_15
  have v3 := mean_up a0_3 a0_7 a0_11 a0_15 a1
  have by3 := mean_b8 p3 p7 p11 p15
  obtain ⟨y3, hy3⟩ : ∃ y, meanB a0_3 a0_7 a0_11 a0_15 = y := ⟨_, rfl⟩
  rw [hy3] at s3 t3 n3 v3 by3
  go_enter Try.func7, Try.ntmps7
  go_wp2_with fail
  refine (mean_any a0_0 a0_1 a0_2 a0_3 a0_4 a0_5 a0_6 a0_7 a0_8 a0_9 a0_10 a0_11 a0_12 a0_13 a0_14 a0_15 _ p0 p1 p2 p3 p4 p5 p6 p7 p8 p9 p10 p11 p12 p13 p14 p15).mono ?_
  rintro e w2 ⟨rfl, hb⟩
  have hs := hb.size
  try simp only [World.size_alloc, World.size_setCell, World.size_drew] at hs
  rw [hy0, hy1, hy2, hy3]
  have fa0 : w2.cell? ⟨w.heap.size, 0, none⟩ = some (.int .u8 a0_0) := by rw [hb.cell (p := ⟨w.heap.size, 0, none⟩) (by simp)]; go_cell
  have fa1 : w2.cell? ⟨w.heap.size, 1, none⟩ = some (.int .u8 a0_1) := by rw [hb.cell (p := ⟨w.heap.size, 1, none⟩) (by simp)]; go_cell
  have fa2 : w2.cell? ⟨w.heap.size, 2, none⟩ = some (.int .u8 a0_2) := by rw [hb.cell (p := ⟨w.heap.size, 2, none⟩) (by simp)]; go_cell
  have fa3 : w2.cell? ⟨w.heap.size, 3, none⟩ = some (.int .u8 a0_3) := by rw [hb.cell (p := ⟨w.heap.size, 3, none⟩) (by simp)]; go_cell
  have fa4 : w2.cell? ⟨w.heap.size, 4, none⟩ = some (.int .u8 a0_4) := by rw [hb.cell (p := ⟨w.heap.size, 4, none⟩) (by simp)]; go_cell
  have fa5 : w2.cell? ⟨w.heap.size, 5, none⟩ = some (.int .u8 a0_5) := by rw [hb.cell (p := ⟨w.heap.size, 5, none⟩) (by simp)]; go_cell
  have fa6 : w2.cell? ⟨w.heap.size, 6, none⟩ = some (.int .u8 a0_6) := by rw [hb.cell (p := ⟨w.heap.size, 6, none⟩) (by simp)]; go_cell
  have fa7 : w2.cell? ⟨w.heap.size, 7, none⟩ = some (.int .u8 a0_7) := by rw [hb.cell (p := ⟨w.heap.size, 7, none⟩) (by simp)]; go_cell
  have fa8 : w2.cell? ⟨w.heap.size, 8, none⟩ = some (.int .u8 a0_8) := by rw [hb.cell (p := ⟨w.heap.size, 8, none⟩) (by simp)]; go_cell
  have fa9 : w2.cell? ⟨w.heap.size, 9, none⟩ = some (.int .u8 a0_9) := by rw [hb.cell (p := ⟨w.heap.size, 9, none⟩) (by simp)]; go_cell
  have fa10 : w2.cell? ⟨w.heap.size, 10, none⟩ = some (.int .u8 a0_10) := by rw [hb.cell (p := ⟨w.heap.size, 10, none⟩) (by simp)]; go_cell
  have fa11 : w2.cell? ⟨w.heap.size, 11, none⟩ = some (.int .u8 a0_11) := by rw [hb.cell (p := ⟨w.heap.size, 11, none⟩) (by simp)]; go_cell
  have fa12 : w2.cell? ⟨w.heap.size, 12, none⟩ = some (.int .u8 a0_12) := by rw [hb.cell (p := ⟨w.heap.size, 12, none⟩) (by simp)]; go_cell
  have fa13 : w2.cell? ⟨w.heap.size, 13, none⟩ = some (.int .u8 a0_13) := by rw [hb.cell (p := ⟨w.heap.size, 13, none⟩) (by simp)]; go_cell
  have fa14 : w2.cell? ⟨w.heap.size, 14, none⟩ = some (.int .u8 a0_14) := by rw [hb.cell (p := ⟨w.heap.size, 14, none⟩) (by simp)]; go_cell
  have fa15 : w2.cell? ⟨w.heap.size, 15, none⟩ = some (.int .u8 a0_15) := by rw [hb.cell (p := ⟨w.heap.size, 15, none⟩) (by simp)]; go_cell
  have P0 := Lib.hid p0
  clear p0 w0_0
  have P1 := Lib.hid p1
  clear p1 w0_1
  have P2 := Lib.hid p2
  clear p2 w0_2
  have P3 := Lib.hid p3
  clear p3 w0_3
  have P4 := Lib.hid p4
  clear p4 w0_4
  have P5 := Lib.hid p5
  clear p5 w0_5
  have P6 := Lib.hid p6
  clear p6 w0_6
  have P7 := Lib.hid p7
  clear p7 w0_7
  have P8 := Lib.hid p8
  clear p8 w0_8
  have P9 := Lib.hid p9
  clear p9 w0_9
  have P10 := Lib.hid p10
  clear p10 w0_10
  have P11 := Lib.hid p11
  clear p11 w0_11
  have P12 := Lib.hid p12
  clear p12 w0_12
  have P13 := Lib.hid p13
  clear p13 w0_13
  have P14 := Lib.hid p14
  clear p14 w0_14
  have P15 := Lib.hid p15
  clear p15 w0_15
  have HY0 := Lib.hid hy0
  have BY0 := Lib.hid by0
  have V0 := Lib.hid v0
  have N0 := Lib.hid n0
  clear hy0 by0 v0 n0
  have HY1 := Lib.hid hy1
  have BY1 := Lib.hid by1
  have V1 := Lib.hid v1
  have N1 := Lib.hid n1
  clear hy1 by1 v1 n1
  have HY2 := Lib.hid hy2
  have BY2 := Lib.hid by2
  have V2 := Lib.hid v2
  have N2 := Lib.hid n2
  clear hy2 by2 v2 n2
  have HY3 := Lib.hid hy3
  have BY3 := Lib.hid by3
  have V3 := Lib.hid v3
  have N3 := Lib.hid n3
  clear hy3 by3 v3 n3
  have PM := Lib.hid pm
  clear pm w1
  have ne0 : w.heap.size < w2.heap.size := by omega
  have L1 : Below w.heap.size w w2 := by repeat' (first | (with_reducible exact Below.refl _ _) | (with_reducible refine Rd.below_step ?_ (by assumption)) | (with_reducible refine Rd.below_alloc ?_ _) | (with_reducible refine Rd.below_drewN ?_ _) | (with_reducible refine Below.drew ?_) | (with_reducible refine Below.setCell ?_ ?_ _) | go_size)
  have HB := Lib.hid hb
  clear hb hs
  go_upto_region 2 with (fail)
  refine name_world ?_
  intro W hW
  have kk : Below w2.heap.size w2 W := by rw [hW]; repeat' (first | (with_reducible exact Below.refl _ _) | (with_reducible refine Rd.below_step ?_ (by assumption)) | (with_reducible refine Rd.below_alloc ?_ _) | (with_reducible refine Rd.below_drewN ?_ _) | (with_reducible refine Below.drew ?_) | (with_reducible refine Below.setCell ?_ ?_ _) | go_size)
  have sW : W.heap.size = w2.heap.size + 1 := by rw [hW]; simp
  have cy0 : W.cell? ⟨w2.heap.size, 0, none⟩ = some (.int .u8 y0) := by rw [hW]; go_cell
  have gy0 := Go.cell_regrown cy0
  have cy1 : W.cell? ⟨w2.heap.size, 1, none⟩ = some (.int .u8 y1) := by rw [hW]; go_cell
  have gy1 := Go.cell_regrown cy1
  have cy2 : W.cell? ⟨w2.heap.size, 2, none⟩ = some (.int .u8 y2) := by rw [hW]; go_cell
  have gy2 := Go.cell_regrown cy2
  have cy3 : W.cell? ⟨w2.heap.size, 3, none⟩ = some (.int .u8 y3) := by rw [hW]; go_cell
  have gy3 := Go.cell_regrown cy3
  have ca0 := (kk.cell (p := ⟨w.heap.size, 0, none⟩) ne0).trans fa0
  have ga0 := Go.cell_regrown ca0
  have ca1 := (kk.cell (p := ⟨w.heap.size, 1, none⟩) ne0).trans fa1
  have ga1 := Go.cell_regrown ca1
  have ca2 := (kk.cell (p := ⟨w.heap.size, 2, none⟩) ne0).trans fa2
  have ga2 := Go.cell_regrown ca2
  have ca3 := (kk.cell (p := ⟨w.heap.size, 3, none⟩) ne0).trans fa3
  have ga3 := Go.cell_regrown ca3
  have ca4 := (kk.cell (p := ⟨w.heap.size, 4, none⟩) ne0).trans fa4
  have ga4 := Go.cell_regrown ca4
  have ca5 := (kk.cell (p := ⟨w.heap.size, 5, none⟩) ne0).trans fa5
  have ga5 := Go.cell_regrown ca5
  have ca6 := (kk.cell (p := ⟨w.heap.size, 6, none⟩) ne0).trans fa6
  have ga6 := Go.cell_regrown ca6
  have ca7 := (kk.cell (p := ⟨w.heap.size, 7, none⟩) ne0).trans fa7
  have ga7 := Go.cell_regrown ca7
  have ca8 := (kk.cell (p := ⟨w.heap.size, 8, none⟩) ne0).trans fa8
  have ga8 := Go.cell_regrown ca8
  have ca9 := (kk.cell (p := ⟨w.heap.size, 9, none⟩) ne0).trans fa9
  have ga9 := Go.cell_regrown ca9
  have ca10 := (kk.cell (p := ⟨w.heap.size, 10, none⟩) ne0).trans fa10
  have ga10 := Go.cell_regrown ca10
  have ca11 := (kk.cell (p := ⟨w.heap.size, 11, none⟩) ne0).trans fa11
  have ga11 := Go.cell_regrown ca11
  have ca12 := (kk.cell (p := ⟨w.heap.size, 12, none⟩) ne0).trans fa12
  have ga12 := Go.cell_regrown ca12
  have ca13 := (kk.cell (p := ⟨w.heap.size, 13, none⟩) ne0).trans fa13
  have ga13 := Go.cell_regrown ca13
  have ca14 := (kk.cell (p := ⟨w.heap.size, 14, none⟩) ne0).trans fa14
  have ga14 := Go.cell_regrown ca14
  have ca15 := (kk.cell (p := ⟨w.heap.size, 15, none⟩) ne0).trans fa15
  have ga15 := Go.cell_regrown ca15
  have K1 : Below w.heap.size w W := by repeat' (first | (with_reducible exact Below.refl _ _) | (with_reducible refine Rd.below_step ?_ (by assumption)) | (with_reducible refine Rd.below_alloc ?_ _) | (with_reducible refine Rd.below_drewN ?_ _) | (with_reducible refine Below.drew ?_) | (with_reducible refine Below.setCell ?_ ?_ _) | go_size)
  have HW := Lib.hid hW
  clear hW
  refine wp_region_quiet_below (by kernel_rfl) (by kernel_rfl) ?_
  repeat (go_big_quiet_step ((exact Calls.regrown_of (mean_any _ _ _ _ _ _ _ _ _ _ _ _ _ _ _ _ _ (by first | exact P0.out | exact P1.out | exact P2.out | exact P3.out | exact P4.out | exact P5.out | exact P6.out | exact P7.out | exact P8.out | exact P9.out | exact P10.out | exact P11.out | exact P12.out | exact P13.out | exact P14.out | exact P15.out) (by first | exact P0.out | exact P1.out | exact P2.out | exact P3.out | exact P4.out | exact P5.out | exact P6.out | exact P7.out | exact P8.out | exact P9.out | exact P10.out | exact P11.out | exact P12.out | exact P13.out | exact P14.out | exact P15.out) (by first | exact P0.out | exact P1.out | exact P2.out | exact P3.out | exact P4.out | exact P5.out | exact P6.out | exact P7.out | exact P8.out | exact P9.out | exact P10.out | exact P11.out | exact P12.out | exact P13.out | exact P14.out | exact P15.out) (by first | exact P0.out | exact P1.out | exact P2.out | exact P3.out | exact P4.out | exact P5.out | exact P6.out | exact P7.out | exact P8.out | exact P9.out | exact P10.out | exact P11.out | exact P12.out | exact P13.out | exact P14.out | exact P15.out) (by first | exact P0.out | exact P1.out | exact P2.out | exact P3.out | exact P4.out | exact P5.out | exact P6.out | exact P7.out | exact P8.out | exact P9.out | exact P10.out | exact P11.out | exact P12.out | exact P13.out | exact P14.out | exact P15.out) (by first | exact P0.out | exact P1.out | exact P2.out | exact P3.out | exact P4.out | exact P5.out | exact P6.out | exact P7.out | exact P8.out | exact P9.out | exact P10.out | exact P11.out | exact P12.out | exact P13.out | exact P14.out | exact P15.out) (by first | exact P0.out | exact P1.out | exact P2.out | exact P3.out | exact P4.out | exact P5.out | exact P6.out | exact P7.out | exact P8.out | exact P9.out | exact P10.out | exact P11.out | exact P12.out | exact P13.out | exact P14.out | exact P15.out) (by first | exact P0.out | exact P1.out | exact P2.out | exact P3.out | exact P4.out | exact P5.out | exact P6.out | exact P7.out | exact P8.out | exact P9.out | exact P10.out | exact P11.out | exact P12.out | exact P13.out | exact P14.out | exact P15.out) (by first | exact P0.out | exact P1.out | exact P2.out | exact P3.out | exact P4.out | exact P5.out | exact P6.out | exact P7.out | exact P8.out | exact P9.out | exact P10.out | exact P11.out | exact P12.out | exact P13.out | exact P14.out | exact P15.out) (by first | exact P0.out | exact P1.out | exact P2.out | exact P3.out | exact P4.out | exact P5.out | exact P6.out | exact P7.out | exact P8.out | exact P9.out | exact P10.out | exact P11.out | exact P12.out | exact P13.out | exact P14.out | exact P15.out) (by first | exact P0.out | exact P1.out | exact P2.out | exact P3.out | exact P4.out | exact P5.out | exact P6.out | exact P7.out | exact P8.out | exact P9.out | exact P10.out | exact P11.out | exact P12.out | exact P13.out | exact P14.out | exact P15.out) (by first | exact P0.out | exact P1.out | exact P2.out | exact P3.out | exact P4.out | exact P5.out | exact P6.out | exact P7.out | exact P8.out | exact P9.out | exact P10.out | exact P11.out | exact P12.out | exact P13.out | exact P14.out | exact P15.out) (by first | exact P0.out | exact P1.out | exact P2.out | exact P3.out | exact P4.out | exact P5.out | exact P6.out | exact P7.out | exact P8.out | exact P9.out | exact P10.out | exact P11.out | exact P12.out | exact P13.out | exact P14.out | exact P15.out) (by first | exact P0.out | exact P1.out | exact P2.out | exact P3.out | exact P4.out | exact P5.out | exact P6.out | exact P7.out | exact P8.out | exact P9.out | exact P10.out | exact P11.out | exact P12.out | exact P13.out | exact P14.out | exact P15.out) (by first | exact P0.out | exact P1.out | exact P2.out | exact P3.out | exact P4.out | exact P5.out | exact P6.out | exact P7.out | exact P8.out | exact P9.out | exact P10.out | exact P11.out | exact P12.out | exact P13.out | exact P14.out | exact P15.out) (by first | exact P0.out | exact P1.out | exact P2.out | exact P3.out | exact P4.out | exact P5.out | exact P6.out | exact P7.out | exact P8.out | exact P9.out | exact P10.out | exact P11.out | exact P12.out | exact P13.out | exact P14.out | exact P15.out)))))
  refine wpQuiet_nil ?_
  intro U hw'
  obtain ⟨⟨dq, osq⟩, hw''⟩ := hw'
  have KU := below_regrown W dq osq
  dsimp only at hw''
  rw [← hw''] at KU
  have da0 : U.cell? ⟨w.heap.size, 0, none⟩ = some (.int .u8 a0_0) := by rw [hw'']; exact ga0 dq osq
  have da1 : U.cell? ⟨w.heap.size, 1, none⟩ = some (.int .u8 a0_1) := by rw [hw'']; exact ga1 dq osq
  have da2 : U.cell? ⟨w.heap.size, 2, none⟩ = some (.int .u8 a0_2) := by rw [hw'']; exact ga2 dq osq
  have da3 : U.cell? ⟨w.heap.size, 3, none⟩ = some (.int .u8 a0_3) := by rw [hw'']; exact ga3 dq osq
  have da4 : U.cell? ⟨w.heap.size, 4, none⟩ = some (.int .u8 a0_4) := by rw [hw'']; exact ga4 dq osq
  have da5 : U.cell? ⟨w.heap.size, 5, none⟩ = some (.int .u8 a0_5) := by rw [hw'']; exact ga5 dq osq
  have da6 : U.cell? ⟨w.heap.size, 6, none⟩ = some (.int .u8 a0_6) := by rw [hw'']; exact ga6 dq osq
  have da7 : U.cell? ⟨w.heap.size, 7, none⟩ = some (.int .u8 a0_7) := by rw [hw'']; exact ga7 dq osq
  have da8 : U.cell? ⟨w.heap.size, 8, none⟩ = some (.int .u8 a0_8) := by rw [hw'']; exact ga8 dq osq
  have da9 : U.cell? ⟨w.heap.size, 9, none⟩ = some (.int .u8 a0_9) := by rw [hw'']; exact ga9 dq osq
  have da10 : U.cell? ⟨w.heap.size, 10, none⟩ = some (.int .u8 a0_10) := by rw [hw'']; exact ga10 dq osq
  have da11 : U.cell? ⟨w.heap.size, 11, none⟩ = some (.int .u8 a0_11) := by rw [hw'']; exact ga11 dq osq
  have da12 : U.cell? ⟨w.heap.size, 12, none⟩ = some (.int .u8 a0_12) := by rw [hw'']; exact ga12 dq osq
  have da13 : U.cell? ⟨w.heap.size, 13, none⟩ = some (.int .u8 a0_13) := by rw [hw'']; exact ga13 dq osq
  have da14 : U.cell? ⟨w.heap.size, 14, none⟩ = some (.int .u8 a0_14) := by rw [hw'']; exact ga14 dq osq
  have da15 : U.cell? ⟨w.heap.size, 15, none⟩ = some (.int .u8 a0_15) := by rw [hw'']; exact ga15 dq osq
  have dy0 : U.cell? ⟨w2.heap.size, 0, none⟩ = some (.int .u8 y0) := by rw [hw'']; exact gy0 dq osq
  have dy1 : U.cell? ⟨w2.heap.size, 1, none⟩ = some (.int .u8 y1) := by rw [hw'']; exact gy1 dq osq
  have dy2 : U.cell? ⟨w2.heap.size, 2, none⟩ = some (.int .u8 y2) := by rw [hw'']; exact gy2 dq osq
  have dy3 : U.cell? ⟨w2.heap.size, 3, none⟩ = some (.int .u8 y3) := by rw [hw'']; exact gy3 dq osq
  have sU := KU.size
  have ne1 : w.heap.size < U.heap.size := by omega
  have ne2 : w2.heap.size < U.heap.size := by omega
  have K2 : Below w.heap.size w U := K1.trans (KU.mono (by omega))
  have HU := Lib.hid hw''
  have KU := Lib.hid KU
  clear hw'' sU sW kk
  clear ga0 ga1 ga2 ga3 ga4 ga5 ga6 ga7 ga8 ga9 ga10 ga11 ga12 ga13 ga14 ga15 ca0 ca1 ca2 ca3 ca4 ca5 ca6 ca7 ca8 ca9 ca10 ca11 ca12 ca13 ca14 ca15 fa0 fa1 fa2 fa3 fa4 fa5 fa6 fa7 fa8 fa9 fa10 fa11 fa12 fa13 fa14 fa15 gy0 gy1 gy2 gy3 cy0 cy1 cy2 cy3 s0 s1 s2 s3 t0 t1 t2 t3
  have l0 : decide (y0 < min a0_0 (min a0_4 (min a0_8 a0_12))) = false := decide_eq_false (by have := N0.out; omega)
  have u0 : decide (max a0_0 (max a0_4 (max a0_8 a0_12)) < y0) = false := decide_eq_false (by have := N0.out; omega)
  have l1 : decide (y1 < min a0_1 (min a0_5 (min a0_9 a0_13))) = false := decide_eq_false (by have := N1.out; omega)
  have u1 : decide (max a0_1 (max a0_5 (max a0_9 a0_13)) < y1) = false := decide_eq_false (by have := N1.out; omega)
  have l2 : decide (y2 < min a0_2 (min a0_6 (min a0_10 a0_14))) = false := decide_eq_false (by have := N2.out; omega)
  have u2 : decide (max a0_2 (max a0_6 (max a0_10 a0_14)) < y2) = false := decide_eq_false (by have := N2.out; omega)
  have l3 : decide (y3 < min a0_3 (min a0_7 (min a0_11 a0_15))) = false := decide_eq_false (by have := N3.out; omega)
  have u3 : decide (max a0_3 (max a0_7 (max a0_11 a0_15)) < y3) = false := decide_eq_false (by have := N3.out; omega)
  go_wp2_with fail
  refine wp_loop_rounds 5 ?_
  rw [rounds_succ]; go_wp2; go_quiet (fail)
  go_wp2
  rw [rounds_succ]; go_wp2; go_quiet (fail)
  go_wp2
  rw [rounds_succ]; go_wp2; go_quiet (fail)
  go_wp2
  rw [rounds_succ]; go_wp2; go_quiet (fail)
  go_wp2
  rw [rounds_succ]
  go_wp2_with fail
  refine (mean_any (max a0_0 a1) (max a0_1 a1) (max a0_2 a1) (max a0_3 a1) a0_4 a0_5 a0_6 a0_7 a0_8 a0_9 a0_10 a0_11 a0_12 a0_13 a0_14 a0_15 _ (up_b8 P0.out PM.out) (up_b8 P1.out PM.out) (up_b8 P2.out PM.out) (up_b8 P3.out PM.out) P4.out P5.out P6.out P7.out P8.out P9.out P10.out P11.out P12.out P13.out P14.out P15.out).mono ?_
  rintro e w3 ⟨rfl, hb3⟩
  have hs3 : U.heap.size + 1 ≤ w3.heap.size := by
    have h := hb3.size
    simpa using h
  have ey0 : w3.cell? ⟨w2.heap.size, 0, none⟩ = some (.int .u8 y0) := by rw [hb3.cell (p := ⟨w2.heap.size, 0, none⟩) (by simp; omega)]; go_cell
  have ey1 : w3.cell? ⟨w2.heap.size, 1, none⟩ = some (.int .u8 y1) := by rw [hb3.cell (p := ⟨w2.heap.size, 1, none⟩) (by simp; omega)]; go_cell
  have ey2 : w3.cell? ⟨w2.heap.size, 2, none⟩ = some (.int .u8 y2) := by rw [hb3.cell (p := ⟨w2.heap.size, 2, none⟩) (by simp; omega)]; go_cell
  have ey3 : w3.cell? ⟨w2.heap.size, 3, none⟩ = some (.int .u8 y3) := by rw [hb3.cell (p := ⟨w2.heap.size, 3, none⟩) (by simp; omega)]; go_cell
  have k0 : decide (meanB (max a0_0 a1) a0_4 a0_8 a0_12 < y0) = false := decide_eq_false (by have h := V0.out; omega)
  have k1 : decide (meanB (max a0_1 a1) a0_5 a0_9 a0_13 < y1) = false := decide_eq_false (by have h := V1.out; omega)
  have k2 : decide (meanB (max a0_2 a1) a0_6 a0_10 a0_14 < y2) = false := decide_eq_false (by have h := V2.out; omega)
  have k3 : decide (meanB (max a0_3 a1) a0_7 a0_11 a0_15 < y3) = false := decide_eq_false (by have h := V3.out; omega)
  have K3 : Below w.heap.size w w3 := by repeat' (first | (with_reducible exact Below.refl _ _) | (with_reducible refine Rd.below_step ?_ (by assumption)) | (with_reducible refine Rd.below_alloc ?_ _) | (with_reducible refine Rd.below_drewN ?_ _) | (with_reducible refine Below.drew ?_) | (with_reducible refine Below.setCell ?_ ?_ _) | go_size)
  have HB3 := Lib.hid hb3
  clear hb3
  have ne3 : w2.heap.size < w3.heap.size := by omega
  clear da0 da1 da2 da3 da4 da5 da6 da7 da8 da9 da10 da11 da12 da13 da14 da15 l0 u0 dy0 l1 u1 dy1 l2 u2 dy2 l3 u3 dy3
  go_wp2_with fail
  refine wp_loop_rounds 5 ?_
  rw [rounds_succ]; go_wp2; go_quiet (fail)
  go_wp2
  rw [rounds_succ]; go_wp2; go_quiet (fail)
  go_wp2
  rw [rounds_succ]; go_wp2; go_quiet (fail)
  go_wp2
  rw [rounds_succ]; go_wp2; go_quiet (fail)
  go_wp2
  rw [rounds_succ]
  go_wp2_with fail
  refine (awake_any _).mono ?_
  rintro e w4 ⟨rfl, hb4⟩
  go_wp2
  go_ret
  exact ⟨rfl, by repeat' (first | (with_reducible exact Below.refl _ _) | (with_reducible refine Rd.below_step ?_ (by assumption)) | (with_reducible refine Rd.below_alloc ?_ _) | (with_reducible refine Rd.below_drewN ?_ _) | (with_reducible refine Below.drew ?_) | (with_reducible refine Below.setCell ?_ ?_ _) | go_size)⟩
