/-
  What the functions of package hue answer, and those of the document's own answer: colours byte by byte.
-/
import Derived.Test.YtkklppjimnkibaaReg
namespace Go.Proofs.Ytkklppjimnkibaa.HueA
open Go.RowKit
set_option linter.unusedVariables false
set_option linter.unusedSimpArgs false
set_option maxRecDepth 4000

abbrev B8 (a : Int) : Prop := 0 ≤ a ∧ a ≤ 255
/-- how far, held to 0 to 256 -/
def clamp (t : Int) : Int := if t < 0 then 0 else if 256 < t then 256 else t
theorem clamp_bd (t : Int) : 0 ≤ clamp t ∧ clamp t ≤ 256 := by unfold clamp; split <;> (try split) <;> omega
/-- a byte between two -/
def mixB (t a b : Int) : Int := ((256 - t) * a + t * b + 128) / 256
def timesB (a b : Int) : Int := (a * b + 127) / 255
def meanB (a b c d : Int) : Int := (a + b + c + d + 2) / 4

theorem mix_bd {t a b : Int} (h0 : 0 ≤ t) (h1 : t ≤ 256) (p : B8 a) (q : B8 b) :
    0 ≤ (256 - t) * a ∧ (256 - t) * a ≤ 65280 ∧ 0 ≤ t * b ∧ t * b ≤ 65280 ∧ (256 - t) * a + t * b ≤ 65280 := by
  have k1 : 0 ≤ (256 - t) * a := Int.mul_nonneg (by omega) p.1
  have k2 : 0 ≤ t * b := Int.mul_nonneg (by omega) q.1
  have k3 : (256 - t) * a ≤ (256 - t) * 255 := Int.mul_le_mul_of_nonneg_left p.2 (by omega)
  have k4 : t * b ≤ t * 255 := Int.mul_le_mul_of_nonneg_left q.2 (by omega)
  omega
theorem mix_bd' {t a b : Int} (h0 : 0 ≤ t) (h1 : t ≤ 256) (p : B8 a) (q : B8 b) :
    0 ≤ a * (256 - t) ∧ a * (256 - t) ≤ 65280 ∧ 0 ≤ b * t ∧ b * t ≤ 65280 ∧ a * (256 - t) + b * t ≤ 65280 := by
  rw [Int.mul_comm a, Int.mul_comm b]; exact mix_bd h0 h1 p q
theorem mixB_comm (t a b : Int) : mixB t a b = (a * (256 - t) + b * t + 128) / 256 := by
  unfold mixB; rw [Int.mul_comm a, Int.mul_comm b]
theorem mixB_bd {t a b : Int} (h0 : 0 ≤ t) (h1 : t ≤ 256) (p : B8 a) (q : B8 b) : B8 (mixB t a b) := by
  have := mix_bd h0 h1 p q
  unfold mixB B8; omega
theorem mul_bd {a b : Int} (p : B8 a) (q : B8 b) : 0 ≤ a * b ∧ a * b ≤ 65025 := by
  have k1 : 0 ≤ a * b := Int.mul_nonneg p.1 q.1
  have k2 : a * b ≤ 255 * 255 := Int.mul_le_mul p.2 q.2 q.1 (by omega)
  omega
theorem timesB_bd {a b : Int} (p : B8 a) (q : B8 b) : B8 (timesB a b) := by
  have := mul_bd p q
  unfold timesB B8; omega
theorem meanB_bd {a b c d : Int} (p : B8 a) (q : B8 b) (r : B8 c) (s : B8 d) : B8 (meanB a b c d) := by
  unfold meanB; simp only [B8] at *; omega

theorem ret_agg4 {k : IntKind} {a b c d a' b' c' d' : Int} (h0 : a = a') (h1 : b = b') (h2 : c = c') (h3 : d = d') :
    Ending.returned (.agg #[.int k a, .int k b, .int k c, .int k d]) = .returned (.agg #[.int k a', .int k b', .int k c', .int k d']) := by rw [h0, h1, h2, h3]




set_option maxHeartbeats 1000000 in
theorem rmean_any (a0 a1 a2 a3 b0 b1 b2 b3 c0 c1 c2 c3 d0 d1 d2 d3 : Int) (w : World) (ha0 : B8 a0) (ha1 : B8 a1) (ha2 : B8 a2) (ha3 : B8 a3) (hb0 : B8 b0) (hb1 : B8 b1) (hb2 : B8 b2) (hb3 : B8 b3) (hc0 : B8 c0) (hc1 : B8 c1) (hc2 : B8 c2) (hc3 : B8 c3) (hd0 : B8 d0) (hd1 : B8 d1) (hd2 : B8 d2) (hd3 : B8 d3) :
    Calls Try.prog 48 #[.agg #[.int .u8 a0, .int .u8 a1, .int .u8 a2, .int .u8 a3], .agg #[.int .u8 b0, .int .u8 b1, .int .u8 b2, .int .u8 b3], .agg #[.int .u8 c0, .int .u8 c1, .int .u8 c2, .int .u8 c3], .agg #[.int .u8 d0, .int .u8 d1, .int .u8 d2, .int .u8 d3]] w fun e w' => e = .returned (.agg #[.int .u8 (meanB a0 b0 c0 d0), .int .u8 (meanB a1 b1 c1 d1), .int .u8 (meanB a2 b2 c2 d2), .int .u8 (meanB a3 b3 c3 d3)]) ∧ Below w.heap.size w w' := by
  obtain ⟨la0, ua0⟩ := ha0
  obtain ⟨la1, ua1⟩ := ha1
  obtain ⟨la2, ua2⟩ := ha2
  obtain ⟨la3, ua3⟩ := ha3
  obtain ⟨lb0, ub0⟩ := hb0
  obtain ⟨lb1, ub1⟩ := hb1
  obtain ⟨lb2, ub2⟩ := hb2
  obtain ⟨lb3, ub3⟩ := hb3
  obtain ⟨lc0, uc0⟩ := hc0
  obtain ⟨lc1, uc1⟩ := hc1
  obtain ⟨lc2, uc2⟩ := hc2
  obtain ⟨lc3, uc3⟩ := hc3
  obtain ⟨ld0, ud0⟩ := hd0
  obtain ⟨ld1, ud1⟩ := hd1
  obtain ⟨ld2, ud2⟩ := hd2
  obtain ⟨ld3, ud3⟩ := hd3
  simp only [meanB]
  go_enter Try.func48, Try.ntmps48
  go_wp2
  refine wp_loop_rounds 5 ?_
  iterate 4 (rw [rounds_succ]; go_wp2; (refine Reg.quiet_tail 24 (by kernel_rfl) (by kernel_rfl) ?_; simp only [List.take_succ_cons, List.take_zero, List.drop_succ_cons, List.drop_zero]; (repeat go_big_quiet_step (fail)); refine wpQuiet_nil ?_); go_wp2)
  rw [rounds_succ]; go_wp2
  go_returns
  refine ⟨?_, ?_⟩
  · first | rfl | (apply ret_agg4 <;> omega)
  · go_grown



end Go.Proofs.Ytkklppjimnkibaa.HueA
