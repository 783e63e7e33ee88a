/-
  The weights at a point: both answers.
-/
import Derived.Test.YtjbmochndpdolaaTriB
import Derived.Test.YtjbmochndpdolaaLog
namespace Go.Proofs.Ytjbmochndpdolaa.TriC
open Go.RowKit FixA Num Rd Go.Proofs.Ytjbmochndpdolaa.Row TriA TriB
set_option linter.unusedVariables false
set_option linter.unusedSimpArgs false
set_option maxRecDepth 10000
attribute [local go_sem ↓] load_tri store_tri load_w3 store_w3 load_spot
attribute [local go_sem] one_int run_load_spot run_load_tri run_load_w3 run_store_tri run_store_w3 rowLoad_eq rowStore_eq midLoad_eq ext0 ext1 ext2 blk_alloc_at blk_alloc_old blk_drew blk_drewN blk_set_far blk_set_far' blk_grow setRow_alloc_at setRow_alloc_old setRow_drew setRow_drewN
attribute [local go_sem high] run_maxT run_minT

def far : Int := 274877906944
def qv (q : Int) : Int := near 274877906944 q
theorem qv_bd {q : Int} (h0 : 256 ≤ q) (h1 : q ≤ 536870912) : 0 < qv q ∧ qv q ≤ 1073741824 := by
  have a := near_lo 274877906944 q (by omega)
  have b := near_hi 274877906944 q (by omega)
  unfold qv
  have c := near_bd 274877906944 q 274877906944 (by omega) (by omega) (by omega)
  constructor
  · rcases Int.lt_or_le 0 (near 274877906944 q) with h | h
    · exact h
    · have := Int.mul_le_mul_of_nonneg_right h (show 0 ≤ q by omega)
      have e : 2 * near 274877906944 q * q = 2 * (near 274877906944 q * q) := by rw [Int.mul_assoc]
      omega
  · rcases Int.lt_or_le 1073741824 (near 274877906944 q) with h | h
    · have := Int.mul_le_mul_of_nonneg_right (show 1073741825 ≤ near 274877906944 q by omega) (show 0 ≤ q by omega)
      have e : 2 * near 274877906944 q * q = 2 * (near 274877906944 q * q) := by rw [Int.mul_assoc]
      omega
    · exact h
def n0 (t : List Int) (x y : Int) : Int := ed0 t x y * qv (g t 3)
def n1 (t : List Int) (x y : Int) : Int := ed1 t x y * qv (g t 9)
def n2 (t : List Int) (x y : Int) : Int := ed2 t x y * qv (g t 15)
def sm (t : List Int) (x y : Int) : Int := n0 t x y + n1 t x y + n2 t x y
def kk (s : Int) : Int := max 0 (Log.log2V s - 41)
def sS (s : Int) : Int := s / 2 ^ (kk s).toNat
def wOne (n s : Int) : Int := 65536 * hold (n / 2 ^ (kk s).toNat) (-16 * sS s) (16 * sS s) / sS s
def wL (t : List Int) (x y : Int) : List Int := [wOne (n0 t x y) (sm t x y), wOne (n1 t x y) (sm t x y), 65536 - wOne (n0 t x y) (sm t x y) - wOne (n1 t x y) (sm t x y)]
def wV (t : List Int) (x y : Int) : List Int × Bool := if sm t x y < 1 then ([0, 0, 0], false) else (wL t x y, true)

theorem mul_q {e q : Int} (h : -1073741824 ≤ e ∧ e ≤ 1073741824) (h0 : 256 ≤ q) (h1 : q ≤ 536870912) : -1152921504606846976 ≤ e * qv q ∧ e * qv q ≤ 1152921504606846976 := by
  have := qv_bd h0 h1
  have := prod_bd (A := 1073741824) (B := 1073741824) h.1 h.2 (by omega : -1073741824 ≤ qv q) this.2
  omega
theorem n0_bd {t : List Int} {x y : Int} (h : Tri t) (hx : Pt x) (hy : Pt y) : -1152921504606846976 ≤ n0 t x y ∧ n0 t x y ≤ 1152921504606846976 := mul_q (ed0_bd h hx hy) h.s0.w0 h.s0.w1
theorem n1_bd {t : List Int} {x y : Int} (h : Tri t) (hx : Pt x) (hy : Pt y) : -1152921504606846976 ≤ n1 t x y ∧ n1 t x y ≤ 1152921504606846976 := mul_q (ed1_bd h hx hy) h.s1.w0 h.s1.w1
theorem n2_bd {t : List Int} {x y : Int} (h : Tri t) (hx : Pt x) (hy : Pt y) : -1152921504606846976 ≤ n2 t x y ∧ n2 t x y ≤ 1152921504606846976 := mul_q (ed2_bd h hx hy) h.s2.w0 h.s2.w1

theorem log_s {s : Int} (h1 : 1 ≤ s) (h2 : s ≤ 3458764513820540928) : ∃ k : Nat, k ≤ 61 ∧ Log.log2V s = k ∧ (2 : Int) ^ k ≤ s ∧ s < 2 ^ (k + 1) := by
  obtain ⟨k, a, b, c⟩ := Log.log2_exists 62 s h1 (by have : (2 : Int) ^ 62 = 4611686018427387904 := by decide
                                                     omega)
  exact ⟨k, by omega, Log.log2_pow k s b c (by omega), b, c⟩
theorem sS_bd {s : Int} (h1 : 1 ≤ s) (h2 : s ≤ 3458764513820540928) : 0 ≤ kk s ∧ kk s ≤ 20 ∧ 1 ≤ sS s ∧ sS s < 4398046511104 := by
  obtain ⟨k, hk, e, a, b⟩ := log_s h1 h2
  have ek : kk s = max 0 ((k : Int) - 41) := by unfold kk; rw [e]
  refine ⟨by omega, by omega, ?_⟩
  unfold sS
  by_cases h : k ≤ 41
  · have : kk s = 0 := by omega
    rw [this]
    have p : (2 : Int) ^ (k + 1) ≤ 2 ^ 42 := by
      have : (2 : Nat) ^ (k + 1) ≤ 2 ^ 42 := Nat.pow_le_pow_right (by omega) (by omega)
      exact_mod_cast this
    have p2 : (2 : Int) ^ 42 = 4398046511104 := by decide
    simp only [Int.toNat_zero, Int.pow_zero, Int.ediv_one]
    omega
  · have e2 : (kk s).toNat = k - 41 := by omega
    rw [e2]
    have p0 : (0 : Int) < 2 ^ (k - 41) := Int.pow_pos (by omega)
    have p1 : (2 : Int) ^ k = 2 ^ 41 * 2 ^ (k - 41) := by rw [← Int.pow_add]; congr 1; omega
    have p2 : (2 : Int) ^ (k + 1) = 2 ^ 42 * 2 ^ (k - 41) := by rw [← Int.pow_add]; congr 1; omega
    have p3 : (2 : Int) ^ 42 = 4398046511104 := by decide
    have p4 : (2 : Int) ^ 41 = 2199023255552 := by decide
    rw [p1, p4] at a
    rw [p2, p3] at b
    constructor
    · have : 2199023255552 ≤ s / 2 ^ (k - 41) := Int.le_ediv_of_mul_le p0 a
      omega
    · exact Int.ediv_lt_of_lt_mul p0 b
theorem div_bd {n B : Int} (k : Nat) (h1 : -B ≤ n) (h2 : n ≤ B) (hB : 0 ≤ B) : -B ≤ n / 2 ^ k ∧ n / 2 ^ k ≤ B := by
  have p0 : (0 : Int) < 2 ^ k := Int.pow_pos (by omega)
  constructor
  · refine Int.le_ediv_of_mul_le p0 ?_
    have := Int.mul_le_mul_of_nonneg_left (show (1 : Int) ≤ 2 ^ k by omega) hB
    have e : -B * 2 ^ k = -(B * 2 ^ k) := Int.neg_mul ..
    omega
  · have h3 := Int.mul_le_mul_of_nonneg_left (show (1 : Int) ≤ 2 ^ k by omega) (show 0 ≤ B + 1 by omega)
    have : n / 2 ^ k < B + 1 := Int.ediv_lt_of_lt_mul p0 (by omega)
    omega
theorem hold_bd (n a b : Int) (h : a ≤ b) : a ≤ hold n a b ∧ hold n a b ≤ b := by unfold hold; omega
theorem wOne_bd {n s : Int} (h1 : 1 ≤ s) (h2 : s ≤ 3458764513820540928) : -1048576 ≤ wOne n s ∧ wOne n s ≤ 1048576 := by
  have ⟨_, _, c, d⟩ := sS_bd h1 h2
  have := hold_bd (n / 2 ^ (kk s).toNat) (-16 * sS s) (16 * sS s) (by omega)
  unfold wOne
  constructor
  · refine Int.le_ediv_of_mul_le (by omega) ?_
    omega
  · have : 65536 * hold (n / 2 ^ (kk s).toNat) (-16 * sS s) (16 * sS s) / sS s < 1048577 := Int.ediv_lt_of_lt_mul (by omega) (by omega)
    omega

theorem round_q (q : Int) (h0 : 256 ≤ q) (h1 : q ≤ 536870912) (w : World) :
    Calls Try.prog 19 #[.int .i64 274877906944, .int .i64 q] w fun e w' => e = .returned (.tuple #[.int .i64 (qv q), .int .i64 0]) ∧ Below w.heap.size w w' := by
  refine (round_any 274877906944 q w (wf_mk (by omega) (by omega)) (wf_mk (by omega) (by omega))).mono ?_
  rintro e w' ⟨rfl, k, rfl⟩
  refine ⟨?_, Rd.below_drewN (Below.refl _ _) k⟩
  have : roundV 274877906944 q = (near 274877906944 q, 0) := by
    unfold roundV
    rw [if_neg (by omega), if_neg (by omega)]
  rw [this]; rfl

theorem pdown_w (n s : Int) (h1 : 1 ≤ s) (h2 : s ≤ 3458764513820540928) (w : World) :
    Calls Try.prog 21 #[.int .i64 (65536 * hold (n / 2 ^ (kk s).toNat) (-16 * sS s) (16 * sS s)), .int .i64 (sS s)] w fun e w' => e = .returned (.int .i64 (wOne n s)) ∧ w = w' := by
  have ⟨_, _, c, d⟩ := sS_bd h1 h2
  have := hold_bd (n / 2 ^ (kk s).toNat) (-16 * sS s) (16 * sS s) (by omega)
  exact pdown_any _ _ w (by omega) (by omega) (by omega) (by omega)
theorem fold_kk (s : Int) : max 0 (Log.log2V s - 41) = kk s := rfl
theorem fold_sS (s : Int) : s / 2 ^ (kk s).toNat = sS s := rfl
theorem fold_sm (t : List Int) (x y : Int) : n0 t x y + n1 t x y + n2 t x y = sm t x y := rfl
theorem fold_hold (n b : Int) : max (-16 * b) (min n (16 * b)) = hold n (-16 * b) (16 * b) := rfl
attribute [local go_sem] fold_kk fold_sS fold_sm fold_hold
set_option maxHeartbeats 1000000 in
theorem weights_any (t : List Int) (h : Tri t) (x y : Int) (hx : Pt x) (hy : Pt y) (w : World) :
    Calls Try.prog 10 #[.agg (cs .i64 t), .int .i64 x, .int .i64 y] w fun e w' => e = .returned (.tuple #[.agg (cs .i64 (wV t x y).1), .bool (wV t x y).2]) ∧ Below w.heap.size w w' := by
  have hl := h.len
  go_enter Try.func10, Try.ntmps10
  go_wp2_with fail
  refine (edges_any t h x y hx hy _).mono ?_
  rintro e w1 ⟨rfl, hb⟩
  have hs := hb.size
  simp only [World.size_alloc] at hs
  have b0 : blk w1 w.heap.size = some (.cells (cs .i64 t) 24 (0, 0)) := (blk_below hb _ (by simp; omega)).trans (by simp [blk_alloc_at, blk_alloc_old])
  have z1 : blk w1 (w.heap.size + 1) = some (.cells (cs .i64 [0, 0, 0]) 27 (0, 0)) := (blk_below hb _ (by simp)).trans (by simp [blk_alloc_at, blk_alloc_old])
  have L1 : Below w.heap.size w w1 := by repeat' (first | (with_reducible exact Below.refl _ _) | (with_reducible refine Rd.below_step ?_ (by assumption)) | (with_reducible refine Rd.below_alloc ?_ _) | (with_reducible refine Rd.below_drewN ?_ _) | (with_reducible refine Below.drew ?_) | (with_reducible refine Below.setCell ?_ ?_ _) | (with_reducible refine Rd.below_setRow ?_ ?_ _) | go_size | (simp only [World.size_alloc]; omega) | omega)
  clear hb
  have k0 : w.heap.size < w1.heap.size := by omega
  have k1 : w.heap.size + 1 < w1.heap.size := by omega
  have c3 : w1.cell? ⟨w.heap.size, 3, none⟩ = some (.int .i64 (g t 3)) := by rw [blk_cell b0]; exact cs_at (at_of (l := t) (by omega))
  have p0 : -1152921504606846976 ≤ ed0 t x y * qv (g t 3) ∧ ed0 t x y * qv (g t 3) ≤ 1152921504606846976 := n0_bd h hx hy
  have p1 : -1152921504606846976 ≤ ed1 t x y * qv (g t 9) ∧ ed1 t x y * qv (g t 9) ≤ 1152921504606846976 := n1_bd h hx hy
  have p2 : -1152921504606846976 ≤ ed2 t x y * qv (g t 15) ∧ ed2 t x y * qv (g t 15) ≤ 1152921504606846976 := n2_bd h hx hy
  go_wp2
  refine wp_loop_rounds 4 ?_
  rw [rounds_succ]
  go_wp2_with fail
  refine (round_q _ h.s0.w0 h.s0.w1 _).mono ?_
  rintro e w2 ⟨rfl, hb⟩
  have hs := hb.size
  simp only [World.size_alloc] at hs
  have b0' : blk w2 w.heap.size = some (.cells (cs .i64 t) 24 (0, 0)) := (blk_below hb _ (by simp; omega)).trans (by rw [blk_alloc_old _ _ _ k0]; exact b0)
  have z1' : blk w2 (w.heap.size + 1) = some (.cells (cs .i64 [0, 0, 0]) 27 (0, 0)) := (blk_below hb _ (by simp; omega)).trans (by rw [blk_alloc_old _ _ _ k1]; exact z1)
  have m1' : blk w2 w1.heap.size = some (.cells (cs .i64 [ed0 t x y, ed1 t x y, ed2 t x y]) 27 (0, 0)) := (blk_below hb _ (by simp)).trans (by rw [blk_alloc_at _ _ _ rfl])
  have L2 : Below w.heap.size w w2 := by repeat' (first | (with_reducible exact Below.refl _ _) | (with_reducible refine Rd.below_step ?_ (by assumption)) | (with_reducible refine Rd.below_alloc ?_ _) | (with_reducible refine Rd.below_drewN ?_ _) | (with_reducible refine Below.drew ?_) | (with_reducible refine Below.setCell ?_ ?_ _) | (with_reducible refine Rd.below_setRow ?_ ?_ _) | go_size | (simp only [World.size_alloc]; omega) | omega)
  clear hb b0 z1 L1 c3
  have b0 := b0'
  have z1 := z1'
  have m1 := m1'
  clear b0' z1' m1'
  have k2 : w1.heap.size < w2.heap.size := by omega
  have c9 : w2.cell? ⟨w.heap.size, 9, none⟩ = some (.int .i64 (g t 9)) := by rw [blk_cell b0]; exact cs_at (at_of (l := t) (by omega))
  have d0 : w2.cell? ⟨w1.heap.size, 0, none⟩ = some (.int .i64 (ed0 t x y)) := by rw [blk_cell m1]; rfl
  have d1 : w2.cell? ⟨w1.heap.size, 1, none⟩ = some (.int .i64 (ed1 t x y)) := by rw [blk_cell m1]; rfl
  have d2 : w2.cell? ⟨w1.heap.size, 2, none⟩ = some (.int .i64 (ed2 t x y)) := by rw [blk_cell m1]; rfl
  have f0 : w2.frozen? ⟨w1.heap.size, 0, none⟩ = false := blk_frozen m1 _
  go_wp2
  clear d0 d1 d2 f0
  rw [rounds_succ]
  go_wp2_with fail
  refine (round_q _ h.s1.w0 h.s1.w1 _).mono ?_
  rintro e w3 ⟨rfl, hb⟩
  have hs := hb.size
  simp only [World.size_setCell] at hs
  have b0' : blk w3 w.heap.size = some (.cells (cs .i64 t) 24 (0, 0)) := (blk_below hb _ (by simp; omega)).trans (by rw [blk_set_far _ _ _ _ k0]; exact b0)
  have z1' : blk w3 (w.heap.size + 1) = some (.cells (cs .i64 [0, 0, 0]) 27 (0, 0)) := (blk_below hb _ (by simp; omega)).trans (by rw [blk_set_far _ _ _ _ k1]; exact z1)
  have m1' : blk w3 w1.heap.size = some (.cells (cs .i64 [ed0 t x y * qv (g t 3), ed1 t x y, ed2 t x y]) 27 (0, 0)) := (blk_below hb _ (by simp; omega)).trans (by rw [blk_set _ _ _ _ _ _ m1]; simp)
  have L3 : Below w.heap.size w w3 := by repeat' (first | (with_reducible exact Below.refl _ _) | (with_reducible refine Rd.below_step ?_ (by assumption)) | (with_reducible refine Rd.below_alloc ?_ _) | (with_reducible refine Rd.below_drewN ?_ _) | (with_reducible refine Below.drew ?_) | (with_reducible refine Below.setCell ?_ ?_ _) | (with_reducible refine Rd.below_setRow ?_ ?_ _) | go_size | (simp only [World.size_alloc]; omega) | omega)
  clear hb b0 z1 m1 L2 c9
  have b0 := b0'
  have z1 := z1'
  have m1 := m1'
  clear b0' z1' m1'
  have k2 : w1.heap.size < w3.heap.size := by omega
  have c15 : w3.cell? ⟨w.heap.size, 15, none⟩ = some (.int .i64 (g t 15)) := by rw [blk_cell b0]; exact cs_at (at_of (l := t) (by omega))
  have d0 : w3.cell? ⟨w1.heap.size, 0, none⟩ = some (.int .i64 (ed0 t x y * qv (g t 3))) := by rw [blk_cell m1]; rfl
  have d1 : w3.cell? ⟨w1.heap.size, 1, none⟩ = some (.int .i64 (ed1 t x y)) := by rw [blk_cell m1]; rfl
  have d2 : w3.cell? ⟨w1.heap.size, 2, none⟩ = some (.int .i64 (ed2 t x y)) := by rw [blk_cell m1]; rfl
  have f1 : w3.frozen? ⟨w1.heap.size, 1, none⟩ = false := blk_frozen m1 _
  go_wp2
  clear d0 d1 d2 f1
  rw [rounds_succ]
  go_wp2_with fail
  refine (round_q _ h.s2.w0 h.s2.w1 _).mono ?_
  rintro e w4 ⟨rfl, hb⟩
  have hs := hb.size
  simp only [World.size_setCell] at hs
  have b0' : blk w4 w.heap.size = some (.cells (cs .i64 t) 24 (0, 0)) := (blk_below hb _ (by simp; omega)).trans (by rw [blk_set_far _ _ _ _ k0]; exact b0)
  have z1' : blk w4 (w.heap.size + 1) = some (.cells (cs .i64 [0, 0, 0]) 27 (0, 0)) := (blk_below hb _ (by simp; omega)).trans (by rw [blk_set_far _ _ _ _ k1]; exact z1)
  have m1' : blk w4 w1.heap.size = some (.cells (cs .i64 [ed0 t x y * qv (g t 3), ed1 t x y * qv (g t 9), ed2 t x y]) 27 (0, 0)) := (blk_below hb _ (by simp; omega)).trans (by rw [blk_set _ _ _ _ _ _ m1]; simp)
  have L4 : Below w.heap.size w w4 := by repeat' (first | (with_reducible exact Below.refl _ _) | (with_reducible refine Rd.below_step ?_ (by assumption)) | (with_reducible refine Rd.below_alloc ?_ _) | (with_reducible refine Rd.below_drewN ?_ _) | (with_reducible refine Below.drew ?_) | (with_reducible refine Below.setCell ?_ ?_ _) | (with_reducible refine Rd.below_setRow ?_ ?_ _) | go_size | (simp only [World.size_alloc]; omega) | omega)
  clear hb b0 z1 m1 L3 c15
  have b0 := b0'
  have z1 := z1'
  have m1 := m1'
  clear b0' z1' m1'
  have k2 : w1.heap.size < w4.heap.size := by omega
  have d0 : w4.cell? ⟨w1.heap.size, 0, none⟩ = some (.int .i64 (ed0 t x y * qv (g t 3))) := by rw [blk_cell m1]; rfl
  have d1 : w4.cell? ⟨w1.heap.size, 1, none⟩ = some (.int .i64 (ed1 t x y * qv (g t 9))) := by rw [blk_cell m1]; rfl
  have d2 : w4.cell? ⟨w1.heap.size, 2, none⟩ = some (.int .i64 (ed2 t x y)) := by rw [blk_cell m1]; rfl
  have f2 : w4.frozen? ⟨w1.heap.size, 2, none⟩ = false := blk_frozen m1 _
  go_wp2
  clear d0 d1 d2 f2
  rw [rounds_succ]
  refine Rd.name_world ?_
  intro w5 hw5
  have b5 : blk w5 w.heap.size = some (.cells (cs .i64 t) 24 (0, 0)) := by rw [hw5, blk_set_far _ _ _ _ k0]; exact b0
  have z5 : blk w5 (w.heap.size + 1) = some (.cells (cs .i64 [0, 0, 0]) 27 (0, 0)) := by rw [hw5, blk_set_far _ _ _ _ k1]; exact z1
  have m5 : blk w5 w1.heap.size = some (.cells (cs .i64 [n0 t x y, n1 t x y, n2 t x y]) 27 (0, 0)) := by rw [hw5, blk_set _ _ _ _ _ _ m1]; simp [n0, n1, n2]
  have L5 : Below w.heap.size w w5 := by
    rw [hw5]
    repeat' (first | (with_reducible exact Below.refl _ _) | (with_reducible refine Rd.below_step ?_ (by assumption)) | (with_reducible refine Rd.below_alloc ?_ _) | (with_reducible refine Rd.below_drewN ?_ _) | (with_reducible refine Below.drew ?_) | (with_reducible refine Below.setCell ?_ ?_ _) | (with_reducible refine Rd.below_setRow ?_ ?_ _) | go_size | (simp only [World.size_alloc]; omega) | omega)
  have k5 : w1.heap.size < w5.heap.size := by rw [hw5]; simpa only [World.size_setCell] using k2
  clear hw5 b0 z1 m1 L4 k2 p0 p1 p2 hs
  have k6 : w.heap.size < w5.heap.size := by omega
  have k7 : w.heap.size + 1 < w5.heap.size := by omega
  have d0 : w5.cell? ⟨w1.heap.size, 0, none⟩ = some (.int .i64 (n0 t x y)) := by rw [blk_cell m5]; rfl
  have d1 : w5.cell? ⟨w1.heap.size, 1, none⟩ = some (.int .i64 (n1 t x y)) := by rw [blk_cell m5]; rfl
  have d2 : w5.cell? ⟨w1.heap.size, 2, none⟩ = some (.int .i64 (n2 t x y)) := by rw [blk_cell m5]; rfl
  have p0 := n0_bd h hx hy
  have p1 := n1_bd h hx hy
  have p2 := n2_bd h hx hy
  have p3 : -3458764513820540928 ≤ sm t x y ∧ sm t x y ≤ 3458764513820540928 := by unfold sm; omega
  by_cases hlt : sm t x y < 1
  · have ea : wV t x y = ([0, 0, 0], false) := by unfold wV; rw [if_pos hlt]
    have EA := Lib.hid ea
    clear ea
    go_wp2
    exact ret_w3b rfl (w.heap.size + 1) [0, 0, 0] rfl rfl (blk_setRow_of z5 _) rfl ⟨by rw [EA.out]; rfl, by repeat' (first | (with_reducible exact Below.refl _ _) | (with_reducible refine Rd.below_step ?_ (by assumption)) | (with_reducible refine Rd.below_alloc ?_ _) | (with_reducible refine Rd.below_drewN ?_ _) | (with_reducible refine Below.drew ?_) | (with_reducible refine Below.setCell ?_ ?_ _) | (with_reducible refine Rd.below_setRow ?_ ?_ _) | go_size | (simp only [World.size_alloc]; omega) | omega)⟩
  · have ea : wV t x y = (wL t x y, true) := by unfold wV; rw [if_neg hlt]
    have EA := Lib.hid ea
    clear ea
    have q1 : 1 ≤ sm t x y := by omega
    obtain ⟨s0, s1, s2, s3⟩ := sS_bd q1 p3.2
    have lb := Log.log2_hi (n := sm t x y) (by omega)
    have h0 := hold_bd (n0 t x y / 2 ^ (kk (sm t x y)).toNat) (-16 * sS (sm t x y)) (16 * sS (sm t x y)) (by omega)
    have h1 := hold_bd (n1 t x y / 2 ^ (kk (sm t x y)).toNat) (-16 * sS (sm t x y)) (16 * sS (sm t x y)) (by omega)
    have v0 := wOne_bd (n := n0 t x y) q1 p3.2
    have v1 := wOne_bd (n := n1 t x y) q1 p3.2
    go_wp2_with (go_at_call 20; refine (Log.log2_any _ _ (wf_mk (by omega) (by omega))).mono ?_; rintro e w' ⟨rfl, rfl⟩)
    refine wp_loop_rounds 3 ?_
    iterate 2 (rw [rounds_succ]; go_wp2_with (go_at_call 21; refine (pdown_w _ _ q1 p3.2 _).mono ?_; rintro e w' ⟨rfl, rfl⟩))
    rw [rounds_succ]
    go_wp2
    exact ret_w3b rfl (w.heap.size + 1) (wL t x y) rfl rfl ((blk_alloc_old _ _ _ (by simp; omega)).trans (blk_setRow_of z5 _)) rfl ⟨by rw [EA.out]; rfl, by repeat' (first | (with_reducible exact Below.refl _ _) | (with_reducible refine Rd.below_step ?_ (by assumption)) | (with_reducible refine Rd.below_alloc ?_ _) | (with_reducible refine Rd.below_drewN ?_ _) | (with_reducible refine Below.drew ?_) | (with_reducible refine Below.setCell ?_ ?_ _) | (with_reducible refine Rd.below_setRow ?_ ?_ _) | go_size | (simp only [World.size_alloc]; omega) | omega)⟩

theorem fold_n0 (t : List Int) (x y : Int) : ed0 t x y * qv (g t 3) = n0 t x y := rfl
theorem fold_n1 (t : List Int) (x y : Int) : ed1 t x y * qv (g t 9) = n1 t x y := rfl
theorem fold_n2 (t : List Int) (x y : Int) : ed2 t x y * qv (g t 15) = n2 t x y := rfl
theorem fold_kk' (s : Int) : max (Log.log2V s - 41) 0 = kk s := by unfold kk; omega
theorem rnear_q (q : Int) (h0 : 256 ≤ q) (h1 : q ≤ 536870912) (w : World) :
    Calls Try.prog 23 #[.int .i64 274877906944, .int .i64 (max q 1)] w fun e w' => e = .returned (.int .i64 (qv q)) ∧ Below w.heap.size w w' := by
  have e : max q 1 = q := by omega
  rw [e]
  refine (rnear_any 274877906944 q w (by omega) (by omega) (by omega) (by omega)).mono ?_
  rintro e w' ⟨rfl, rfl⟩
  exact ⟨rfl, Below.refl _ _⟩
theorem rdown_w (n s : Int) (h1 : 1 ≤ s) (h2 : s ≤ 3458764513820540928) (w : World) :
    Calls Try.prog 25 #[.int .i64 (65536 * hold (n / 2 ^ (kk s).toNat) (-16 * sS s) (16 * sS s)), .int .i64 (sS s)] w fun e w' => e = .returned (.int .i64 (wOne n s)) ∧ w = w' := by
  have ⟨_, _, c, d⟩ := sS_bd h1 h2
  have := hold_bd (n / 2 ^ (kk s).toNat) (-16 * sS s) (16 * sS s) (by omega)
  exact TriB.rdown_any _ _ w (by omega) (by omega) (by omega) (by omega)
section
attribute [local go_sem] fold_n0 fold_n1 fold_n2 fold_kk'
set_option maxHeartbeats 1000000 in
theorem rweights_any (t : List Int) (h : Tri t) (x y : Int) (hx : Pt x) (hy : Pt y) (w : World) :
    Calls Try.prog 11 #[.agg (cs .i64 t), .int .i64 x, .int .i64 y] w fun e w' => e = .returned (.tuple #[.agg (cs .i64 (wV t x y).1), .bool (wV t x y).2]) ∧ Below w.heap.size w w' := by
  have hl := h.len
  go_enter Try.func11, Try.ntmps11
  go_wp2_with fail
  refine (redges_any t h x y hx hy _).mono ?_
  rintro e w1 ⟨rfl, hb⟩
  have hs := hb.size
  simp only [World.size_alloc] at hs
  have b0 : blk w1 w.heap.size = some (.cells (cs .i64 t) 24 (0, 0)) := (blk_below hb _ (by simp; omega)).trans (by simp [blk_alloc_at, blk_alloc_old])
  have z1 : blk w1 (w.heap.size + 1) = some (.cells (cs .i64 [0, 0, 0]) 27 (0, 0)) := (blk_below hb _ (by simp)).trans (by simp [blk_alloc_at, blk_alloc_old])
  have L1 : Below w.heap.size w w1 := by repeat' (first | (with_reducible exact Below.refl _ _) | (with_reducible refine Rd.below_step ?_ (by assumption)) | (with_reducible refine Rd.below_alloc ?_ _) | (with_reducible refine Rd.below_drewN ?_ _) | (with_reducible refine Below.drew ?_) | (with_reducible refine Below.setCell ?_ ?_ _) | (with_reducible refine Rd.below_setRow ?_ ?_ _) | go_size | (simp only [World.size_alloc]; omega) | omega)
  clear hb
  have k0 : w.heap.size < w1.heap.size := by omega
  have k1 : w.heap.size + 1 < w1.heap.size := by omega
  clear hs
  have p0 : -1152921504606846976 ≤ ed0 t x y * qv (g t 3) ∧ ed0 t x y * qv (g t 3) ≤ 1152921504606846976 := n0_bd h hx hy
  have p1 : -1152921504606846976 ≤ ed1 t x y * qv (g t 9) ∧ ed1 t x y * qv (g t 9) ≤ 1152921504606846976 := n1_bd h hx hy
  have p2 : -1152921504606846976 ≤ ed2 t x y * qv (g t 15) ∧ ed2 t x y * qv (g t 15) ≤ 1152921504606846976 := n2_bd h hx hy
  have p3 := n0_bd h hx hy
  have p4 := n1_bd h hx hy
  have p5 := n2_bd h hx hy
  have p6 : -3458764513820540928 ≤ sm t x y ∧ sm t x y ≤ 3458764513820540928 := by unfold sm; omega
  go_wp2
  refine wp_loop_rounds 4 ?_
  rw [rounds_succ]
  refine Rd.name_world ?_
  intro w2 hw2
  have hs2 : w2.heap.size = w1.heap.size + 2 := by rw [hw2]; simp
  have b2 : blk w2 w.heap.size = some (.cells (cs .i64 t) 24 (0, 0)) := by rw [hw2, blk_alloc_old _ _ _ (by simp; omega), blk_alloc_old _ _ _ k0]; exact b0
  have z2 : blk w2 (w.heap.size + 1) = some (.cells (cs .i64 [0, 0, 0]) 27 (0, 0)) := by rw [hw2, blk_alloc_old _ _ _ (by simp; omega), blk_alloc_old _ _ _ k1]; exact z1
  have e2 : blk w2 w1.heap.size = some (.cells (cs .i64 [ed0 t x y, ed1 t x y, ed2 t x y]) 27 (0, 0)) := by rw [hw2, blk_alloc_old _ _ _ (by simp), blk_alloc_at _ _ _ rfl]
  have m2 : blk w2 (w1.heap.size + 1) = some (.cells (cs .i64 [0, 0, 0]) 27 (0, 0)) := by rw [hw2, blk_alloc_at _ _ _ (by simp)]; rfl
  have L2 : Below w.heap.size w w2 := by
    rw [hw2]
    repeat' (first | (with_reducible exact Below.refl _ _) | (with_reducible refine Rd.below_step ?_ (by assumption)) | (with_reducible refine Rd.below_alloc ?_ _) | (with_reducible refine Rd.below_drewN ?_ _) | (with_reducible refine Below.drew ?_) | (with_reducible refine Below.setCell ?_ ?_ _) | (with_reducible refine Rd.below_setRow ?_ ?_ _) | go_size | (simp only [World.size_alloc]; omega) | omega)
  clear hw2 b0 z1 L1
  have g0 : w.heap.size < w2.heap.size := by omega
  have g1 : w1.heap.size < w2.heap.size := by omega
  have g2 : w1.heap.size + 1 < w2.heap.size := by omega
  have c0 : w2.cell? ⟨w.heap.size, 3, none⟩ = some (.int .i64 (g t 3)) := by rw [blk_cell b2]; exact cs_at (at_of (l := t) (by omega))
  have d0 : w2.cell? ⟨w1.heap.size, 0, none⟩ = some (.int .i64 (ed0 t x y)) := by rw [blk_cell e2]; rfl
  have gc0 := Go.cell_regrown c0
  have gd0 := Go.cell_regrown d0
  go_wp2
  (refine Reg.below_tail 12 (by kernel_rfl) (by kernel_rfl) ?_; simp only [List.take_succ_cons, List.take_zero, List.drop_succ_cons, List.drop_zero]; (repeat (go_big_quiet_step (((with_reducible exact Calls.regrown_of (rnear_q _ h.s0.w0 h.s0.w1 _)))))); refine wpQuiet_nil ?_)
  intro w3 hU
  have KU := Rd.below_of_regrown hU
  clear hU c0 d0 gc0 gd0
  have hs := KU.size
  have b3 := (blk_below KU _ g0).trans b2
  have z3 := (blk_below KU _ (by omega)).trans z2
  have e3 := (blk_below KU _ g1).trans e2
  have m3 := (blk_below KU _ g2).trans m2
  have L3 : Below w.heap.size w w3 := by repeat' (first | (with_reducible exact Below.refl _ _) | (with_reducible refine Rd.below_step ?_ (by assumption)) | (with_reducible refine Rd.below_alloc ?_ _) | (with_reducible refine Rd.below_drewN ?_ _) | (with_reducible refine Below.drew ?_) | (with_reducible refine Below.setCell ?_ ?_ _) | (with_reducible refine Rd.below_setRow ?_ ?_ _) | go_size | (simp only [World.size_alloc]; omega) | omega)
  clear KU b2 z2 e2 m2 L2 g0 g1 g2
  have g2 : w1.heap.size + 1 < w3.heap.size := by omega
  have n0' : w3.cell? ⟨w1.heap.size + 1, 0, none⟩ = some (.int .i64 0) := by rw [blk_cell m3]; rfl
  have f0' : w3.frozen? ⟨w1.heap.size + 1, 0, none⟩ = false := blk_frozen m3 _
  go_wp2
  clear n0' f0'
  rw [rounds_succ]
  refine Rd.name_world ?_
  intro w4 hw
  have hsz : w4.heap.size = w3.heap.size := by rw [hw]; simp
  have b4 : blk w4 w.heap.size = some (.cells (cs .i64 t) 24 (0, 0)) := by rw [hw, blk_set_far _ _ _ _ (by simp; omega)]; exact b3
  have z4 : blk w4 (w.heap.size + 1) = some (.cells (cs .i64 [0, 0, 0]) 27 (0, 0)) := by rw [hw, blk_set_far _ _ _ _ (by simp; omega)]; exact z3
  have e4 : blk w4 w1.heap.size = some (.cells (cs .i64 [ed0 t x y, ed1 t x y, ed2 t x y]) 27 (0, 0)) := by rw [hw, blk_set_far _ _ _ _ (by simp)]; exact e3
  have m4 : blk w4 (w1.heap.size + 1) = some (.cells (cs .i64 [n0 t x y, 0, 0]) 27 (0, 0)) := by rw [hw, blk_set _ _ _ _ _ _ m3]; simp [n0, n1, n2]
  have L4 : Below w.heap.size w w4 := by
    rw [hw]
    repeat' (first | (with_reducible exact Below.refl _ _) | (with_reducible refine Rd.below_step ?_ (by assumption)) | (with_reducible refine Rd.below_alloc ?_ _) | (with_reducible refine Rd.below_drewN ?_ _) | (with_reducible refine Below.drew ?_) | (with_reducible refine Below.setCell ?_ ?_ _) | (with_reducible refine Rd.below_setRow ?_ ?_ _) | go_size | (simp only [World.size_alloc]; omega) | omega)
  clear hw b3 z3 e3 m3 L3 g2
  have g0 : w.heap.size < w4.heap.size := by omega
  have g1 : w1.heap.size < w4.heap.size := by omega
  have g2 : w1.heap.size + 1 < w4.heap.size := by omega
  have c0 : w4.cell? ⟨w.heap.size, 9, none⟩ = some (.int .i64 (g t 9)) := by rw [blk_cell b4]; exact cs_at (at_of (l := t) (by omega))
  have d0 : w4.cell? ⟨w1.heap.size, 1, none⟩ = some (.int .i64 (ed1 t x y)) := by rw [blk_cell e4]; rfl
  have gc0 := Go.cell_regrown c0
  have gd0 := Go.cell_regrown d0
  go_wp2
  (refine Reg.below_tail 12 (by kernel_rfl) (by kernel_rfl) ?_; simp only [List.take_succ_cons, List.take_zero, List.drop_succ_cons, List.drop_zero]; (repeat (go_big_quiet_step (((with_reducible exact Calls.regrown_of (rnear_q _ h.s1.w0 h.s1.w1 _)))))); refine wpQuiet_nil ?_)
  intro w5 hU
  have KU := Rd.below_of_regrown hU
  clear hU c0 d0 gc0 gd0
  have hs := KU.size
  have b5 := (blk_below KU _ g0).trans b4
  have z5 := (blk_below KU _ (by omega)).trans z4
  have e5 := (blk_below KU _ g1).trans e4
  have m5 := (blk_below KU _ g2).trans m4
  have L5 : Below w.heap.size w w5 := by repeat' (first | (with_reducible exact Below.refl _ _) | (with_reducible refine Rd.below_step ?_ (by assumption)) | (with_reducible refine Rd.below_alloc ?_ _) | (with_reducible refine Rd.below_drewN ?_ _) | (with_reducible refine Below.drew ?_) | (with_reducible refine Below.setCell ?_ ?_ _) | (with_reducible refine Rd.below_setRow ?_ ?_ _) | go_size | (simp only [World.size_alloc]; omega) | omega)
  clear KU b4 z4 e4 m4 L4 g0 g1 g2
  have g2 : w1.heap.size + 1 < w5.heap.size := by omega
  have n0' : w5.cell? ⟨w1.heap.size + 1, 1, none⟩ = some (.int .i64 0) := by rw [blk_cell m5]; rfl
  have f0' : w5.frozen? ⟨w1.heap.size + 1, 1, none⟩ = false := blk_frozen m5 _
  go_wp2
  clear n0' f0'
  rw [rounds_succ]
  refine Rd.name_world ?_
  intro w6 hw
  have hsz : w6.heap.size = w5.heap.size := by rw [hw]; simp
  have b6 : blk w6 w.heap.size = some (.cells (cs .i64 t) 24 (0, 0)) := by rw [hw, blk_set_far _ _ _ _ (by simp; omega)]; exact b5
  have z6 : blk w6 (w.heap.size + 1) = some (.cells (cs .i64 [0, 0, 0]) 27 (0, 0)) := by rw [hw, blk_set_far _ _ _ _ (by simp; omega)]; exact z5
  have e6 : blk w6 w1.heap.size = some (.cells (cs .i64 [ed0 t x y, ed1 t x y, ed2 t x y]) 27 (0, 0)) := by rw [hw, blk_set_far _ _ _ _ (by simp)]; exact e5
  have m6 : blk w6 (w1.heap.size + 1) = some (.cells (cs .i64 [n0 t x y, n1 t x y, 0]) 27 (0, 0)) := by rw [hw, blk_set _ _ _ _ _ _ m5]; simp [n0, n1, n2]
  have L6 : Below w.heap.size w w6 := by
    rw [hw]
    repeat' (first | (with_reducible exact Below.refl _ _) | (with_reducible refine Rd.below_step ?_ (by assumption)) | (with_reducible refine Rd.below_alloc ?_ _) | (with_reducible refine Rd.below_drewN ?_ _) | (with_reducible refine Below.drew ?_) | (with_reducible refine Below.setCell ?_ ?_ _) | (with_reducible refine Rd.below_setRow ?_ ?_ _) | go_size | (simp only [World.size_alloc]; omega) | omega)
  clear hw b5 z5 e5 m5 L5 g2
  have g0 : w.heap.size < w6.heap.size := by omega
  have g1 : w1.heap.size < w6.heap.size := by omega
  have g2 : w1.heap.size + 1 < w6.heap.size := by omega
  have c0 : w6.cell? ⟨w.heap.size, 15, none⟩ = some (.int .i64 (g t 15)) := by rw [blk_cell b6]; exact cs_at (at_of (l := t) (by omega))
  have d0 : w6.cell? ⟨w1.heap.size, 2, none⟩ = some (.int .i64 (ed2 t x y)) := by rw [blk_cell e6]; rfl
  have gc0 := Go.cell_regrown c0
  have gd0 := Go.cell_regrown d0
  go_wp2
  (refine Reg.below_tail 12 (by kernel_rfl) (by kernel_rfl) ?_; simp only [List.take_succ_cons, List.take_zero, List.drop_succ_cons, List.drop_zero]; (repeat (go_big_quiet_step (((with_reducible exact Calls.regrown_of (rnear_q _ h.s2.w0 h.s2.w1 _)))))); refine wpQuiet_nil ?_)
  intro w7 hU
  have KU := Rd.below_of_regrown hU
  clear hU c0 d0 gc0 gd0
  have hs := KU.size
  have b7 := (blk_below KU _ g0).trans b6
  have z7 := (blk_below KU _ (by omega)).trans z6
  have e7 := (blk_below KU _ g1).trans e6
  have m7 := (blk_below KU _ g2).trans m6
  have L7 : Below w.heap.size w w7 := by repeat' (first | (with_reducible exact Below.refl _ _) | (with_reducible refine Rd.below_step ?_ (by assumption)) | (with_reducible refine Rd.below_alloc ?_ _) | (with_reducible refine Rd.below_drewN ?_ _) | (with_reducible refine Below.drew ?_) | (with_reducible refine Below.setCell ?_ ?_ _) | (with_reducible refine Rd.below_setRow ?_ ?_ _) | go_size | (simp only [World.size_alloc]; omega) | omega)
  clear KU b6 z6 e6 m6 L6 g0 g1 g2
  have g2 : w1.heap.size + 1 < w7.heap.size := by omega
  have n0' : w7.cell? ⟨w1.heap.size + 1, 2, none⟩ = some (.int .i64 0) := by rw [blk_cell m7]; rfl
  have f0' : w7.frozen? ⟨w1.heap.size + 1, 2, none⟩ = false := blk_frozen m7 _
  go_wp2
  clear n0' f0'
  rw [rounds_succ]
  refine Rd.name_world ?_
  intro w8 hw
  have hsz : w8.heap.size = w7.heap.size := by rw [hw]; simp
  have b8 : blk w8 w.heap.size = some (.cells (cs .i64 t) 24 (0, 0)) := by rw [hw, blk_set_far _ _ _ _ (by simp; omega)]; exact b7
  have z8 : blk w8 (w.heap.size + 1) = some (.cells (cs .i64 [0, 0, 0]) 27 (0, 0)) := by rw [hw, blk_set_far _ _ _ _ (by simp; omega)]; exact z7
  have e8 : blk w8 w1.heap.size = some (.cells (cs .i64 [ed0 t x y, ed1 t x y, ed2 t x y]) 27 (0, 0)) := by rw [hw, blk_set_far _ _ _ _ (by simp)]; exact e7
  have m8 : blk w8 (w1.heap.size + 1) = some (.cells (cs .i64 [n0 t x y, n1 t x y, n2 t x y]) 27 (0, 0)) := by rw [hw, blk_set _ _ _ _ _ _ m7]; simp [n0, n1, n2]
  have L8 : Below w.heap.size w w8 := by
    rw [hw]
    repeat' (first | (with_reducible exact Below.refl _ _) | (with_reducible refine Rd.below_step ?_ (by assumption)) | (with_reducible refine Rd.below_alloc ?_ _) | (with_reducible refine Rd.below_drewN ?_ _) | (with_reducible refine Below.drew ?_) | (with_reducible refine Below.setCell ?_ ?_ _) | (with_reducible refine Rd.below_setRow ?_ ?_ _) | go_size | (simp only [World.size_alloc]; omega) | omega)
  clear hw b7 z7 e7 m7 L7 g2
  have g0 : w.heap.size < w8.heap.size := by omega
  have g1 : w.heap.size + 1 < w8.heap.size := by omega
  have g2 : w1.heap.size + 1 < w8.heap.size := by omega
  clear hsz
  have d0 : w8.cell? ⟨w1.heap.size + 1, 0, none⟩ = some (.int .i64 (n0 t x y)) := by rw [blk_cell m8]; rfl
  have d1 : w8.cell? ⟨w1.heap.size + 1, 1, none⟩ = some (.int .i64 (n1 t x y)) := by rw [blk_cell m8]; rfl
  clear b8 e8 p0 p1 p2
  by_cases hlt : sm t x y < 1
  · have ea : wV t x y = ([0, 0, 0], false) := by unfold wV; rw [if_pos hlt]
    have EA := Lib.hid ea
    clear ea
    go_wp2
    exact ret_w3b rfl (w.heap.size + 1) [0, 0, 0] rfl rfl (blk_setRow_of z8 _) rfl ⟨by rw [EA.out]; rfl, by repeat' (first | (with_reducible exact Below.refl _ _) | (with_reducible refine Rd.below_step ?_ (by assumption)) | (with_reducible refine Rd.below_alloc ?_ _) | (with_reducible refine Rd.below_drewN ?_ _) | (with_reducible refine Below.drew ?_) | (with_reducible refine Below.setCell ?_ ?_ _) | (with_reducible refine Rd.below_setRow ?_ ?_ _) | go_size | (simp only [World.size_alloc]; omega) | omega)⟩
  · have ea : wV t x y = (wL t x y, true) := by unfold wV; rw [if_neg hlt]
    have EA := Lib.hid ea
    clear ea
    have q1 : 1 ≤ sm t x y := by omega
    obtain ⟨s0, s1, s2, s3⟩ := sS_bd q1 p6.2
    have lb := Log.log2_hi (n := sm t x y) (by omega)
    have h0 := hold_bd (n0 t x y / 2 ^ (kk (sm t x y)).toNat) (-16 * sS (sm t x y)) (16 * sS (sm t x y)) (by omega)
    have h1 := hold_bd (n1 t x y / 2 ^ (kk (sm t x y)).toNat) (-16 * sS (sm t x y)) (16 * sS (sm t x y)) (by omega)
    have v0 := wOne_bd (n := n0 t x y) q1 p6.2
    have v1 := wOne_bd (n := n1 t x y) q1 p6.2
    go_wp2_with (go_at_call 24; refine (Log.rlog2_any _ _ (wf_mk (by omega) (by omega))).mono ?_; rintro e w' ⟨rfl, rfl⟩)
    refine wp_loop_rounds 3 ?_
    iterate 2 (rw [rounds_succ]; go_wp2_with (first | (go_at_call 26; refine (hold_any _ _ _ (by omega) _).mono ?_; rintro e w' ⟨rfl, rfl⟩) | (go_at_call 25; refine (rdown_w _ _ q1 p6.2 _).mono ?_; rintro e w' ⟨rfl, rfl⟩)))
    rw [rounds_succ]
    go_wp2
    exact ret_w3b rfl (w.heap.size + 1) (wL t x y) rfl rfl ((blk_alloc_old _ _ _ (by simp; omega)).trans (blk_setRow_of z8 _)) rfl ⟨by rw [EA.out]; rfl, by repeat' (first | (with_reducible exact Below.refl _ _) | (with_reducible refine Rd.below_step ?_ (by assumption)) | (with_reducible refine Rd.below_alloc ?_ _) | (with_reducible refine Rd.below_drewN ?_ _) | (with_reducible refine Below.drew ?_) | (with_reducible refine Below.setCell ?_ ?_ _) | (with_reducible refine Rd.below_setRow ?_ ?_ _) | go_size | (simp only [World.size_alloc]; omega) | omega)⟩
end
end Go.Proofs.Ytjbmochndpdolaa.TriC
