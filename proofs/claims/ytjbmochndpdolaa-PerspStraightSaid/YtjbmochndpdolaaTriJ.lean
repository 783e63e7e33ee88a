/-
  PerspStraight: where all W are one the place goes straight.
-/
import Derived.Test.YtjbmochndpdolaaTriH
import Derived.BigGuard
namespace Go.Proofs.Ytjbmochndpdolaa.TriJ
open Go.RowKit FixA Num Rd Go.Proofs.Ytjbmochndpdolaa.Row TriA TriB TriC TriD TriE TriF TriG TriH
set_option linter.unusedVariables false
set_option linter.unusedSimpArgs false
set_option maxRecDepth 10000
attribute [local go_sem ↓] load_tri store_tri load_w3 store_w3 load_spot load_pl store_pl
attribute [local go_sem] one_int one_bool run_load_pl run_store_pl run_load_spot run_load_tri run_load_w3 run_store_tri run_store_w3 rowLoad_eq rowStore_eq midLoad_eq ext0 ext1 ext2 blk_alloc_at blk_alloc_old blk_drew blk_drewN blk_set_far blk_set_far' blk_grow setRow_alloc_at setRow_alloc_old setRow_drew setRow_drewN all_map
attribute [local go_sem high] run_maxT run_minT
attribute [local go_sem] eq_w3 eq_w3_lit

/-! The mathematics -/
def ST (a b k q u0 u1 u2 : Int) : List Int := [a, b, 0, q, u0, 0, a + 512 * k, b, 0, q, u1, 0, a, b + 512 * k, 0, q, u2, 0]
theorem mul4 (c d k : Int) : c * k * (d * k) = c * d * (k * k) := by rw [Int.mul_assoc, Int.mul_left_comm k d k, ← Int.mul_assoc c d]
theorem e0_1 (a b k q u0 u1 u2 : Int) : ed0 (ST a b k q u0 u1 u2) (a + 256 * k) b = 131072 * (k * k) := by
  show sideV (a + 512 * k) b a (b + 512 * k) (a + 256 * k) b = _
  unfold sideV
  rw [show b - b = 0 by omega, show b + 512 * k - b = 512 * k by omega, show a + 256 * k - (a + 512 * k) = -256 * k by omega, mul4]
  omega
theorem e1_1 (a b k q u0 u1 u2 : Int) : ed1 (ST a b k q u0 u1 u2) (a + 256 * k) b = 131072 * (k * k) := by
  show sideV a (b + 512 * k) a b (a + 256 * k) b = _
  unfold sideV
  rw [show a - a = 0 by omega, show b - (b + 512 * k) = -512 * k by omega, show a + 256 * k - a = 256 * k by omega, mul4]
  omega
theorem e2_1 (a b k q u0 u1 u2 : Int) : ed2 (ST a b k q u0 u1 u2) (a + 256 * k) b = 0 := by
  show sideV a b (a + 512 * k) b (a + 256 * k) b = _
  unfold sideV
  rw [show b - b = 0 by omega]
  omega
theorem e0_2 (a b k q u0 u1 u2 : Int) : ed0 (ST a b k q u0 u1 u2) (a + 128 * k) (b + 256 * k) = 65536 * (k * k) := by
  show sideV (a + 512 * k) b a (b + 512 * k) (a + 128 * k) (b + 256 * k) = _
  unfold sideV
  rw [show a - (a + 512 * k) = -512 * k by omega, show b + 256 * k - b = 256 * k by omega, show b + 512 * k - b = 512 * k by omega, show a + 128 * k - (a + 512 * k) = -384 * k by omega, mul4, mul4]
  omega
theorem e1_2 (a b k q u0 u1 u2 : Int) : ed1 (ST a b k q u0 u1 u2) (a + 128 * k) (b + 256 * k) = 65536 * (k * k) := by
  show sideV a (b + 512 * k) a b (a + 128 * k) (b + 256 * k) = _
  unfold sideV
  rw [show a - a = 0 by omega, show b - (b + 512 * k) = -512 * k by omega, show a + 128 * k - a = 128 * k by omega, mul4]
  omega
theorem e2_2 (a b k q u0 u1 u2 : Int) : ed2 (ST a b k q u0 u1 u2) (a + 128 * k) (b + 256 * k) = 131072 * (k * k) := by
  show sideV a b (a + 512 * k) b (a + 128 * k) (b + 256 * k) = _
  unfold sideV
  rw [show a + 512 * k - a = 512 * k by omega, show b + 256 * k - b = 256 * k by omega, show b - b = 0 by omega, mul4]
  omega
/-- an exact part -/
theorem wOne_part (A : Int) (c d : Int) (e : Nat) (hA : 1 ≤ A) (hc : c = 2 ^ e) (hcd : c * d = 262144) (hd : 2 ≤ d) (he : 16 ≤ e) (hs : 262144 * A ≤ 72057594037927936) : wOne (c * A) (262144 * A) = 65536 / d := by
  obtain ⟨k, hk, el, a, b⟩ := log_s (s := 262144 * A) (by omega) (by omega)
  have hk56 : k ≤ 56 := by
    rcases Nat.lt_or_ge 56 k with h | h
    · exfalso
      have : (2 : Int) ^ 57 ≤ 2 ^ k := by
        have := Nat.pow_le_pow_right (n := 2) (by omega) (show 57 ≤ k by omega)
        exact_mod_cast this
      have p : (2 : Int) ^ 57 = 144115188075855872 := by decide
      omega
    · exact h
  have ek : kk (262144 * A) = max 0 ((k : Int) - 41) := by unfold kk; rw [el]
  obtain ⟨K, hK, hKe⟩ : ∃ K : Nat, (kk (262144 * A)).toNat = K ∧ K ≤ 15 := ⟨_, rfl, by omega⟩
  have p0 : (0 : Int) < 2 ^ K := Int.pow_pos (by omega)
  have e1 : c * A = (2 ^ (e - K) * A) * 2 ^ K := by
    have : c = 2 ^ (e - K) * 2 ^ K := by rw [hc, ← Int.pow_add]; congr 1; omega
    rw [this, Int.mul_right_comm]
  have q1 : c * A / 2 ^ K = 2 ^ (e - K) * A := by rw [e1, Int.mul_ediv_cancel _ (by omega)]
  have q2 : 262144 * A / 2 ^ K = d * (2 ^ (e - K) * A) := by
    have : 262144 * A = (d * (2 ^ (e - K) * A)) * 2 ^ K := by rw [← hcd, Int.mul_comm c d, Int.mul_assoc, e1, Int.mul_assoc d]
    rw [this, Int.mul_ediv_cancel _ (by omega)]
  have p1 : (0 : Int) < 2 ^ (e - K) := Int.pow_pos (by omega)
  have pm : 0 < 2 ^ (e - K) * A := Int.mul_pos p1 (by omega)
  unfold wOne sS
  rw [hK, q1, q2]
  generalize hm : 2 ^ (e - K) * A = m at pm
  have hdm : m ≤ 16 * (d * m) := by
    have := Int.mul_le_mul_of_nonneg_right (show (1 : Int) ≤ d by omega) (show 0 ≤ m by omega)
    omega
  have hh : hold m (-16 * (d * m)) (16 * (d * m)) = m := by unfold hold; omega
  rw [hh, Int.mul_ediv_mul_of_pos_left _ _ pm]
theorem sm_1 (a b k q u0 u1 u2 : Int) : sm (ST a b k q u0 u1 u2) (a + 256 * k) b = 262144 * (k * k * qv q) := by
  unfold sm n0 n1 n2
  rw [e0_1, e1_1, e2_1]
  show 131072 * (k * k) * qv q + 131072 * (k * k) * qv q + 0 * qv q = _
  rw [Int.mul_assoc 131072 (k * k) (qv q)]
  omega
theorem sm_2 (a b k q u0 u1 u2 : Int) : sm (ST a b k q u0 u1 u2) (a + 128 * k) (b + 256 * k) = 262144 * (k * k * qv q) := by
  unfold sm n0 n1 n2
  rw [e0_2, e1_2, e2_2]
  show 65536 * (k * k) * qv q + 65536 * (k * k) * qv q + 131072 * (k * k) * qv q = _
  rw [Int.mul_assoc 65536 (k * k) (qv q), Int.mul_assoc 131072 (k * k) (qv q)]
  omega
theorem kq_bd {k q : Int} (h1 : 1 ≤ k) (h2 : k ≤ 16) (h3 : 256 ≤ q) (h4 : q ≤ 1048576) : 1 ≤ k * k * qv q ∧ 262144 * (k * k * qv q) ≤ 72057594037927936 := by
  have ⟨a, b⟩ := qv_bd h3 (by omega)
  have p1 := Int.mul_le_mul h2 h2 (by omega) (by omega)
  have p2 : 1 ≤ k * k := by have := Int.mul_le_mul h1 h1 (by omega) (by omega); omega
  have p3 := Int.mul_le_mul (show k * k ≤ 256 by omega) b (by omega) (by omega)
  have p4 := Int.mul_pos (show 0 < k * k by omega) a
  constructor <;> omega
theorem w_1 {a b k q u0 u1 u2 : Int} (h1 : 1 ≤ k) (h2 : k ≤ 16) (h3 : 256 ≤ q) (h4 : q ≤ 1048576) : wV (ST a b k q u0 u1 u2) (a + 256 * k) b = ([32768, 32768, 0], true) := by
  have ⟨p, p'⟩ := kq_bd h1 h2 h3 h4
  have e0 : wOne (n0 (ST a b k q u0 u1 u2) (a + 256 * k) b) (sm (ST a b k q u0 u1 u2) (a + 256 * k) b) = 32768 := by
    rw [sm_1]; unfold n0; rw [e0_1]
    show wOne (131072 * (k * k) * qv q) _ = _
    rw [Int.mul_assoc, wOne_part _ 131072 2 17 p (by decide) (by decide) (by decide) (by decide) p']; decide
  have e1 : wOne (n1 (ST a b k q u0 u1 u2) (a + 256 * k) b) (sm (ST a b k q u0 u1 u2) (a + 256 * k) b) = 32768 := by
    rw [sm_1]; unfold n1; rw [e1_1]
    show wOne (131072 * (k * k) * qv q) _ = _
    rw [Int.mul_assoc, wOne_part _ 131072 2 17 p (by decide) (by decide) (by decide) (by decide) p']; decide
  unfold wV wL
  rw [e0, e1, if_neg (by rw [sm_1]; omega)]
  rfl
theorem w_2 {a b k q u0 u1 u2 : Int} (h1 : 1 ≤ k) (h2 : k ≤ 16) (h3 : 256 ≤ q) (h4 : q ≤ 1048576) : wV (ST a b k q u0 u1 u2) (a + 128 * k) (b + 256 * k) = ([16384, 16384, 32768], true) := by
  have ⟨p, p'⟩ := kq_bd h1 h2 h3 h4
  have e0 : wOne (n0 (ST a b k q u0 u1 u2) (a + 128 * k) (b + 256 * k)) (sm (ST a b k q u0 u1 u2) (a + 128 * k) (b + 256 * k)) = 16384 := by
    rw [sm_2]; unfold n0; rw [e0_2]
    show wOne (65536 * (k * k) * qv q) _ = _
    rw [Int.mul_assoc, wOne_part _ 65536 4 16 p (by decide) (by decide) (by decide) (by decide) p']; decide
  have e1 : wOne (n1 (ST a b k q u0 u1 u2) (a + 128 * k) (b + 256 * k)) (sm (ST a b k q u0 u1 u2) (a + 128 * k) (b + 256 * k)) = 16384 := by
    rw [sm_2]; unfold n1; rw [e1_2]
    show wOne (65536 * (k * k) * qv q) _ = _
    rw [Int.mul_assoc, wOne_part _ 65536 4 16 p (by decide) (by decide) (by decide) (by decide) p']; decide
  unfold wV wL
  rw [e0, e1, if_neg (by rw [sm_2]; omega)]
  rfl
theorem tri_st {a b k q u0 u1 u2 : Int} (h1 : 1 ≤ k) (h2 : k ≤ 16) (h3 : 256 ≤ q) (h4 : q ≤ 1048576) (a0 : 0 ≤ a) (a1 : a ≤ 2000) (b0 : 0 ≤ b) (b1 : b ≤ 2000)
    (c0 : -1048576 ≤ u0 ∧ u0 ≤ 1048576) (c1 : -1048576 ≤ u1 ∧ u1 ≤ 1048576) (c2 : -1048576 ≤ u2 ∧ u2 ≤ 1048576) : Tri (ST a b k q u0 u1 u2) :=
  ⟨rfl, by constructor <;> (simp only [ST, g, List.getD_cons_zero, List.getD_cons_succ]; omega), by constructor <;> (simp only [ST, g, List.getD_cons_zero, List.getD_cons_succ]; omega), by constructor <;> (simp only [ST, g, List.getD_cons_zero, List.getD_cons_succ]; omega)⟩

/-! The walk -/
def kOf (n : Int) : Int := 1 + n.tmod 16 % 16
theorem fold_k (n : Int) : 1 + n.tmod 16 % 16 = kOf n := rfl
theorem tmod_bd (n : Int) : -15 ≤ n.tmod 16 ∧ n.tmod 16 ≤ 15 := by
  have := tdiv_parts n 16 (by decide)
  omega
theorem kOf_bd (n : Int) : 1 ≤ kOf n ∧ kOf n ≤ 16 := by unfold kOf; omega
attribute [local go_sem] fold_k

set_option maxHeartbeats 4000000 in
theorem straight_gen (a b n u0 u1 u2 q : Int) (w : World) :
    Calls Try.prog 6 #[.agg #[.int .i64 a, .int .i64 b], .int .i64 n, .agg #[.int .i64 u0, .int .i64 u1, .int .i64 u2], .int .i64 q] w fun e w' => e = .returned (.bool true) ∧ Below w.heap.size w w' := by
  have nb := tmod_bd n
  have kb := kOf_bd n
  have L1 := Below.refl w.heap.size w
  go_enter Try.func6, Try.ntmps6
  go_wp2_with fail
  refine wp_loop_rounds 4 ?_
  clear nb
  rw [rounds_succ]
  by_cases h0a : u0 < -1048576
  · have d0a : decide (u0 < -1048576) = true := by simpa using h0a
    clear h0a
    go_wp2_with fail
    refine (awake_any _).mono ?_
    rintro e w9 ⟨rfl, hb⟩
    have L9 : Below w.heap.size w w9 := by repeat' (first | (with_reducible exact Below.refl _ _) | (with_reducible refine Rd.below_step ?_ (by assumption)) | (with_reducible refine Rd.below_alloc ?_ _) | (with_reducible refine Rd.below_drewN ?_ _) | (with_reducible refine Below.drew ?_) | (with_reducible refine Below.setCell ?_ ?_ _) | (with_reducible refine Rd.below_setRow ?_ ?_ _) | go_size | (simp only [World.size_alloc]; omega) | omega)
    clear hb
    go_wp2
    go_ret
    exact ⟨rfl, L9⟩
  have d0a : decide (u0 < -1048576) = false := by simpa using h0a
  have H0a := Lib.hid h0a
  clear h0a
  by_cases h0b : 1048576 < u0
  · have d0b : decide (1048576 < u0) = true := by simpa using h0b
    clear h0b
    go_wp2_with fail
    refine (awake_any _).mono ?_
    rintro e w9 ⟨rfl, hb⟩
    have L9 : Below w.heap.size w w9 := by repeat' (first | (with_reducible exact Below.refl _ _) | (with_reducible refine Rd.below_step ?_ (by assumption)) | (with_reducible refine Rd.below_alloc ?_ _) | (with_reducible refine Rd.below_drewN ?_ _) | (with_reducible refine Below.drew ?_) | (with_reducible refine Below.setCell ?_ ?_ _) | (with_reducible refine Rd.below_setRow ?_ ?_ _) | go_size | (simp only [World.size_alloc]; omega) | omega)
    clear hb
    go_wp2
    go_ret
    exact ⟨rfl, L9⟩
  have d0b : decide (1048576 < u0) = false := by simpa using h0b
  have H0b := Lib.hid h0b
  clear h0b
  go_wp2
  rw [rounds_succ]
  by_cases h1a : u1 < -1048576
  · have d1a : decide (u1 < -1048576) = true := by simpa using h1a
    clear h1a
    go_wp2_with fail
    refine (awake_any _).mono ?_
    rintro e w9 ⟨rfl, hb⟩
    have L9 : Below w.heap.size w w9 := by repeat' (first | (with_reducible exact Below.refl _ _) | (with_reducible refine Rd.below_step ?_ (by assumption)) | (with_reducible refine Rd.below_alloc ?_ _) | (with_reducible refine Rd.below_drewN ?_ _) | (with_reducible refine Below.drew ?_) | (with_reducible refine Below.setCell ?_ ?_ _) | (with_reducible refine Rd.below_setRow ?_ ?_ _) | go_size | (simp only [World.size_alloc]; omega) | omega)
    clear hb
    go_wp2
    go_ret
    exact ⟨rfl, L9⟩
  have d1a : decide (u1 < -1048576) = false := by simpa using h1a
  have H1a := Lib.hid h1a
  clear h1a
  by_cases h1b : 1048576 < u1
  · have d1b : decide (1048576 < u1) = true := by simpa using h1b
    clear h1b
    go_wp2_with fail
    refine (awake_any _).mono ?_
    rintro e w9 ⟨rfl, hb⟩
    have L9 : Below w.heap.size w w9 := by repeat' (first | (with_reducible exact Below.refl _ _) | (with_reducible refine Rd.below_step ?_ (by assumption)) | (with_reducible refine Rd.below_alloc ?_ _) | (with_reducible refine Rd.below_drewN ?_ _) | (with_reducible refine Below.drew ?_) | (with_reducible refine Below.setCell ?_ ?_ _) | (with_reducible refine Rd.below_setRow ?_ ?_ _) | go_size | (simp only [World.size_alloc]; omega) | omega)
    clear hb
    go_wp2
    go_ret
    exact ⟨rfl, L9⟩
  have d1b : decide (1048576 < u1) = false := by simpa using h1b
  have H1b := Lib.hid h1b
  clear h1b
  go_wp2
  rw [rounds_succ]
  by_cases h2a : u2 < -1048576
  · have d2a : decide (u2 < -1048576) = true := by simpa using h2a
    clear h2a
    go_wp2_with fail
    refine (awake_any _).mono ?_
    rintro e w9 ⟨rfl, hb⟩
    have L9 : Below w.heap.size w w9 := by repeat' (first | (with_reducible exact Below.refl _ _) | (with_reducible refine Rd.below_step ?_ (by assumption)) | (with_reducible refine Rd.below_alloc ?_ _) | (with_reducible refine Rd.below_drewN ?_ _) | (with_reducible refine Below.drew ?_) | (with_reducible refine Below.setCell ?_ ?_ _) | (with_reducible refine Rd.below_setRow ?_ ?_ _) | go_size | (simp only [World.size_alloc]; omega) | omega)
    clear hb
    go_wp2
    go_ret
    exact ⟨rfl, L9⟩
  have d2a : decide (u2 < -1048576) = false := by simpa using h2a
  have H2a := Lib.hid h2a
  clear h2a
  by_cases h2b : 1048576 < u2
  · have d2b : decide (1048576 < u2) = true := by simpa using h2b
    clear h2b
    go_wp2_with fail
    refine (awake_any _).mono ?_
    rintro e w9 ⟨rfl, hb⟩
    have L9 : Below w.heap.size w w9 := by repeat' (first | (with_reducible exact Below.refl _ _) | (with_reducible refine Rd.below_step ?_ (by assumption)) | (with_reducible refine Rd.below_alloc ?_ _) | (with_reducible refine Rd.below_drewN ?_ _) | (with_reducible refine Below.drew ?_) | (with_reducible refine Below.setCell ?_ ?_ _) | (with_reducible refine Rd.below_setRow ?_ ?_ _) | go_size | (simp only [World.size_alloc]; omega) | omega)
    clear hb
    go_wp2
    go_ret
    exact ⟨rfl, L9⟩
  have d2b : decide (1048576 < u2) = false := by simpa using h2b
  have H2b := Lib.hid h2b
  clear h2b
  go_wp2
  rw [rounds_succ]
  by_cases h0 : a < 0
  · have d0 : decide (a < 0) = true := by simpa using h0
    clear h0
    go_wp2_with fail
    refine (awake_any _).mono ?_
    rintro e w9 ⟨rfl, hb⟩
    have L9 : Below w.heap.size w w9 := by repeat' (first | (with_reducible exact Below.refl _ _) | (with_reducible refine Rd.below_step ?_ (by assumption)) | (with_reducible refine Rd.below_alloc ?_ _) | (with_reducible refine Rd.below_drewN ?_ _) | (with_reducible refine Below.drew ?_) | (with_reducible refine Below.setCell ?_ ?_ _) | (with_reducible refine Rd.below_setRow ?_ ?_ _) | go_size | (simp only [World.size_alloc]; omega) | omega)
    clear hb
    go_wp2
    go_ret
    exact ⟨rfl, L9⟩
  have d0 : decide (a < 0) = false := by simpa using h0
  have H0 := Lib.hid h0
  clear h0
  by_cases h1 : 2000 < a
  · have d1 : decide (2000 < a) = true := by simpa using h1
    clear h1
    go_wp2_with fail
    refine (awake_any _).mono ?_
    rintro e w9 ⟨rfl, hb⟩
    have L9 : Below w.heap.size w w9 := by repeat' (first | (with_reducible exact Below.refl _ _) | (with_reducible refine Rd.below_step ?_ (by assumption)) | (with_reducible refine Rd.below_alloc ?_ _) | (with_reducible refine Rd.below_drewN ?_ _) | (with_reducible refine Below.drew ?_) | (with_reducible refine Below.setCell ?_ ?_ _) | (with_reducible refine Rd.below_setRow ?_ ?_ _) | go_size | (simp only [World.size_alloc]; omega) | omega)
    clear hb
    go_wp2
    go_ret
    exact ⟨rfl, L9⟩
  have d1 : decide (2000 < a) = false := by simpa using h1
  have H1 := Lib.hid h1
  clear h1
  by_cases h2 : b < 0
  · have d2 : decide (b < 0) = true := by simpa using h2
    clear h2
    go_wp2_with fail
    refine (awake_any _).mono ?_
    rintro e w9 ⟨rfl, hb⟩
    have L9 : Below w.heap.size w w9 := by repeat' (first | (with_reducible exact Below.refl _ _) | (with_reducible refine Rd.below_step ?_ (by assumption)) | (with_reducible refine Rd.below_alloc ?_ _) | (with_reducible refine Rd.below_drewN ?_ _) | (with_reducible refine Below.drew ?_) | (with_reducible refine Below.setCell ?_ ?_ _) | (with_reducible refine Rd.below_setRow ?_ ?_ _) | go_size | (simp only [World.size_alloc]; omega) | omega)
    clear hb
    go_wp2
    go_ret
    exact ⟨rfl, L9⟩
  have d2 : decide (b < 0) = false := by simpa using h2
  have H2 := Lib.hid h2
  clear h2
  by_cases h3 : 2000 < b
  · have d3 : decide (2000 < b) = true := by simpa using h3
    clear h3
    go_wp2_with fail
    refine (awake_any _).mono ?_
    rintro e w9 ⟨rfl, hb⟩
    have L9 : Below w.heap.size w w9 := by repeat' (first | (with_reducible exact Below.refl _ _) | (with_reducible refine Rd.below_step ?_ (by assumption)) | (with_reducible refine Rd.below_alloc ?_ _) | (with_reducible refine Rd.below_drewN ?_ _) | (with_reducible refine Below.drew ?_) | (with_reducible refine Below.setCell ?_ ?_ _) | (with_reducible refine Rd.below_setRow ?_ ?_ _) | go_size | (simp only [World.size_alloc]; omega) | omega)
    clear hb
    go_wp2
    go_ret
    exact ⟨rfl, L9⟩
  have d3 : decide (2000 < b) = false := by simpa using h3
  have H3 := Lib.hid h3
  clear h3
  by_cases h4 : q < 256
  · have d4 : decide (q < 256) = true := by simpa using h4
    clear h4
    go_wp2_with fail
    refine (awake_any _).mono ?_
    rintro e w9 ⟨rfl, hb⟩
    have L9 : Below w.heap.size w w9 := by repeat' (first | (with_reducible exact Below.refl _ _) | (with_reducible refine Rd.below_step ?_ (by assumption)) | (with_reducible refine Rd.below_alloc ?_ _) | (with_reducible refine Rd.below_drewN ?_ _) | (with_reducible refine Below.drew ?_) | (with_reducible refine Below.setCell ?_ ?_ _) | (with_reducible refine Rd.below_setRow ?_ ?_ _) | go_size | (simp only [World.size_alloc]; omega) | omega)
    clear hb
    go_wp2
    go_ret
    exact ⟨rfl, L9⟩
  have d4 : decide (q < 256) = false := by simpa using h4
  have H4 := Lib.hid h4
  clear h4
  by_cases h5 : 1048576 < q
  · have d5 : decide (1048576 < q) = true := by simpa using h5
    clear h5
    go_wp2_with fail
    refine (awake_any _).mono ?_
    rintro e w9 ⟨rfl, hb⟩
    have L9 : Below w.heap.size w w9 := by repeat' (first | (with_reducible exact Below.refl _ _) | (with_reducible refine Rd.below_step ?_ (by assumption)) | (with_reducible refine Rd.below_alloc ?_ _) | (with_reducible refine Rd.below_drewN ?_ _) | (with_reducible refine Below.drew ?_) | (with_reducible refine Below.setCell ?_ ?_ _) | (with_reducible refine Rd.below_setRow ?_ ?_ _) | go_size | (simp only [World.size_alloc]; omega) | omega)
    clear hb
    go_wp2
    go_ret
    exact ⟨rfl, L9⟩
  have d5 : decide (1048576 < q) = false := by simpa using h5
  have H5 := Lib.hid h5
  clear h5
  have ab : 0 ≤ a ∧ a ≤ 2000 := by
    have := H0.out
    have := H1.out
    omega
  have bb : 0 ≤ b ∧ b ≤ 2000 := by
    have := H2.out
    have := H3.out
    omega
  have qb : 256 ≤ q ∧ q ≤ 1048576 := by
    have := H4.out
    have := H5.out
    omega
  have T : Hid (Tri (ST a b (kOf n) q u0 u1 u2)) := by
    have := H0a.out
    have := H0b.out
    have := H1a.out
    have := H1b.out
    have := H2a.out
    have := H2b.out
    exact tri_st kb.1 kb.2 qb.1 qb.2 ab.1 ab.2 bb.1 bb.2 (by omega) (by omega) (by omega)
  have C1 : Hid (∀ w : World, Calls Try.prog 10 #[.agg #[.int .i64 a, .int .i64 b, .int .i64 0, .int .i64 q, .int .i64 u0, .int .i64 0, .int .i64 (a + 512 * kOf n), .int .i64 b, .int .i64 0, .int .i64 q, .int .i64 u1, .int .i64 0, .int .i64 a, .int .i64 (b + 512 * kOf n), .int .i64 0, .int .i64 q, .int .i64 u2, .int .i64 0], .int .i64 (a + 256 * kOf n), .int .i64 b] w fun e w' => e = .returned (.tuple #[.agg (cs .i64 [32768, 32768, 0]), .bool true]) ∧ Below w.heap.size w w') := fun w => by
    have := weights_any _ T.out (a + 256 * kOf n) b (by omega) (by omega) w
    rw [w_1 kb.1 kb.2 qb.1 qb.2] at this
    exact this
  have C2 : Hid (∀ w : World, Calls Try.prog 10 #[.agg #[.int .i64 a, .int .i64 b, .int .i64 0, .int .i64 q, .int .i64 u0, .int .i64 0, .int .i64 (a + 512 * kOf n), .int .i64 b, .int .i64 0, .int .i64 q, .int .i64 u1, .int .i64 0, .int .i64 a, .int .i64 (b + 512 * kOf n), .int .i64 0, .int .i64 q, .int .i64 u2, .int .i64 0], .int .i64 (a + 128 * kOf n), .int .i64 (b + 256 * kOf n)] w fun e w' => e = .returned (.tuple #[.agg (cs .i64 [16384, 16384, 32768]), .bool true]) ∧ Below w.heap.size w w') := fun w => by
    have := weights_any _ T.out (a + 128 * kOf n) (b + 256 * kOf n) (by omega) (by omega) w
    rw [w_2 kb.1 kb.2 qb.1 qb.2] at this
    exact this
  clear H0 H1 H2 H3 H4 H5 H0a H0b H1a H1b H2a H2b T
  go_wp2_with fail
  refine (C1.out _).mono ?_
  rintro e w1 ⟨rfl, hb⟩
  have hs := hb.size
  simp only [World.size_alloc] at hs
  have b4 : blk w1 w.heap.size = some (.cells #[.int .i64 a, .int .i64 b] 36 (0, 0)) := (blk_below hb _ (by first | omega | (simp only [World.size_alloc]; omega))).trans (blk3_0 _ _ _ _)
  have b11 : blk w1 (w.heap.size + 1 + 1) = some (.cells #[.int .i64 a, .int .i64 b, .int .i64 0, .int .i64 q, .int .i64 u0, .int .i64 0, .int .i64 (a + 512 * kOf n), .int .i64 b, .int .i64 0, .int .i64 q, .int .i64 u1, .int .i64 0, .int .i64 a, .int .i64 (b + 512 * kOf n), .int .i64 0, .int .i64 q, .int .i64 u2, .int .i64 0] 24 (0, 0)) := (blk_below hb _ (by first | omega | (simp only [World.size_alloc]; omega))).trans (blk3_2 _ _ _ _)
  have L2 : Below w.heap.size w w1 := by repeat' (first | (with_reducible exact Below.refl _ _) | (with_reducible refine Rd.below_step ?_ (by assumption)) | (with_reducible refine Rd.below_alloc ?_ _) | (with_reducible refine Rd.below_drewN ?_ _) | (with_reducible refine Below.drew ?_) | (with_reducible refine Below.setCell ?_ ?_ _) | (with_reducible refine Rd.below_setRow ?_ ?_ _) | go_size | (simp only [World.size_alloc]; omega) | omega)
  have k0 : w.heap.size < w1.heap.size := by omega
  have k1 : w.heap.size + 1 + 1 < w1.heap.size := by omega
  have c0 : w1.cell? ⟨w.heap.size, 0, none⟩ = some (.int .i64 a) := by rw [blk_cell b4]; rfl
  have c1 : w1.cell? ⟨w.heap.size, 1, none⟩ = some (.int .i64 b) := by rw [blk_cell b4]; rfl
  clear hb L1
  go_wp2_with fail
  refine (C2.out _).mono ?_
  rintro e w2 ⟨rfl, hb⟩
  have hs2 := hb.size
  simp only [World.size_alloc] at hs2
  have e2 : blk w2 w1.heap.size = some (.cells (cs .i64 [32768, 32768, 0]) 27 (0, 0)) := (blk_below hb _ (by simp)).trans (blk_alloc_at _ _ _ rfl)
  have L3 : Below w.heap.size w w2 := by repeat' (first | (with_reducible exact Below.refl _ _) | (with_reducible refine Rd.below_step ?_ (by assumption)) | (with_reducible refine Rd.below_alloc ?_ _) | (with_reducible refine Rd.below_drewN ?_ _) | (with_reducible refine Below.drew ?_) | (with_reducible refine Below.setCell ?_ ?_ _) | (with_reducible refine Rd.below_setRow ?_ ?_ _) | go_size | (simp only [World.size_alloc]; omega) | omega)
  have k2 : w1.heap.size < w2.heap.size := by omega
  clear hb L2 b4 b11 c0 c1
  go_wp2_with fail
  refine (awake_any _).mono ?_
  rintro e w9 ⟨rfl, hb⟩
  have L9 : Below w.heap.size w w9 := by repeat' (first | (with_reducible exact Below.refl _ _) | (with_reducible refine Rd.below_step ?_ (by assumption)) | (with_reducible refine Rd.below_alloc ?_ _) | (with_reducible refine Rd.below_drewN ?_ _) | (with_reducible refine Below.drew ?_) | (with_reducible refine Below.setCell ?_ ?_ _) | (with_reducible refine Rd.below_setRow ?_ ?_ _) | go_size | (simp only [World.size_alloc]; omega) | omega)
  clear hb
  go_wp2
  go_ret
  exact ⟨rfl, L9⟩
end Go.Proofs.Ytjbmochndpdolaa.TriJ
