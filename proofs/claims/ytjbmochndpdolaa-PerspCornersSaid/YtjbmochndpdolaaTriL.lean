/-
  Within a triangle: the weights are none below 0; between the corners; at a corner; one place for all.
-/
import Derived.Test.YtjbmochndpdolaaTriH
namespace Go.Proofs.Ytjbmochndpdolaa.TriL
open Go.RowKit FixA Num Rd Go.Proofs.Ytjbmochndpdolaa.Row TriA TriB TriC TriD TriE TriF TriG TriH
set_option linter.unusedVariables false
set_option linter.unusedSimpArgs false
set_option maxRecDepth 10000

theorem side_exp (ax ay bx by_ x y : Int) : sideV ax ay bx by_ x y = bx * y - bx * ay - ax * y + ax * ay - (x * by_ - x * ay - ax * by_ + ax * ay) := by
  unfold sideV
  rw [Int.mul_comm (by_ - ay) (x - ax)]
  simp only [Int.sub_mul, Int.mul_sub]
  omega
theorem sum_ed (t : List Int) (x y : Int) : ed0 t x y + ed1 t x y + ed2 t x y = area t := by
  unfold ed0 ed1 ed2 area
  simp only [side_exp]
  omega
structure Ins (t : List Int) (x y : Int) : Prop where
  tri : Tri t
  ar : 1 ≤ area t
  hx : Pt x
  hy : Pt y
  e0 : 0 ≤ ed0 t x y
  e1 : 0 ≤ ed1 t x y
  e2 : 0 ≤ ed2 t x y
theorem mul_ge {e q : Int} (h : 0 ≤ e) (hq : 0 < qv q) : e ≤ e * qv q := by
  have := Int.mul_le_mul_of_nonneg_left (show (1 : Int) ≤ qv q by omega) h
  omega
section
variable {t : List Int} {x y : Int} (h : Ins t x y)
include h
theorem in_n : ed0 t x y ≤ n0 t x y ∧ ed1 t x y ≤ n1 t x y ∧ ed2 t x y ≤ n2 t x y :=
  ⟨mul_ge h.e0 (qv_bd h.tri.s0.w0 h.tri.s0.w1).1, mul_ge h.e1 (qv_bd h.tri.s1.w0 h.tri.s1.w1).1, mul_ge h.e2 (qv_bd h.tri.s2.w0 h.tri.s2.w1).1⟩
theorem in_sm : 1 ≤ sm t x y := by
  have ⟨a, b, c⟩ := in_n h
  have s := sum_ed t x y
  have := h.ar
  unfold sm; omega
omit h in
theorem div_add {a b c : Int} (hc : 0 < c) : a / c + b / c ≤ (a + b) / c := by
  refine Int.le_ediv_of_mul_le hc ?_
  rw [Int.add_mul]
  have := Int.ediv_mul_le a (show c ≠ 0 by omega)
  have := Int.ediv_mul_le b (show c ≠ 0 by omega)
  omega
theorem in_q : 0 ≤ q0 t x y ∧ 0 ≤ q1 t x y ∧ 0 ≤ q2 t x y := by
  have ⟨a, b, c⟩ := in_n h
  have e0 := h.e0
  have e1 := h.e1
  have e2 := h.e2
  have ⟨_, _, s1, s2⟩ := sS_bd (in_sm h) (sm_bd h.tri h.hx h.hy).2
  have p : (0 : Int) < 2 ^ (kk (sm t x y)).toNat := Int.pow_pos (by omega)
  have m0 : 0 ≤ n0 t x y / 2 ^ (kk (sm t x y)).toNat := Int.ediv_nonneg (by omega) (by omega)
  have m1 : 0 ≤ n1 t x y / 2 ^ (kk (sm t x y)).toNat := Int.ediv_nonneg (by omega) (by omega)
  have m2 : n0 t x y / 2 ^ (kk (sm t x y)).toNat + n1 t x y / 2 ^ (kk (sm t x y)).toNat ≤ sS (sm t x y) := by
    refine Int.le_trans (div_add p) ?_
    unfold sS
    exact Int.ediv_le_ediv p (by unfold sm; omega)
  have f0 : q0 t x y = 65536 * (n0 t x y / 2 ^ (kk (sm t x y)).toNat) / sS (sm t x y) := by
    unfold q0 wOne
    rw [show hold (n0 t x y / 2 ^ (kk (sm t x y)).toNat) (-16 * sS (sm t x y)) (16 * sS (sm t x y)) = n0 t x y / 2 ^ (kk (sm t x y)).toNat by unfold hold; omega]
  have f1 : q1 t x y = 65536 * (n1 t x y / 2 ^ (kk (sm t x y)).toNat) / sS (sm t x y) := by
    unfold q1 wOne
    rw [show hold (n1 t x y / 2 ^ (kk (sm t x y)).toNat) (-16 * sS (sm t x y)) (16 * sS (sm t x y)) = n1 t x y / 2 ^ (kk (sm t x y)).toNat by unfold hold; omega]
  have g0 : 0 ≤ q0 t x y := by rw [f0]; exact Int.ediv_nonneg (by omega) (by omega)
  have g1 : 0 ≤ q1 t x y := by rw [f1]; exact Int.ediv_nonneg (by omega) (by omega)
  have g2 : q0 t x y + q1 t x y ≤ 65536 := by
    rw [f0, f1]
    refine Int.le_trans (div_add (by omega)) ?_
    have : (65536 * (n0 t x y / 2 ^ (kk (sm t x y)).toNat) + 65536 * (n1 t x y / 2 ^ (kk (sm t x y)).toNat)) / sS (sm t x y) < 65537 := Int.ediv_lt_of_lt_mul (by omega) (by omega)
    omega
  exact ⟨g0, g1, by unfold q2; omega⟩
end
theorem conv {p q r W a b c lo hi : Int} (hp : 0 ≤ p) (hq : 0 ≤ q) (hr : 0 ≤ r) (hW : p + q + r = W) (a0 : lo ≤ a) (a1 : a ≤ hi) (b0 : lo ≤ b) (b1 : b ≤ hi) (c0 : lo ≤ c) (c1 : c ≤ hi) :
    lo * W ≤ p * a + q * b + r * c ∧ p * a + q * b + r * c ≤ hi * W := by
  have x1 := Int.mul_le_mul_of_nonneg_left a0 hp
  have x2 := Int.mul_le_mul_of_nonneg_left b0 hq
  have x3 := Int.mul_le_mul_of_nonneg_left c0 hr
  have y1 := Int.mul_le_mul_of_nonneg_left a1 hp
  have y2 := Int.mul_le_mul_of_nonneg_left b1 hq
  have y3 := Int.mul_le_mul_of_nonneg_left c1 hr
  subst hW
  rw [Int.mul_add, Int.mul_add, Int.mul_add, Int.mul_add, Int.mul_comm lo p, Int.mul_comm lo q, Int.mul_comm lo r, Int.mul_comm hi p, Int.mul_comm hi q, Int.mul_comm hi r]
  omega
theorem near_between {n d lo hi : Int} (hd : 1 ≤ d) (h1 : lo * d ≤ n) (h2 : n ≤ hi * d) : lo ≤ near n d ∧ near n d ≤ hi := by
  have a := near_lo n d (by omega)
  have b := near_hi n d (by omega)
  constructor
  · rcases Int.lt_or_le (near n d) lo with h | h
    · exfalso
      have := Int.mul_le_mul_of_nonneg_right (show near n d + 1 ≤ lo by omega) (show 0 ≤ d by omega)
      rw [Int.add_mul] at this
      have e : 2 * near n d * d = 2 * (near n d * d) := Int.mul_assoc ..
      omega
    · exact h
  · rcases Int.lt_or_le hi (near n d) with h | h
    · exfalso
      have := Int.mul_le_mul_of_nonneg_right (show hi + 1 ≤ near n d by omega) (show 0 ≤ d by omega)
      rw [Int.add_mul] at this
      have e : 2 * near n d * d = 2 * (near n d * d) := Int.mul_assoc ..
      omega
    · exact h
section
variable {t : List Int} {x y : Int} (h : Ins t x y)
include h
theorem in_z {lo hi : Int} (a0 : lo ≤ g t 2) (a1 : g t 2 ≤ hi) (b0 : lo ≤ g t 8) (b1 : g t 8 ≤ hi) (c0 : lo ≤ g t 14) (c1 : g t 14 ≤ hi) (l0 : 0 ≤ lo) (l1 : hi ≤ 65535) : lo ≤ zV t x y ∧ zV t x y ≤ hi := by
  have ⟨p, q⟩ := conv h.e0 h.e1 h.e2 (sum_ed t x y) a0 a1 b0 b1 c0 c1
  have ⟨r, s⟩ := near_between (n := zS t x y) h.ar p q
  unfold zV zN; omega
theorem in_u {lo hi : Int} (a0 : lo ≤ g t 4) (a1 : g t 4 ≤ hi) (b0 : lo ≤ g t 10) (b1 : g t 10 ≤ hi) (c0 : lo ≤ g t 16) (c1 : g t 16 ≤ hi) : lo ≤ atU t x y ∧ atU t x y ≤ hi := by
  have ⟨q0', q1', q2'⟩ := in_q h
  have ⟨p, q⟩ := conv q0' q1' q2' (show q0 t x y + q1 t x y + q2 t x y = 65536 by unfold q2; omega) a0 a1 b0 b1 c0 c1
  have := in_sm h
  unfold atU
  rw [if_neg (by omega)]
  unfold uV uS; omega
theorem in_v {lo hi : Int} (a0 : lo ≤ g t 5) (a1 : g t 5 ≤ hi) (b0 : lo ≤ g t 11) (b1 : g t 11 ≤ hi) (c0 : lo ≤ g t 17) (c1 : g t 17 ≤ hi) : lo ≤ atW t x y ∧ atW t x y ≤ hi := by
  have ⟨q0', q1', q2'⟩ := in_q h
  have ⟨p, q⟩ := conv q0' q1' q2' (show q0 t x y + q1 t x y + q2 t x y = 65536 by unfold q2; omega) a0 a1 b0 b1 c0 c1
  have := in_sm h
  unfold atW
  rw [if_neg (by omega)]
  unfold vV vS; omega
end

/-! One place for all -/
structure One (t : List Int) (u v : Int) : Prop where
  u0 : g t 4 = u
  u1 : g t 10 = u
  u2 : g t 16 = u
  v0 : g t 5 = v
  v1 : g t 11 = v
  v2 : g t 17 = v
theorem three {a b c W u : Int} (h : a + b + c = W) : a * u + b * u + c * u = W * u := by
  subst h; rw [Int.add_mul, Int.add_mul]
section
variable {t : List Int} {u v : Int} (o : One t u v)
include o
theorem one_u (x y : Int) : atU t x y = if sm t x y < 1 then 0 else u := by
  unfold atU
  split
  · rfl
  · unfold uV uS
    rw [o.u0, o.u1, o.u2, three (W := 65536) (by unfold q2; omega)]
    omega
theorem one_v (x y : Int) : atW t x y = if sm t x y < 1 then 0 else v := by
  unfold atW
  split
  · rfl
  · unfold vV vS
    rw [o.v0, o.v1, o.v2, three (W := 65536) (by unfold q2; omega)]
    omega
theorem one_slu (x y dx dy : Int) (h : 1 ≤ sm t x y) : sl (atU t) (atB t) x y dx dy = 0 := by
  unfold sl slU
  rw [one_u o, one_u o, one_u o]
  unfold atB
  rw [if_neg (show ¬ sm t x y < 1 by omega), if_neg (show ¬ sm t x y < 1 by omega)]
  by_cases h1 : sm t (x + dx) (y + dy) < 1
  · by_cases h2 : sm t (x - dx) (y - dy) < 1
    · simp [h1, h2]
    · simp [h1, h2]
  · simp [h1]
theorem one_slv (x y dx dy : Int) (h : 1 ≤ sm t x y) : sl (atW t) (atB t) x y dx dy = 0 := by
  unfold sl slU
  rw [one_v o, one_v o, one_v o]
  unfold atB
  rw [if_neg (show ¬ sm t x y < 1 by omega), if_neg (show ¬ sm t x y < 1 by omega)]
  by_cases h1 : sm t (x + dx) (y + dy) < 1
  · by_cases h2 : sm t (x - dx) (y - dy) < 1
    · simp [h1, h2]
    · simp [h1, h2]
  · simp [h1]
end

/-! At a corner -/
theorem side_a (ax ay bx by_ : Int) : sideV ax ay bx by_ ax ay = 0 := by unfold sideV; rw [Int.sub_self, Int.sub_self]; omega
theorem side_b (ax ay bx by_ : Int) : sideV ax ay bx by_ bx by_ = 0 := by unfold sideV; rw [Int.mul_comm (by_ - ay)]; omega
theorem wOne_all {s : Int} (h1 : 1 ≤ s) (h2 : s ≤ 3458764513820540928) : wOne s s = 65536 := by
  have ⟨_, _, c, d⟩ := sS_bd h1 h2
  unfold wOne
  rw [fold_sS, show hold (sS s) (-16 * sS s) (16 * sS s) = sS s by unfold hold; omega]
  exact Int.mul_ediv_cancel _ (by omega)
theorem wOne_no {s : Int} (h1 : 1 ≤ s) (h2 : s ≤ 3458764513820540928) : wOne 0 s = 0 := by
  have ⟨_, _, c, d⟩ := sS_bd h1 h2
  unfold wOne
  rw [Int.zero_ediv, show hold 0 (-16 * sS s) (16 * sS s) = 0 by unfold hold; omega]
  simp
theorem corner (t : List Int) (h : Tri t) (ha : 1 ≤ area t) :
    wV t (g t 0) (g t 1) = ([65536, 0, 0], true) ∧ wV t (g t 6) (g t 7) = ([0, 65536, 0], true) ∧ wV t (g t 12) (g t 13) = ([0, 0, 65536], true) := by
  have c0 : ed1 t (g t 0) (g t 1) = 0 ∧ ed2 t (g t 0) (g t 1) = 0 := ⟨side_b _ _ _ _, side_a _ _ _ _⟩
  have c1 : ed2 t (g t 6) (g t 7) = 0 ∧ ed0 t (g t 6) (g t 7) = 0 := ⟨side_b _ _ _ _, side_a _ _ _ _⟩
  have c2 : ed0 t (g t 12) (g t 13) = 0 ∧ ed1 t (g t 12) (g t 13) = 0 := ⟨side_b _ _ _ _, side_a _ _ _ _⟩
  have s0 := sum_ed t (g t 0) (g t 1)
  have s1 := sum_ed t (g t 6) (g t 7)
  have s2 := sum_ed t (g t 12) (g t 13)
  have h0 := h.s0
  have h1 := h.s1
  have h2 := h.s2
  have pt : ∀ z, 0 ≤ z → z ≤ 16384 → Pt z := fun z a b => ⟨by omega, by omega⟩
  have i0 : Ins t (g t 0) (g t 1) := ⟨h, ha, pt _ h0.x0 h0.x1, pt _ h0.y0 h0.y1, by omega, by omega, by omega⟩
  have i1 : Ins t (g t 6) (g t 7) := ⟨h, ha, pt _ h1.x0 h1.x1, pt _ h1.y0 h1.y1, by omega, by omega, by omega⟩
  have i2 : Ins t (g t 12) (g t 13) := ⟨h, ha, pt _ h2.x0 h2.x1, pt _ h2.y0 h2.y1, by omega, by omega, by omega⟩
  have z : ∀ q, (0 : Int) * qv q = 0 := fun q => Int.zero_mul _
  refine ⟨?_, ?_, ?_⟩
  · have m1 : n1 t (g t 0) (g t 1) = 0 := by unfold n1; rw [c0.1, z]
    have m2 : n2 t (g t 0) (g t 1) = 0 := by unfold n2; rw [c0.2, z]
    have m0 : n0 t (g t 0) (g t 1) = sm t (g t 0) (g t 1) := by unfold sm; omega
    have l := in_sm i0
    have b := (sm_bd h i0.hx i0.hy).2
    unfold wV wL
    rw [if_neg (by omega), m0, m1, wOne_all l b, wOne_no l b]; rfl
  · have m1 : n0 t (g t 6) (g t 7) = 0 := by unfold n0; rw [c1.2, z]
    have m2 : n2 t (g t 6) (g t 7) = 0 := by unfold n2; rw [c1.1, z]
    have m0 : n1 t (g t 6) (g t 7) = sm t (g t 6) (g t 7) := by unfold sm; omega
    have l := in_sm i1
    have b := (sm_bd h i1.hx i1.hy).2
    unfold wV wL
    rw [if_neg (by omega), m0, m1, wOne_all l b, wOne_no l b]; rfl
  · have m1 : n0 t (g t 12) (g t 13) = 0 := by unfold n0; rw [c2.1, z]
    have m2 : n1 t (g t 12) (g t 13) = 0 := by unfold n1; rw [c2.2, z]
    have l := in_sm i2
    have b := (sm_bd h i2.hx i2.hy).2
    unfold wV wL
    rw [if_neg (by omega), m1, m2, wOne_no l b]; rfl
end Go.Proofs.Ytjbmochndpdolaa.TriL
