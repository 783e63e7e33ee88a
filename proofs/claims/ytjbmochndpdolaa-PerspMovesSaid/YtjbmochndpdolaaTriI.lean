/-
  PerspMoves: moved by whole pixels all is the same.
-/
import Derived.Test.YtjbmochndpdolaaTriH
import Derived.BigGuard
import Derived.BigRegion
namespace Go.Proofs.Ytjbmochndpdolaa.TriI
open Go.RowKit FixA Num Rd Go.Proofs.Ytjbmochndpdolaa.Row TriA TriB TriC TriD TriE TriF TriG TriH
set_option linter.unusedVariables false
set_option linter.unusedSimpArgs false
set_option maxRecDepth 10000
attribute [local go_sem ↓] load_tri store_tri load_w3 store_w3 load_spot load_pl store_pl
attribute [local go_sem] one_int one_bool run_load_pl run_store_pl run_load_spot run_load_tri run_load_w3 run_store_tri run_store_w3 rowLoad_eq rowStore_eq midLoad_eq ext0 ext1 ext2 blk_alloc_at blk_alloc_old blk_drew blk_drewN blk_set_far blk_set_far' blk_grow setRow_alloc_at setRow_alloc_old setRow_drew setRow_drewN all_map
attribute [local go_sem high] run_maxT run_minT
attribute [local go_sem] eq_w3 eq_w3_lit

/-! The mathematics -/
structure Mvd (t o : List Int) (a b : Int) : Prop where
  x0 : g o 0 = g t 0 + a
  y0 : g o 1 = g t 1 + b
  x1 : g o 6 = g t 6 + a
  y1 : g o 7 = g t 7 + b
  x2 : g o 12 = g t 12 + a
  y2 : g o 13 = g t 13 + b
  z0 : g o 2 = g t 2
  z1 : g o 8 = g t 8
  z2 : g o 14 = g t 14
  w0 : g o 3 = g t 3
  w1 : g o 9 = g t 9
  w2 : g o 15 = g t 15
  u0 : g o 4 = g t 4
  u1 : g o 10 = g t 10
  u2 : g o 16 = g t 16
  v0 : g o 5 = g t 5
  v1 : g o 11 = g t 11
  v2 : g o 17 = g t 17
theorem side_mv (ax ay bx by_ x y a b : Int) : sideV (ax + a) (ay + b) (bx + a) (by_ + b) (x + a) (y + b) = sideV ax ay bx by_ x y := by
  unfold sideV
  rw [show bx + a - (ax + a) = bx - ax by omega, show y + b - (ay + b) = y - ay by omega, show by_ + b - (ay + b) = by_ - ay by omega, show x + a - (ax + a) = x - ax by omega]
section
variable {t o : List Int} {a b : Int} (m : Mvd t o a b)
include m
theorem ed0_mv (x y : Int) : ed0 o (x + a) (y + b) = ed0 t x y := by unfold ed0; rw [m.x1, m.y1, m.x2, m.y2]; exact side_mv ..
theorem ed1_mv (x y : Int) : ed1 o (x + a) (y + b) = ed1 t x y := by unfold ed1; rw [m.x2, m.y2, m.x0, m.y0]; exact side_mv ..
theorem ed2_mv (x y : Int) : ed2 o (x + a) (y + b) = ed2 t x y := by unfold ed2; rw [m.x0, m.y0, m.x1, m.y1]; exact side_mv ..
theorem area_mv : area o = area t := by unfold area; rw [m.x0, m.y0, m.x1, m.y1, m.x2, m.y2]; exact side_mv ..
theorem n0_mv (x y : Int) : n0 o (x + a) (y + b) = n0 t x y := by unfold n0; rw [ed0_mv m, m.w0]
theorem n1_mv (x y : Int) : n1 o (x + a) (y + b) = n1 t x y := by unfold n1; rw [ed1_mv m, m.w1]
theorem n2_mv (x y : Int) : n2 o (x + a) (y + b) = n2 t x y := by unfold n2; rw [ed2_mv m, m.w2]
theorem sm_mv (x y : Int) : sm o (x + a) (y + b) = sm t x y := by unfold sm; rw [n0_mv m, n1_mv m, n2_mv m]
theorem q0_mv (x y : Int) : q0 o (x + a) (y + b) = q0 t x y := by unfold q0; rw [n0_mv m, sm_mv m]
theorem q1_mv (x y : Int) : q1 o (x + a) (y + b) = q1 t x y := by unfold q1; rw [n1_mv m, sm_mv m]
theorem q2_mv (x y : Int) : q2 o (x + a) (y + b) = q2 t x y := by unfold q2; rw [q0_mv m, q1_mv m]
theorem atU_mv (x y : Int) : atU o (x + a) (y + b) = atU t x y := by unfold atU uV uS; rw [sm_mv m, q0_mv m, q1_mv m, q2_mv m, m.u0, m.u1, m.u2]
theorem atW_mv (x y : Int) : atW o (x + a) (y + b) = atW t x y := by unfold atW vV vS; rw [sm_mv m, q0_mv m, q1_mv m, q2_mv m, m.v0, m.v1, m.v2]
theorem atB_mv (x y : Int) : atB o (x + a) (y + b) = atB t x y := by unfold atB; rw [sm_mv m]
theorem zV_mv (x y : Int) : zV o (x + a) (y + b) = zV t x y := by unfold zV zN zS; rw [ed0_mv m, ed1_mv m, ed2_mv m, area_mv m, m.z0, m.z1, m.z2]
end
theorem sl_mv {a b : Int} (f h : Int → Int → Int) (c d : Int → Int → Bool) (hf : ∀ x y, f (x + a) (y + b) = h x y) (hc : ∀ x y, c (x + a) (y + b) = d x y) (x y dx dy : Int) : sl f c (x + a) (y + b) dx dy = sl h d x y dx dy := by
  unfold sl
  rw [show x + a - dx = (x - dx) + a by omega, show y + b - dy = (y - dy) + b by omega, show x + a + dx = (x + dx) + a by omega, show y + b + dy = (y + dy) + b by omega, hf, hf, hf, hc, hc, hc]
theorem mid_mv (p x : Int) : mid (p + x) = mid p + 256 * x := by unfold mid; omega
section
variable {t o : List Int} {x y : Int} (m : Mvd t o (256 * x) (256 * y))
include m
theorem z_at (px py : Int) : zV o (mid (px + x)) (mid (py + y)) = zV t (mid px) (mid py) := by rw [mid_mv, mid_mv]; exact zV_mv m _ _
theorem u_at (px py : Int) : atU o (mid (px + x)) (mid (py + y)) = atU t (mid px) (mid py) := by rw [mid_mv, mid_mv]; exact atU_mv m _ _
theorem v_at (px py : Int) : atW o (mid (px + x)) (mid (py + y)) = atW t (mid px) (mid py) := by rw [mid_mv, mid_mv]; exact atW_mv m _ _
theorem ux_at (px py : Int) : ux o (px + x) (py + y) = ux t px py := by unfold ux; rw [mid_mv, mid_mv]; exact sl_mv _ _ _ _ (atU_mv m) (atB_mv m) _ _ _ _
theorem vx_at (px py : Int) : vx o (px + x) (py + y) = vx t px py := by unfold vx; rw [mid_mv, mid_mv]; exact sl_mv _ _ _ _ (atW_mv m) (atB_mv m) _ _ _ _
theorem uy_at (px py : Int) : uy o (px + x) (py + y) = uy t px py := by unfold uy; rw [mid_mv, mid_mv]; exact sl_mv _ _ _ _ (atU_mv m) (atB_mv m) _ _ _ _
theorem vy_at (px py : Int) : vy o (px + x) (py + y) = vy t px py := by unfold vy; rw [mid_mv, mid_mv]; exact sl_mv _ _ _ _ (atW_mv m) (atB_mv m) _ _ _ _
end

/-- the first k spots are moved -/
def mvK (t : List Int) (a b : Int) (k : Nat) : List Int := (List.range 18).map fun i => if i < k * 6 then (if i % 6 = 0 then g t i + a else if i % 6 = 1 then g t i + b else g t i) else g t i
theorem mvK_len (t : List Int) (a b : Int) (k : Nat) : (mvK t a b k).length = 18 := by simp [mvK]
theorem g_mvK (t : List Int) (a b : Int) (k i : Nat) (hi : i < 18) : g (mvK t a b k) i = if i < k * 6 then (if i % 6 = 0 then g t i + a else if i % 6 = 1 then g t i + b else g t i) else g t i := by
  unfold mvK
  show List.getD _ i 0 = _
  simp [List.getD, hi]
theorem mvK_0 (t : List Int) (a b : Int) (hl : t.length = 18) : mvK t a b 0 = t := by
  apply List.ext_getElem?
  intro i
  by_cases h : i < 18
  · simp [mvK, h, hl, g, List.getD]
  · simp [mvK, h, hl]
theorem mvK_set (t : List Int) (a b : Int) (k : Nat) (hk : k < 3) : ((mvK t a b k).set (k * 6) (g t (k * 6) + a)).set (k * 6 + 1) (g t (k * 6 + 1) + b) = mvK t a b (k + 1) := by
  apply List.ext_getElem?
  intro i
  rw [List.getElem?_set, List.getElem?_set]
  by_cases h18 : i < 18
  · by_cases h1 : k * 6 + 1 = i
    · subst h1
      have e1 : (k * 6 + 1) % 6 = 1 := by omega
      have e2 : k * 6 + 1 < (k + 1) * 6 := by omega
      simp [mvK, h18, e1, e2]
    · by_cases h0 : k * 6 = i
      · subst h0
        have e1 : (k * 6) % 6 = 0 := by omega
        have e2 : k * 6 < (k + 1) * 6 := by omega
        rw [if_neg h1]
        simp [mvK, h18, e1, e2]
      · rw [if_neg h1, if_neg h0]
        simp only [mvK, List.getElem?_map, List.getElem?_range h18, Option.map_some]
        by_cases h2 : i < k * 6
        · simp only [h2, show i < (k + 1) * 6 by omega, if_true]
        · rw [if_neg h2]
          by_cases h3 : i < (k + 1) * 6
          · rw [if_pos h3, if_neg (by omega), if_neg (by omega)]
          · rw [if_neg h3]
  · have e1 : (mvK t a b k)[i]? = none := by rw [List.getElem?_eq_none]; rw [mvK_len]; omega
    have e2 : (mvK t a b (k + 1))[i]? = none := by rw [List.getElem?_eq_none]; rw [mvK_len]; omega
    rw [if_neg (by omega), if_neg (by omega), e1, e2]
theorem mvd_of (t : List Int) (a b : Int) : Mvd t (mvK t a b 3) a b := by
  constructor <;> (rw [g_mvK _ _ _ _ _ (by omega)]; first | (rw [if_pos (by omega), if_pos (by omega)]; done) | (rw [if_pos (by omega), if_neg (by omega), if_pos (by omega)]; done) | (rw [if_pos (by omega), if_neg (by omega), if_neg (by omega)]; done))
theorem tri_mv {t : List Int} {a b : Int} (h : Tri t) (ha : 0 ≤ a ∧ a ≤ 2560) (hb : 0 ≤ b ∧ b ≤ 2560) (x0 : g t 0 ≤ 5120) (y0 : g t 1 ≤ 5120) (x1 : g t 6 ≤ 5120) (y1 : g t 7 ≤ 5120) (x2 : g t 12 ≤ 5120) (y2 : g t 13 ≤ 5120) : Tri (mvK t a b 3) := by
  have m := mvd_of t a b
  refine ⟨mvK_len .., ?_, ?_, ?_⟩
  · rw [m.x0, m.y0, m.z0, m.w0, m.u0, m.v0]
    obtain ⟨p0, p1, p2, p3, p4, p5, p6, p7, p8, p9, p10, p11⟩ := h.s0
    exact ⟨by omega, by omega, by omega, by omega, p4, p5, p6, p7, p8, p9, p10, p11⟩
  · rw [m.x1, m.y1, m.z1, m.w1, m.u1, m.v1]
    obtain ⟨p0, p1, p2, p3, p4, p5, p6, p7, p8, p9, p10, p11⟩ := h.s1
    exact ⟨by omega, by omega, by omega, by omega, p4, p5, p6, p7, p8, p9, p10, p11⟩
  · rw [m.x2, m.y2, m.z2, m.w2, m.u2, m.v2]
    obtain ⟨p0, p1, p2, p3, p4, p5, p6, p7, p8, p9, p10, p11⟩ := h.s2
    exact ⟨by omega, by omega, by omega, by omega, p4, p5, p6, p7, p8, p9, p10, p11⟩

/-! The walk -/
abbrev FarJ (t : List Int) (j : Nat) : Prop := g t (j * 6) ≤ 5120 ∧ g t (j * 6 + 1) ≤ 5120
theorem far_step {t : List Int} {k : Nat} (h : ∀ j, j < k → FarJ t j) (h2 : FarJ t k) : ∀ j, j < k + 1 → FarJ t j := by
  intro j hj
  by_cases e : j = k
  · subst e; exact h2
  · exact h j (by omega)
set_option maxHeartbeats 4000000 in
theorem moves_gen (t : List Int) (hl : t.length = 18) (hw : ∀ x ∈ t, (Lit.int .i64 x).wf = true) (px py x y : Int) (w : World) :
    Calls Try.prog 7 #[.agg (cs .i64 t), .int .i64 px, .int .i64 py, .int .i64 x, .int .i64 y] w fun e w' => e = .returned (.bool true) ∧ Below w.heap.size w w' := by
  go_enter Try.func7, Try.ntmps7
  go_wp2_with fail
  refine (may_any t hl hw _).mono ?_
  rintro e w1 ⟨he, hb⟩
  have hs := hb.size
  simp only [World.size_alloc] at hs
  have b1 : blk w1 w.heap.size = some (.cells (cs .i64 t) 24 (0, 0)) := (blk_below hb _ (by simp)).trans (by simp [blk_alloc_at])
  have L1 : Below w.heap.size w w1 := by repeat' (first | (with_reducible exact Below.refl _ _) | (with_reducible refine Rd.below_step ?_ (by assumption)) | (with_reducible refine Rd.below_alloc ?_ _) | (with_reducible refine Rd.below_drewN ?_ _) | (with_reducible refine Below.drew ?_) | (with_reducible refine Below.setCell ?_ ?_ _) | (with_reducible refine Rd.below_setRow ?_ ?_ _) | go_size | (simp only [World.size_alloc]; omega) | omega)
  have k0 : w.heap.size < w1.heap.size := by omega
  clear hb
  rcases he with rfl | ⟨rfl, ht, ha⟩
  · go_wp2_with fail
    refine (awake_any _).mono ?_
    rintro e w9 ⟨rfl, hb⟩
    have L9 : Below w.heap.size w w9 := by repeat' (first | (with_reducible exact Below.refl _ _) | (with_reducible refine Rd.below_step ?_ (by assumption)) | (with_reducible refine Rd.below_alloc ?_ _) | (with_reducible refine Rd.below_drewN ?_ _) | (with_reducible refine Below.drew ?_) | (with_reducible refine Below.setCell ?_ ?_ _) | (with_reducible refine Rd.below_setRow ?_ ?_ _) | go_size | (simp only [World.size_alloc]; omega) | omega)
    clear hb
    go_wp2
    go_ret
    exact ⟨rfl, L9⟩
  have HT := Lib.hid ht
  have HA := Lib.hid ha
  clear ht ha
  by_cases h0 : px < 0
  · have d0 : decide (px < 0) = true := by simpa using h0
    clear h0
    go_wp2_with fail
    refine (awake_any _).mono ?_
    rintro e w9 ⟨rfl, hb⟩
    have L9 : Below w.heap.size w w9 := by repeat' (first | (with_reducible exact Below.refl _ _) | (with_reducible refine Rd.below_step ?_ (by assumption)) | (with_reducible refine Rd.below_alloc ?_ _) | (with_reducible refine Rd.below_drewN ?_ _) | (with_reducible refine Below.drew ?_) | (with_reducible refine Below.setCell ?_ ?_ _) | (with_reducible refine Rd.below_setRow ?_ ?_ _) | go_size | (simp only [World.size_alloc]; omega) | omega)
    clear hb
    go_wp2
    go_ret
    exact ⟨rfl, L9⟩
  have d0 : decide (px < 0) = false := by simpa using h0
  have H0 := Lib.hid h0
  clear h0
  by_cases h1 : 20 < px
  · have d1 : decide (20 < px) = true := by simpa using h1
    clear h1
    go_wp2_with fail
    refine (awake_any _).mono ?_
    rintro e w9 ⟨rfl, hb⟩
    have L9 : Below w.heap.size w w9 := by repeat' (first | (with_reducible exact Below.refl _ _) | (with_reducible refine Rd.below_step ?_ (by assumption)) | (with_reducible refine Rd.below_alloc ?_ _) | (with_reducible refine Rd.below_drewN ?_ _) | (with_reducible refine Below.drew ?_) | (with_reducible refine Below.setCell ?_ ?_ _) | (with_reducible refine Rd.below_setRow ?_ ?_ _) | go_size | (simp only [World.size_alloc]; omega) | omega)
    clear hb
    go_wp2
    go_ret
    exact ⟨rfl, L9⟩
  have d1 : decide (20 < px) = false := by simpa using h1
  have H1 := Lib.hid h1
  clear h1
  by_cases h2 : py < 0
  · have d2 : decide (py < 0) = true := by simpa using h2
    clear h2
    go_wp2_with fail
    refine (awake_any _).mono ?_
    rintro e w9 ⟨rfl, hb⟩
    have L9 : Below w.heap.size w w9 := by repeat' (first | (with_reducible exact Below.refl _ _) | (with_reducible refine Rd.below_step ?_ (by assumption)) | (with_reducible refine Rd.below_alloc ?_ _) | (with_reducible refine Rd.below_drewN ?_ _) | (with_reducible refine Below.drew ?_) | (with_reducible refine Below.setCell ?_ ?_ _) | (with_reducible refine Rd.below_setRow ?_ ?_ _) | go_size | (simp only [World.size_alloc]; omega) | omega)
    clear hb
    go_wp2
    go_ret
    exact ⟨rfl, L9⟩
  have d2 : decide (py < 0) = false := by simpa using h2
  have H2 := Lib.hid h2
  clear h2
  by_cases h3 : 20 < py
  · have d3 : decide (20 < py) = true := by simpa using h3
    clear h3
    go_wp2_with fail
    refine (awake_any _).mono ?_
    rintro e w9 ⟨rfl, hb⟩
    have L9 : Below w.heap.size w w9 := by repeat' (first | (with_reducible exact Below.refl _ _) | (with_reducible refine Rd.below_step ?_ (by assumption)) | (with_reducible refine Rd.below_alloc ?_ _) | (with_reducible refine Rd.below_drewN ?_ _) | (with_reducible refine Below.drew ?_) | (with_reducible refine Below.setCell ?_ ?_ _) | (with_reducible refine Rd.below_setRow ?_ ?_ _) | go_size | (simp only [World.size_alloc]; omega) | omega)
    clear hb
    go_wp2
    go_ret
    exact ⟨rfl, L9⟩
  have d3 : decide (20 < py) = false := by simpa using h3
  have H3 := Lib.hid h3
  clear h3
  by_cases h4 : x < 0
  · have d4 : decide (x < 0) = true := by simpa using h4
    clear h4
    go_wp2_with fail
    refine (awake_any _).mono ?_
    rintro e w9 ⟨rfl, hb⟩
    have L9 : Below w.heap.size w w9 := by repeat' (first | (with_reducible exact Below.refl _ _) | (with_reducible refine Rd.below_step ?_ (by assumption)) | (with_reducible refine Rd.below_alloc ?_ _) | (with_reducible refine Rd.below_drewN ?_ _) | (with_reducible refine Below.drew ?_) | (with_reducible refine Below.setCell ?_ ?_ _) | (with_reducible refine Rd.below_setRow ?_ ?_ _) | go_size | (simp only [World.size_alloc]; omega) | omega)
    clear hb
    go_wp2
    go_ret
    exact ⟨rfl, L9⟩
  have d4 : decide (x < 0) = false := by simpa using h4
  have H4 := Lib.hid h4
  clear h4
  by_cases h5 : 10 < x
  · have d5 : decide (10 < x) = true := by simpa using h5
    clear h5
    go_wp2_with fail
    refine (awake_any _).mono ?_
    rintro e w9 ⟨rfl, hb⟩
    have L9 : Below w.heap.size w w9 := by repeat' (first | (with_reducible exact Below.refl _ _) | (with_reducible refine Rd.below_step ?_ (by assumption)) | (with_reducible refine Rd.below_alloc ?_ _) | (with_reducible refine Rd.below_drewN ?_ _) | (with_reducible refine Below.drew ?_) | (with_reducible refine Below.setCell ?_ ?_ _) | (with_reducible refine Rd.below_setRow ?_ ?_ _) | go_size | (simp only [World.size_alloc]; omega) | omega)
    clear hb
    go_wp2
    go_ret
    exact ⟨rfl, L9⟩
  have d5 : decide (10 < x) = false := by simpa using h5
  have H5 := Lib.hid h5
  clear h5
  by_cases h6 : y < 0
  · have d6 : decide (y < 0) = true := by simpa using h6
    clear h6
    go_wp2_with fail
    refine (awake_any _).mono ?_
    rintro e w9 ⟨rfl, hb⟩
    have L9 : Below w.heap.size w w9 := by repeat' (first | (with_reducible exact Below.refl _ _) | (with_reducible refine Rd.below_step ?_ (by assumption)) | (with_reducible refine Rd.below_alloc ?_ _) | (with_reducible refine Rd.below_drewN ?_ _) | (with_reducible refine Below.drew ?_) | (with_reducible refine Below.setCell ?_ ?_ _) | (with_reducible refine Rd.below_setRow ?_ ?_ _) | go_size | (simp only [World.size_alloc]; omega) | omega)
    clear hb
    go_wp2
    go_ret
    exact ⟨rfl, L9⟩
  have d6 : decide (y < 0) = false := by simpa using h6
  have H6 := Lib.hid h6
  clear h6
  by_cases h7 : 10 < y
  · have d7 : decide (10 < y) = true := by simpa using h7
    clear h7
    go_wp2_with fail
    refine (awake_any _).mono ?_
    rintro e w9 ⟨rfl, hb⟩
    have L9 : Below w.heap.size w w9 := by repeat' (first | (with_reducible exact Below.refl _ _) | (with_reducible refine Rd.below_step ?_ (by assumption)) | (with_reducible refine Rd.below_alloc ?_ _) | (with_reducible refine Rd.below_drewN ?_ _) | (with_reducible refine Below.drew ?_) | (with_reducible refine Below.setCell ?_ ?_ _) | (with_reducible refine Rd.below_setRow ?_ ?_ _) | go_size | (simp only [World.size_alloc]; omega) | omega)
    clear hb
    go_wp2
    go_ret
    exact ⟨rfl, L9⟩
  have d7 : decide (10 < y) = false := by simpa using h7
  have H7 := Lib.hid h7
  clear h7

  have hpx : 0 ≤ px ∧ px ≤ 20 := by
    have := H0.out
    have := H1.out
    omega
  have hpy : 0 ≤ py ∧ py ≤ 20 := by
    have := H2.out
    have := H3.out
    omega
  have hx : 0 ≤ x ∧ x ≤ 10 := by
    have := H4.out
    have := H5.out
    omega
  have hy : 0 ≤ y ∧ y ≤ 10 := by
    have := H6.out
    have := H7.out
    omega
  clear H0 H1 H2 H3 H4 H5 H6 H7
  go_wp2_with fail
  clear d0 d1 d2 d3 d4 d5 d6 d7
  go_loopw [12] (fun i wr => ∃ k : Nat, k ≤ 3 ∧ i = .int .i64 k ∧ Hid (∀ j, j < k → FarJ t j) ∧ Below w.heap.size w wr ∧ blk wr w.heap.size = some (.cells (cs .i64 t) 24 (0, 0)) ∧ blk wr w1.heap.size = some (.cells (cs .i64 (mvK t (256 * x) (256 * y) k)) 24 (0, 0)) ∧ w1.heap.size < wr.heap.size) (fun i _ => 3 - (intOf i).toNat)
  case atStart => exact ⟨0, by omega, rfl, fun j hj => absurd hj (by omega), by repeat' (first | (with_reducible exact Below.refl _ _) | (with_reducible refine Rd.below_step ?_ (by assumption)) | (with_reducible refine Rd.below_alloc ?_ _) | (with_reducible refine Rd.below_drewN ?_ _) | (with_reducible refine Below.drew ?_) | (with_reducible refine Below.setCell ?_ ?_ _) | (with_reducible refine Rd.below_setRow ?_ ?_ _) | go_size | (simp only [World.size_alloc]; omega) | omega), (blk_alloc_old _ _ _ k0).trans b1, by rw [mvK_0 _ _ _ hl]; exact blk_alloc_at _ _ _ rfl, by simp⟩
  case round =>
    obtain ⟨k, hk, rfl, HF, hb, HB, HO, hk1⟩ := hrel
    have k2 : w.heap.size < wr.heap.size := by omega
    by_cases hlt : k < 3
    · have x0 : wr.cell? ⟨w.heap.size, k * 6, none⟩ = some (.int .i64 (g t (k * 6))) := by rw [blk_cell HB]; exact cs_at (at_of (l := t) (by omega))
      have x1 : wr.cell? ⟨w.heap.size, k * 6 + 1, none⟩ = some (.int .i64 (g t (k * 6 + 1))) := by rw [blk_cell HB]; exact cs_at (at_of (l := t) (by omega))
      have o0 : wr.cell? ⟨w1.heap.size, k * 6, none⟩ = some (.int .i64 (g (mvK t (256 * x) (256 * y) k) (k * 6))) := by rw [blk_cell HO]; exact cs_at (at_of (l := mvK t (256 * x) (256 * y) k) (by rw [mvK_len]; omega))
      have o1 : wr.cell? ⟨w1.heap.size, k * 6 + 1, none⟩ = some (.int .i64 (g (mvK t (256 * x) (256 * y) k) (k * 6 + 1))) := by rw [blk_cell HO]; exact cs_at (at_of (l := mvK t (256 * x) (256 * y) k) (by rw [mvK_len]; omega))
      have f0 : wr.frozen? ⟨w1.heap.size, k * 6, none⟩ = false := blk_frozen HO _
      have f1 : wr.frozen? ⟨w1.heap.size, k * 6 + 1, none⟩ = false := blk_frozen HO _
      have HB' := Lib.hid HB
      have HO' := Lib.hid HO
      clear HB HO
      have bx : 0 ≤ g t (k * 6) ∧ g t (k * 6) ≤ 16384 ∧ 0 ≤ g t (k * 6 + 1) ∧ g t (k * 6 + 1) ≤ 16384 := by
        have e : k = 0 ∨ k = 1 ∨ k = 2 := by omega
        have h := HT.out
        rcases e with rfl | rfl | rfl
        · exact ⟨h.s0.x0, h.s0.x1, h.s0.y0, h.s0.y1⟩
        · exact ⟨h.s1.x0, h.s1.x1, h.s1.y0, h.s1.y1⟩
        · exact ⟨h.s2.x0, h.s2.x1, h.s2.y0, h.s2.y1⟩
      by_cases h0 : 5120 < g t (k * 6)
      · have d0 : decide (5120 < g t (k * 6)) = true := by simpa using h0
        clear h0
        go_wp2_with fail
        refine (awake_any _).mono ?_
        rintro e w9 ⟨rfl, hb⟩
        have L9 : Below w.heap.size w w9 := by repeat' (first | (with_reducible exact Below.refl _ _) | (with_reducible refine Rd.below_step ?_ (by assumption)) | (with_reducible refine Rd.below_alloc ?_ _) | (with_reducible refine Rd.below_drewN ?_ _) | (with_reducible refine Below.drew ?_) | (with_reducible refine Below.setCell ?_ ?_ _) | (with_reducible refine Rd.below_setRow ?_ ?_ _) | go_size | (simp only [World.size_alloc]; omega) | omega)
        clear hb
        go_wp2
        go_ret
        exact ⟨rfl, L9⟩
      have d0 : decide (5120 < g t (k * 6)) = false := by simpa using h0
      have H0 := Lib.hid h0
      clear h0
      by_cases h1 : 5120 < g t (k * 6 + 1)
      · have d1 : decide (5120 < g t (k * 6 + 1)) = true := by simpa using h1
        clear h1
        go_wp2_with fail
        refine (awake_any _).mono ?_
        rintro e w9 ⟨rfl, hb⟩
        have L9 : Below w.heap.size w w9 := by repeat' (first | (with_reducible exact Below.refl _ _) | (with_reducible refine Rd.below_step ?_ (by assumption)) | (with_reducible refine Rd.below_alloc ?_ _) | (with_reducible refine Rd.below_drewN ?_ _) | (with_reducible refine Below.drew ?_) | (with_reducible refine Below.setCell ?_ ?_ _) | (with_reducible refine Rd.below_setRow ?_ ?_ _) | go_size | (simp only [World.size_alloc]; omega) | omega)
        clear hb
        go_wp2
        go_ret
        exact ⟨rfl, L9⟩
      have d1 : decide (5120 < g t (k * 6 + 1)) = false := by simpa using h1
      have H1 := Lib.hid h1
      clear h1

      go_wp2
      go_big_region
      go_wp2
      have hj : FarJ t k := by
        have := H0.out
        have := H1.out
        constructor <;> omega
      refine ⟨⟨k + 1, by omega, by go_num, Lib.hid (far_step HF.out hj), by repeat' (first | (with_reducible exact Below.refl _ _) | (with_reducible refine Rd.below_step ?_ (by assumption)) | (with_reducible refine Rd.below_alloc ?_ _) | (with_reducible refine Rd.below_drewN ?_ _) | (with_reducible refine Below.drew ?_) | (with_reducible refine Below.setCell ?_ ?_ _) | (with_reducible refine Rd.below_setRow ?_ ?_ _) | go_size | (simp only [World.size_alloc]; omega) | omega), ?_, ?_, ?_⟩, by simp [intOf]; omega⟩
      · rw [blk_drew, blk_set_far _ _ _ _ (by simpa using k0), blk_set_far _ _ _ _ (by simpa using k0)]; exact HB'.out
      · rw [blk_drew, blk_set _ _ _ _ _ _ (blk_set _ _ _ _ _ _ HO'.out), set_cs, set_cs, mvK_set _ _ _ _ hlt]
      · simpa using hk1
    · obtain rfl : k = 3 := by omega
      have m := mvd_of t (256 * x) (256 * y)
      have j0 := HF.out 0 (by omega)
      have j1 := HF.out 1 (by omega)
      have j2 := HF.out 2 (by omega)
      have To : Tri (mvK t (256 * x) (256 * y) 3) := tri_mv HT.out (by omega) (by omega) j0.1 j0.2 j1.1 j1.2 j2.1 j2.2
      have Ao : 1 ≤ area (mvK t (256 * x) (256 * y) 3) := by rw [area_mv m]; exact HA.out
      have C1 : Hid (∀ w : World, Calls Try.prog 12 #[.agg (cs .i64 (mvK t (256 * x) (256 * y) 3)), .int .i64 (px + x), .int .i64 (py + y)] w fun e w' => e = .returned (.tuple #[.int .i64 (zV t (mid px) (mid py)), .int .i64 (atU t (mid px) (mid py)), .int .i64 (atW t (mid px) (mid py))]) ∧ Below w.heap.size w w') := fun w => by
        have := At_any _ To Ao (px + x) (py + y) (by omega) (by omega) w
        rw [z_at m, u_at m, v_at m] at this
        exact this
      have C2 : Hid (∀ w : World, Calls Try.prog 14 #[.agg (cs .i64 (mvK t (256 * x) (256 * y) 3)), .int .i64 (px + x), .int .i64 (py + y)] w fun e w' => e = .returned (.tuple #[.int .i64 (ux t px py), .int .i64 (vx t px py), .int .i64 (uy t px py), .int .i64 (vy t px py)]) ∧ Below w.heap.size w w') := fun w => by
        have := slopes_any _ To (px + x) (py + y) (by omega) (by omega) w
        rw [ux_at m, vx_at m, uy_at m, vy_at m] at this
        exact this
      have mo := mvK_len t (256 * x) (256 * y) 3
      clear j0 j1 j2 m To Ao HF
      go_wp2_with fail
      refine (At_any t HT.out HA.out px py (by omega) (by omega) _).mono ?_
      rintro e w4 ⟨rfl, hb⟩
      have hs4 := hb.size
      have HB4 := (blk_below hb _ k2).trans HB
      have HO4 := (blk_below hb _ hk1).trans HO
      have L4 : Below w.heap.size w w4 := by repeat' (first | (with_reducible exact Below.refl _ _) | (with_reducible refine Rd.below_step ?_ (by assumption)) | (with_reducible refine Rd.below_alloc ?_ _) | (with_reducible refine Rd.below_drewN ?_ _) | (with_reducible refine Below.drew ?_) | (with_reducible refine Below.setCell ?_ ?_ _) | (with_reducible refine Rd.below_setRow ?_ ?_ _) | go_size | (simp only [World.size_alloc]; omega) | omega)
      clear hb HB HO
      go_wp2_with fail
      refine (C1.out _).mono ?_
      rintro e w5 ⟨rfl, hb⟩
      have hs5 := hb.size
      have HB5 := (blk_below hb _ (by omega)).trans HB4
      have HO5 := (blk_below hb _ (by omega)).trans HO4
      have L5 : Below w.heap.size w w5 := by repeat' (first | (with_reducible exact Below.refl _ _) | (with_reducible refine Rd.below_step ?_ (by assumption)) | (with_reducible refine Rd.below_alloc ?_ _) | (with_reducible refine Rd.below_drewN ?_ _) | (with_reducible refine Below.drew ?_) | (with_reducible refine Below.setCell ?_ ?_ _) | (with_reducible refine Rd.below_setRow ?_ ?_ _) | go_size | (simp only [World.size_alloc]; omega) | omega)
      clear hb HB4 HO4 L4
      go_wp2_with fail
      refine (slopes_any t HT.out px py (by omega) (by omega) _).mono ?_
      rintro e w6 ⟨rfl, hb⟩
      have hs6 := hb.size
      have HO6 := (blk_below hb _ (by omega)).trans HO5
      have L6 : Below w.heap.size w w6 := by repeat' (first | (with_reducible exact Below.refl _ _) | (with_reducible refine Rd.below_step ?_ (by assumption)) | (with_reducible refine Rd.below_alloc ?_ _) | (with_reducible refine Rd.below_drewN ?_ _) | (with_reducible refine Below.drew ?_) | (with_reducible refine Below.setCell ?_ ?_ _) | (with_reducible refine Rd.below_setRow ?_ ?_ _) | go_size | (simp only [World.size_alloc]; omega) | omega)
      clear hb HB5 HO5 L5
      go_wp2_with fail
      refine (C2.out _).mono ?_
      rintro e w7 ⟨rfl, hb⟩
      have L7 : Below w.heap.size w w7 := by repeat' (first | (with_reducible exact Below.refl _ _) | (with_reducible refine Rd.below_step ?_ (by assumption)) | (with_reducible refine Rd.below_alloc ?_ _) | (with_reducible refine Rd.below_drewN ?_ _) | (with_reducible refine Below.drew ?_) | (with_reducible refine Below.setCell ?_ ?_ _) | (with_reducible refine Rd.below_setRow ?_ ?_ _) | go_size | (simp only [World.size_alloc]; omega) | omega)
      clear hb HO6 L6
      go_wp2_with fail
      refine (awake_any _).mono ?_
      rintro e w9 ⟨rfl, hb⟩
      have L9 : Below w.heap.size w w9 := by repeat' (first | (with_reducible exact Below.refl _ _) | (with_reducible refine Rd.below_step ?_ (by assumption)) | (with_reducible refine Rd.below_alloc ?_ _) | (with_reducible refine Rd.below_drewN ?_ _) | (with_reducible refine Below.drew ?_) | (with_reducible refine Below.setCell ?_ ?_ _) | (with_reducible refine Rd.below_setRow ?_ ?_ _) | go_size | (simp only [World.size_alloc]; omega) | omega)
      clear hb
      go_wp2
      go_ret
      exact ⟨rfl, L9⟩
end Go.Proofs.Ytjbmochndpdolaa.TriI
