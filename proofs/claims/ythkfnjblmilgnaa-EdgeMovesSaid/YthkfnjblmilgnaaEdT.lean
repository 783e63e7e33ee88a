/-
  A triangle moved by whole pixels: the mathematics.
-/
import Derived.Test.YthkfnjblmilgnaaEdQ
namespace Go.Proofs.Ythkfnjblmilgnaa.EdT
open Go.RowKit Rd Go.Proofs.Ythkfnjblmilgnaa.Row Mid EdM EdA EdB EdF EdE EdG EdN EdI EdFf EdP EdQ
set_option linter.unusedVariables false
set_option linter.unusedSimpArgs false
set_option maxRecDepth 10000
def mvS (l : List Int) (i k : Int) : List Int := [g l 0 + 256 * i, g l 1 + 256 * k, g l 2, g l 3, g l 4, g l 5]
def mvT (t : List Int) (i k : Int) : List Int := mvS (sp t 0) i k ++ mvS (sp t 1) i k ++ mvS (sp t 2) i k
/-- all spots well within -/
def Low (t : List Int) : Prop := t.length = 18 ∧ (0 ≤ g t 0 ∧ g t 0 ≤ 5120 ∧ 0 ≤ g t 1 ∧ g t 1 ≤ 5120) ∧ (0 ≤ g t 6 ∧ g t 6 ≤ 5120 ∧ 0 ≤ g t 7 ∧ g t 7 ≤ 5120) ∧ (0 ≤ g t 12 ∧ g t 12 ≤ 5120 ∧ 0 ≤ g t 13 ∧ g t 13 ≤ 5120)
theorem low_tri {t : List Int} (h : Low t) : Tri t := by
  obtain ⟨hl, ⟨a, b, c, d⟩, ⟨e, f, g', h'⟩, ⟨i, j, k, l⟩⟩ := h
  exact ⟨hl, ⟨a, by omega, c, by omega⟩, ⟨e, by omega, g', by omega⟩, ⟨i, by omega, k, by omega⟩⟩
theorem mv_len (t : List Int) (i k : Int) : (mvT t i k).length = 18 := rfl
theorem mv_g {t : List Int} (h : t.length = 18) (i k : Int) : g (mvT t i k) 0 = g t 0 + 256 * i ∧ g (mvT t i k) 1 = g t 1 + 256 * k ∧ g (mvT t i k) 6 = g t 6 + 256 * i ∧ g (mvT t i k) 7 = g t 7 + 256 * k ∧ g (mvT t i k) 12 = g t 12 + 256 * i ∧ g (mvT t i k) 13 = g t 13 + 256 * k := by
  have e : ∀ n j, j < 6 → g (sp t n) j = g t (6 * n + j) := fun n j hj => sp_g t n j hj
  refine ⟨?_, ?_, ?_, ?_, ?_, ?_⟩
  · show g (sp t 0) 0 + 256 * i = _; rw [e 0 0 (by omega)]
  · show g (sp t 0) 1 + 256 * k = _; rw [e 0 1 (by omega)]
  · show g (sp t 1) 0 + 256 * i = _; rw [e 1 0 (by omega)]
  · show g (sp t 1) 1 + 256 * k = _; rw [e 1 1 (by omega)]
  · show g (sp t 2) 0 + 256 * i = _; rw [e 2 0 (by omega)]
  · show g (sp t 2) 1 + 256 * k = _; rw [e 2 1 (by omega)]
theorem mv_tri {t : List Int} (h : Low t) {i k : Int} (hi : 0 ≤ i ∧ i < 8) (hk : 0 ≤ k ∧ k < 8) : Tri (mvT t i k) := by
  obtain ⟨e0, e1, e2, e3, e4, e5⟩ := mv_g h.1 i k
  obtain ⟨hl, h0, h1, h2⟩ := h
  refine ⟨mv_len t i k, ?_, ?_, ?_⟩
  · rw [e0, e1]; exact ⟨by omega, by omega, by omega, by omega⟩
  · rw [e2, e3]; exact ⟨by omega, by omega, by omega, by omega⟩
  · rw [e4, e5]; exact ⟨by omega, by omega, by omega, by omega⟩
theorem sd_mv (ax ay bx by_ x y u v : Int) : sd (ax + u) (ay + v) (bx + u) (by_ + v) (x + u) (y + v) = sd ax ay bx by_ x y := by unfold sd; grind
theorem ul_mv (ax ay bx by_ u v : Int) : ul (ax + u) (ay + v) (bx + u) (by_ + v) = ul ax ay bx by_ := by
  unfold ul
  congr 1
  · congr 1; exact propext ⟨fun h => by omega, fun h => by omega⟩
  · congr 1
    · congr 1; exact propext ⟨fun h => by omega, fun h => by omega⟩
    · congr 1; exact propext ⟨fun h => by omega, fun h => by omega⟩
theorem hf_mv (ax ay bx by_ x y u v : Int) : hf (ax + u) (ay + v) (bx + u) (by_ + v) (x + u) (y + v) = hf ax ay bx by_ x y := by
  unfold hf
  rw [sd_mv, ul_mv]
theorem mid_mv (p i : Int) : mid (p + i) = mid p + 256 * i := by unfold mid; omega
theorem area_mv {t : List Int} (h : t.length = 18) (i k : Int) : area (mvT t i k) = area t := by
  obtain ⟨e0, e1, e2, e3, e4, e5⟩ := mv_g h i k
  unfold area
  rw [e0, e1, e2, e3, e4, e5]
  exact sd_mv _ _ _ _ _ _ _ _
theorem cov_mv {t : List Int} (h : t.length = 18) (i k px py : Int) : covT (mvT t i k) (px + i) (py + k) = covT t px py := by
  obtain ⟨e0, e1, e2, e3, e4, e5⟩ := mv_g h i k
  unfold covT cov
  rw [e0, e1, e2, e3, e4, e5, mid_mv, mid_mv, sd_mv, hf_mv, hf_mv, hf_mv]
theorem hit_mv {t : List Int} (h : t.length = 18) (i k px py : Int) : hitL (mvT t i k) (px + i) (py + k) = [px + i, py + k, ed0 t (mid px) (mid py), ed1 t (mid px) (mid py), ed2 t (mid px) (mid py)] := by
  obtain ⟨e0, e1, e2, e3, e4, e5⟩ := mv_g h i k
  unfold hitL ed0 ed1 ed2
  rw [e0, e1, e2, e3, e4, e5, mid_mv, mid_mv, sd_mv, sd_mv, sd_mv]
theorem turn_mv {t : List Int} (h : t.length = 18) (i k : Int) : turnL (mvT t i k) = mvT (turnL t) i k := by
  obtain ⟨a, b, c⟩ := sp_sp0 (sp_len h 0 (by omega)) (sp_len h 2 (by omega)) (sp_len h 1 (by omega))
  have e : turnL t = sp t 0 ++ sp t 2 ++ sp t 1 := rfl
  unfold mvT
  rw [e, a, b, c]
  rfl
theorem turned_mv {t : List Int} (h : t.length = 18) (i k : Int) (hb : turnedB t = true) : turnedB (mvT t i k) = true ∧ turnedV (mvT t i k) = mvT (turnedV t) i k := by
  have ea := area_mv h i k
  have hz : area t ≠ 0 := of_decide_eq_true hb
  refine ⟨decide_eq_true (by rw [ea]; exact hz), ?_⟩
  by_cases hp : 0 < area t
  · rw [turned_pos (by omega), turned_pos hp]
  · rw [turned_neg (by omega), turned_neg (by omega), turn_mv h]
theorem low_turned {t : List Int} (h : Low t) (hb : turnedB t = true) : Low (turnedV t) := by
  have hz : area t ≠ 0 := of_decide_eq_true hb
  by_cases hp : 0 < area t
  · rw [turned_pos hp]; exact h
  · rw [turned_neg (by omega)]
    obtain ⟨a, b, c⟩ := turn_g h.1
    obtain ⟨hl, h0, h1, h2⟩ := h
    have a0 := a 0 (by omega); have a1 := a 1 (by omega)
    have b0 := b 0 (by omega); have b1 := b 1 (by omega)
    have c0 := c 0 (by omega); have c1 := c 1 (by omega)
    exact ⟨turn_len hl, by rw [a0, a1]; exact h0, by rw [show (6 : Nat) = 6 + 0 from rfl, b0, b1]; exact h2, by rw [show (12 : Nat) = 12 + 0 from rfl, c0, c1]; exact h1⟩
/-- a covered pixel lies between its spots -/
theorem cov_in {t : List Int} (h : Tri t) {px py : Int} (hc : covT t px py = true) : 0 < area t ∧ 0 ≤ ed0 t (mid px) (mid py) ∧ 0 ≤ ed1 t (mid px) (mid py) ∧ 0 ≤ ed2 t (mid px) (mid py) := by
  rw [cov_f] at hc
  simp only [Bool.and_eq_true, decide_eq_true_eq] at hc
  obtain ⟨h0, h1, h2, h3⟩ := hc
  have F : ∀ e u, fOf e u = true → 0 ≤ e := fun e u hf => by
    unfold fOf at hf
    simp only [Bool.or_eq_true, Bool.and_eq_true, decide_eq_true_eq] at hf
    omega
  exact ⟨h0, F _ _ h1, F _ _ h2, F _ _ h3⟩
theorem bary_le {A e0 e1 e2 x0 x1 x2 x B : Int} (hA : 0 < A) (h0 : 0 ≤ e0) (h1 : 0 ≤ e1) (h2 : 0 ≤ e2) (hs : e0 + e1 + e2 = A) (hx : e0 * x0 + e1 * x1 + e2 * x2 = A * x) (b0 : x0 ≤ B) (b1 : x1 ≤ B) (b2 : x2 ≤ B) : x ≤ B := by
  have p0 := Int.mul_le_mul_of_nonneg_left b0 h0
  have p1 := Int.mul_le_mul_of_nonneg_left b1 h1
  have p2 := Int.mul_le_mul_of_nonneg_left b2 h2
  have e : e0 * B + e1 * B + e2 * B = A * B := by rw [← hs]; grind
  have hle : A * x ≤ A * B := by omega
  exact Int.le_of_mul_le_mul_left hle hA
theorem bary_x (t : List Int) (x y : Int) : ed0 t x y * g t 0 + ed1 t x y * g t 6 + ed2 t x y * g t 12 = area t * x := by unfold ed0 ed1 ed2 area sd; grind
theorem bary_y (t : List Int) (x y : Int) : ed0 t x y * g t 1 + ed1 t x y * g t 7 + ed2 t x y * g t 13 = area t * y := by unfold ed0 ed1 ed2 area sd; grind
theorem cov_box {t : List Int} (h : Tri t) {px py A B C D : Int} (hc : covT t px py = true) (h0 : A ≤ g t 0 ∧ g t 0 ≤ B ∧ C ≤ g t 1 ∧ g t 1 ≤ D) (h1 : A ≤ g t 6 ∧ g t 6 ≤ B ∧ C ≤ g t 7 ∧ g t 7 ≤ D) (h2 : A ≤ g t 12 ∧ g t 12 ≤ B ∧ C ≤ g t 13 ∧ g t 13 ≤ D) : A ≤ mid px ∧ mid px ≤ B ∧ C ≤ mid py ∧ mid py ≤ D := by
  obtain ⟨ha, e0, e1, e2⟩ := cov_in h hc
  have hs := ed_sum t (mid px) (mid py)
  have bx := bary_x t (mid px) (mid py)
  have b_y := bary_y t (mid px) (mid py)
  generalize ed0 t (mid px) (mid py) = u at *
  generalize ed1 t (mid px) (mid py) = v at *
  generalize ed2 t (mid px) (mid py) = z at *
  refine ⟨?_, bary_le ha e0 e1 e2 hs bx h0.2.1 h1.2.1 h2.2.1, ?_, bary_le ha e0 e1 e2 hs b_y h0.2.2.2 h1.2.2.2 h2.2.2.2⟩
  · have := bary_le (x := -mid px) (B := -A) (x0 := -g t 0) (x1 := -g t 6) (x2 := -g t 12) ha e0 e1 e2 hs (by simp only [Int.mul_neg]; omega) (by omega) (by omega) (by omega)
    omega
  · have := bary_le (x := -mid py) (B := -C) (x0 := -g t 1) (x1 := -g t 7) (x2 := -g t 13) ha e0 e1 e2 hs (by simp only [Int.mul_neg]; omega) (by omega) (by omega) (by omega)
    omega
/-! Two rows in order, with the same pixels, are one row -/
theorem sorted_eq {k : Int × Int → Int} : ∀ {l m : List (Int × Int)}, l.Pairwise (fun a b => k a < k b) → m.Pairwise (fun a b => k a < k b) → (∀ p, p ∈ l ↔ p ∈ m) → l = m
  | [], [], _, _, _ => rfl
  | [], q :: m, _, _, h => absurd ((h q).2 (List.mem_cons_self ..)) (by simp)
  | p :: l, [], _, _, h => absurd ((h p).1 (List.mem_cons_self ..)) (by simp)
  | p :: l, q :: m, hl, hm, h => by
    obtain ⟨h1, h2⟩ := List.pairwise_cons.1 hl
    obtain ⟨h3, h4⟩ := List.pairwise_cons.1 hm
    have e : p = q := by
      rcases List.mem_cons.1 ((h p).1 (List.mem_cons_self ..)) with e | hp
      · exact e
      · rcases List.mem_cons.1 ((h q).2 (List.mem_cons_self ..)) with e | hq
        · exact e.symm
        · have := h3 p hp
          have := h1 q hq
          omega
    subst e
    congr 1
    refine sorted_eq h2 h4 fun r => ⟨fun hr => ?_, fun hr => ?_⟩
    · rcases List.mem_cons.1 ((h r).1 (List.mem_cons_of_mem _ hr)) with e | hp
      · subst e
        have := h1 r hr
        omega
      · exact hp
    · rcases List.mem_cons.1 ((h r).2 (List.mem_cons_of_mem _ hr)) with e | hp
      · subst e
        have := h3 r hr
        omega
      · exact hp
theorem mem_frame32 {x y : Int} (hx : 0 ≤ x ∧ x < 32) (hy : 0 ≤ y ∧ y < 32) : (x, y) ∈ frameP 32 32 := by
  obtain ⟨i, rfl⟩ := Int.eq_ofNat_of_zero_le hx.1
  obtain ⟨j, rfl⟩ := Int.eq_ofNat_of_zero_le hy.1
  exact frame_has (w := 32) (h := 32) (by omega) (by omega) (by omega) (by omega)
theorem frameC_mv {t : List Int} (h : Low t) {i k : Int} (hi : 0 ≤ i ∧ i < 8) (hk : 0 ≤ k ∧ k < 8) : frameC (mvT t i k) 32 32 = (frameC t 32 32).map fun p => (p.1 + i, p.2 + k) := by
  by_cases hb : turnedB t = true
  · obtain ⟨b1, b2⟩ := turned_mv h.1 i k hb
    have hL := low_turned h hb
    refine sorted_eq (k := keyP) (frameC_sorted _ _ _) ?_ fun p => ?_
    · rw [List.pairwise_map]
      refine (frameC_sorted t 32 32).imp fun {a b} hab => ?_
      unfold keyP at hab ⊢
      simp only
      omega
    · rw [List.mem_map]
      constructor
      · intro hp
        obtain ⟨m1, -, m3⟩ := frameC_mem hp
        rw [b2] at m3
        obtain ⟨x, y, rfl, -, -, hx, hy⟩ := frame_mem m1
        have ht := mv_tri hL hi hk
        obtain ⟨e0, e1, e2, e3, e4, e5⟩ := mv_g hL.1 i k
        obtain ⟨hl, q0, q1, q2⟩ := hL
        have bx := cov_box ht m3 (A := 256 * i) (B := 5120 + 256 * i) (C := 256 * k) (D := 5120 + 256 * k) (by rw [e0, e1]; omega) (by rw [e2, e3]; omega) (by rw [e4, e5]; omega)
        simp only [mid] at bx
        refine ⟨((x : Int) - i, (y : Int) - k), ?_, by simp⟩
        unfold frameC
        rw [if_pos hb, List.mem_filter]
        refine ⟨mem_frame32 (by omega) (by omega), ?_⟩
        have := cov_mv hl i k ((x : Int) - i) ((y : Int) - k)
        rw [show (x : Int) - i + i = x by omega, show (y : Int) - k + k = y by omega] at this
        rw [← this]
        exact m3
      · rintro ⟨q, hq, rfl⟩
        obtain ⟨m1, -, m3⟩ := frameC_mem hq
        obtain ⟨x, y, rfl, -, -, hx, hy⟩ := frame_mem m1
        obtain ⟨hl, q0, q1, q2⟩ := id hL
        have bx := cov_box (low_tri hL) m3 (A := 0) (B := 5120) (C := 0) (D := 5120) (by omega) (by omega) (by omega)
        simp only [mid] at bx
        unfold frameC
        rw [if_pos b1, b2, List.mem_filter]
        refine ⟨mem_frame32 (by simp only; omega) (by simp only; omega), ?_⟩
        simp only
        rw [cov_mv hl]
        exact m3
  · have hb' : turnedB t = false := by simpa using hb
    have b1 : turnedB (mvT t i k) = false := by
      rw [← hb']
      unfold turnedB
      rw [area_mv h.1]
    unfold frameC
    rw [if_neg hb, if_neg (by rw [b1]; decide)]
    rfl
theorem moves_at {t : List Int} (h : Low t) {i k : Int} (hi : 0 ≤ i ∧ i < 8) (hk : 0 ≤ k ∧ k < 8) {j : Nat} (hj : j < (frameC t 32 32).length) :
    ∃ px py e0 e1 e2 : Int, (0 ≤ px ∧ px < 32) ∧ (0 ≤ py ∧ py < 32) ∧ at_ (pixV t 32 32) j = [px, py, e0, e1, e2] ∧ at_ (pixV (mvT t i k) 32 32) j = [px + i, py + k, e0, e1, e2] := by
  have hm := frameC_mem (List.getElem_mem hj)
  obtain ⟨x, y, e, -, -, hx, hy⟩ := frame_mem hm.1
  have hj2 : j < (frameC (mvT t i k) 32 32).length := by rw [frameC_mv h hi hk, List.length_map]; exact hj
  refine ⟨x, y, ed0 (turnedV t) (mid x) (mid y), ed1 (turnedV t) (mid x) (mid y), ed2 (turnedV t) (mid x) (mid y), ⟨by omega, by omega⟩, ⟨by omega, by omega⟩, ?_, ?_⟩
  · rw [pix_at hj, e]
    rfl
  · rw [pix_at hj2]
    have e2 : (frameC (mvT t i k) 32 32)[j] = ((x : Int) + i, (y : Int) + k) := by
      simp only [frameC_mv h hi hk, List.getElem_map, e]
    rw [e2, (turned_mv h.1 i k hm.2.1).2]
    exact hit_mv (turned_len h.1) i k x y
end Go.Proofs.Ythkfnjblmilgnaa.EdT
