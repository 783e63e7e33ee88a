/-
  Which pixels a triangle covers: what the laws want.
-/
import Derived.Test.YthkfnjblmilgnaaEdM
namespace Go.Proofs.Ythkfnjblmilgnaa.EdN
open EdM
set_option linter.unusedVariables false
set_option linter.unusedSimpArgs false
set_option maxRecDepth 10000
/-- those of a frame that are covered -/
def frameC (t : List Int) (w h : Int) : List (Int × Int) := if turnedB t = true then (frameP w h).filter fun p => covT (turnedV t) p.1 p.2 else []
theorem filterMap_hit (u : List Int) (l : List (Int × Int)) : l.filterMap (hitO u) = (l.filter fun p => covT u p.1 p.2).map fun p => hitL u p.1 p.2 := by
  induction l with
  | nil => rfl
  | cons p l ih =>
    by_cases h : covT u p.1 p.2 = true
    · rw [List.filterMap_cons_some (b := hitL u p.1 p.2) (by unfold hitO; rw [if_pos h]), ih]
      simp [List.filter_cons, h]
    · rw [List.filterMap_cons_none (by unfold hitO; rw [if_neg h]), ih]
      simp [List.filter_cons, h]
theorem pix_map (t : List Int) (w h : Int) : pixV t w h = (frameC t w h).map fun p => hitL (turnedV t) p.1 p.2 := by
  unfold pixV frameC
  split
  · exact filterMap_hit _ _
  · rfl
def rotL (t : List Int) : List Int := sp t 1 ++ sp t 2 ++ sp t 0
theorem rot_len {t : List Int} (h : t.length = 18) : (rotL t).length = 18 := by simp [rotL, sp, h]
theorem rot_g {t : List Int} (h : t.length = 18) : (∀ j, j < 6 → g (rotL t) j = g t (6 + j)) ∧ (∀ j, j < 6 → g (rotL t) (6 + j) = g t (12 + j)) ∧ (∀ j, j < 6 → g (rotL t) (12 + j) = g t j) := by
  have l0 := sp_len h 0 (by omega)
  have l1 := sp_len h 1 (by omega)
  have l2 := sp_len h 2 (by omega)
  refine ⟨fun j hj => ?_, fun j hj => ?_, fun j hj => ?_⟩
  · unfold rotL
    rw [g_app (by rw [List.length_append]; omega), g_app (by omega), sp_g _ _ _ hj]
  · unfold rotL
    rw [g_app (by rw [List.length_append]; omega), g_app2 (by omega), l1, Nat.add_sub_cancel_left, sp_g _ _ _ hj]
  · unfold rotL
    rw [g_app2 (by rw [List.length_append]; omega), List.length_append, l1, l2, Nat.add_sub_cancel_left, sp_g _ _ _ hj, Nat.mul_zero, Nat.zero_add]
theorem _root_.Go.Proofs.Ythkfnjblmilgnaa.EdM.Tri.rot {t : List Int} (h : Tri t) : Tri (rotL t) := by
  obtain ⟨a, b, c⟩ := rot_g h.len
  have := a 0 (by omega); have := a 1 (by omega)
  have := b 0 (by omega); have := b 1 (by omega)
  have := c 0 (by omega); have := c 1 (by omega)
  refine ⟨rot_len h.len, ?_, ?_, ?_⟩ <;> simp_all [h.b0, h.b1, h.b2]
theorem cov_rot (ax ay bx by_ cx cy x y : Int) : cov bx by_ cx cy ax ay x y = cov ax ay bx by_ cx cy x y := by
  unfold cov
  rw [sd_rot]
  generalize decide (0 < sd ax ay bx by_ cx cy) = p
  generalize hf cx cy ax ay x y = q
  generalize hf ax ay bx by_ x y = r
  generalize hf bx by_ cx cy x y = s
  cases p <;> cases q <;> cases r <;> cases s <;> rfl
theorem covT_rot {t : List Int} (h : t.length = 18) (x y : Int) : covT (rotL t) x y = covT t x y := by
  obtain ⟨a, b, c⟩ := rot_g h
  unfold covT
  rw [a 0 (by omega), a 1 (by omega), b 0 (by omega), b 1 (by omega), c 0 (by omega), c 1 (by omega)]
  exact cov_rot _ _ _ _ _ _ _ _
theorem area_rot {t : List Int} (h : t.length = 18) : area (rotL t) = area t := by
  obtain ⟨a, b, c⟩ := rot_g h
  unfold area
  rw [a 0 (by omega), a 1 (by omega), b 0 (by omega), b 1 (by omega), c 0 (by omega), c 1 (by omega)]
  exact sd_rot _ _ _ _ _ _
theorem turned_pos {t : List Int} (h : 0 < area t) : turnedV t = t := by unfold turnedV; rw [if_pos h]
theorem turned_neg {t : List Int} (h : area t < 0) : turnedV t = turnL t := by unfold turnedV; rw [if_neg (by omega), if_pos h]
theorem sp_sp0 {a b c : List Int} (ha : a.length = 6) (hb : b.length = 6) (hc : c.length = 6) : sp (a ++ b ++ c) 0 = a ∧ sp (a ++ b ++ c) 1 = b ∧ sp (a ++ b ++ c) 2 = c := by
  refine ⟨?_, ?_, ?_⟩
  · simp [sp, List.append_assoc, List.take_append, ha]
  · simp [sp, List.append_assoc, List.take_append, List.drop_append, ha, hb]
  · simp [sp, List.append_assoc, List.take_append, List.drop_append, ha, hb, hc, List.drop_eq_nil_of_le (show a.length ≤ 12 by omega), List.take_of_length_le (show c.length ≤ 6 by omega)]
theorem three_sp {t : List Int} (h : t.length = 18) : sp t 0 ++ sp t 1 ++ sp t 2 = t := by
  simp only [sp, Nat.mul_zero, List.drop_zero]
  have e1 : t = t.take 6 ++ (t.drop 6) := (List.take_append_drop 6 t).symm
  have e2 : t.drop 6 = (t.drop 6).take 6 ++ (t.drop 6).drop 6 := (List.take_append_drop 6 _).symm
  rw [List.drop_drop] at e2
  have e3 : (t.drop 12).take 6 = t.drop 12 := List.take_of_length_le (by simp [h])
  show t.take 6 ++ (t.drop 6).take 6 ++ (t.drop 12).take 6 = t
  rw [e3, List.append_assoc, ← e2, ← e1]
theorem turn_turn {t : List Int} (h : t.length = 18) : turnL (turnL t) = t := by
  obtain ⟨a, b, c⟩ := sp_sp0 (sp_len h 0 (by omega)) (sp_len h 2 (by omega)) (sp_len h 1 (by omega))
  have e : turnL t = sp t 0 ++ sp t 2 ++ sp t 1 := rfl
  rw [show turnL (turnL t) = sp (turnL t) 0 ++ sp (turnL t) 2 ++ sp (turnL t) 1 from rfl, e, a, b, c]
  exact three_sp h
theorem pix_turn {t : List Int} (h : t.length = 18) (w q : Int) : pixV (turnL t) w q = pixV t w q := by
  have e := area_turn h
  have hb : turnedB (turnL t) = turnedB t := by unfold turnedB; rw [e]; congr 1; exact propext ⟨fun a => by omega, fun a => by omega⟩
  have hv : turnedB t = true → turnedV (turnL t) = turnedV t := fun hb => by
    have hz : area t ≠ 0 := of_decide_eq_true hb
    by_cases hp : 0 < area t
    · rw [turned_neg (by omega), turned_pos hp, turn_turn h]
    · rw [turned_pos (by omega), turned_neg (by omega)]
  unfold pixV
  rw [hb]
  split
  · rename_i hb
    rw [hv hb]
  · rfl
theorem cov_turned_rot {t : List Int} (h : t.length = 18) (hb : turnedB t = true) (x y : Int) : covT (turnedV (rotL t)) x y = covT (turnedV t) x y := by
  have hz : area t ≠ 0 := of_decide_eq_true hb
  have ea := area_rot h
  by_cases hp : 0 < area t
  · rw [turned_pos (by omega), turned_pos hp, covT_rot h]
  · rw [turned_neg (by omega), turned_neg (by omega)]
    have e : turnL (rotL t) = rotL (rotL (turnL t)) := by
      obtain ⟨a, b, c⟩ := sp_sp0 (sp_len h 1 (by omega)) (sp_len h 2 (by omega)) (sp_len h 0 (by omega))
      obtain ⟨a', b', c'⟩ := sp_sp0 (sp_len h 0 (by omega)) (sp_len h 2 (by omega)) (sp_len h 1 (by omega))
      obtain ⟨a2, b2, c2⟩ := sp_sp0 (sp_len h 2 (by omega)) (sp_len h 1 (by omega)) (sp_len h 0 (by omega))
      have e1 : rotL (turnL t) = sp t 2 ++ sp t 1 ++ sp t 0 := by
        show sp (turnL t) 1 ++ sp (turnL t) 2 ++ sp (turnL t) 0 = _
        rw [show turnL t = sp t 0 ++ sp t 2 ++ sp t 1 from rfl, a', b', c']
      show sp (rotL t) 0 ++ sp (rotL t) 2 ++ sp (rotL t) 1 = sp (rotL (turnL t)) 1 ++ sp (rotL (turnL t)) 2 ++ sp (rotL (turnL t)) 0
      rw [e1, show rotL t = sp t 1 ++ sp t 2 ++ sp t 0 from rfl, a, b, c, a2, b2, c2]
    rw [e, covT_rot (rot_len (turn_len h)), covT_rot (turn_len h)]
theorem frameC_rot {t : List Int} (h : t.length = 18) (w q : Int) : frameC (rotL t) w q = frameC t w q := by
  have hb : turnedB (rotL t) = turnedB t := by unfold turnedB; rw [area_rot h]
  unfold frameC
  rw [hb]
  split
  · rename_i hb
    congr 1
    funext p
    exact cov_turned_rot h hb _ _
  · rfl
theorem ed_sum (t : List Int) (x y : Int) : ed0 t x y + ed1 t x y + ed2 t x y = area t := by
  unfold ed0 ed1 ed2 area sd
  grind
theorem area_turned {t : List Int} (h : t.length = 18) (hb : turnedB t = true) : area (turnedV t) = max (area t) (-area t) := by
  have hz : area t ≠ 0 := of_decide_eq_true hb
  by_cases hp : 0 < area t
  · rw [turned_pos hp]; omega
  · rw [turned_neg (by omega), area_turn h]; omega
/-! Row by row -/
def keyP (p : Int × Int) : Int := 32 * p.2 + p.1
theorem rows_sorted (w : Nat) (hw : w ≤ 32) : ∀ y : Nat, (rowsP w y).Pairwise (fun a b => keyP a < keyP b) ∧ ∀ p ∈ rowsP w y, keyP p < 32 * (y : Int)
  | 0 => ⟨List.Pairwise.nil, fun p hp => by cases hp⟩
  | y + 1 => by
    obtain ⟨h1, h2⟩ := rows_sorted w hw y
    have hl : (lineP w y).Pairwise (fun a b => keyP a < keyP b) := by
      unfold lineP
      rw [List.pairwise_map]
      refine List.Pairwise.imp ?_ List.pairwise_lt_range
      intro a b hab
      unfold keyP
      simp only
      omega
    have hm : ∀ p ∈ lineP w y, 32 * (y : Int) ≤ keyP p ∧ keyP p < 32 * ((y + 1 : Nat) : Int) := by
      intro p hp
      obtain ⟨i, hi, rfl⟩ := List.mem_map.1 hp
      have : i < w := by simpa using hi
      unfold keyP
      simp only
      omega
    refine ⟨?_, fun p hp => ?_⟩
    · rw [rowsP_succ, List.pairwise_append]
      exact ⟨h1, hl, fun a ha b hb => by have := h2 a ha; have := (hm b hb).1; omega⟩
    · rw [rowsP_succ, List.mem_append] at hp
      rcases hp with hp | hp
      · have := h2 p hp; omega
      · exact (hm p hp).2
theorem frame_sorted (w h : Int) : (frameP w h).Pairwise (fun a b => keyP a < keyP b) := by
  unfold frameP
  split
  · rename_i hb
    have := of_decide_eq_true hb
    exact (rows_sorted w.toNat (by omega) h.toNat).1
  · exact List.Pairwise.nil
theorem frameC_sorted (t : List Int) (w h : Int) : (frameC t w h).Pairwise (fun a b => keyP a < keyP b) := by
  unfold frameC
  split
  · exact (frame_sorted w h).filter _
  · exact List.Pairwise.nil
theorem frameC_mem {t : List Int} {w h : Int} {p : Int × Int} (hp : p ∈ frameC t w h) : p ∈ frameP w h ∧ turnedB t = true ∧ covT (turnedV t) p.1 p.2 = true := by
  unfold frameC at hp
  split at hp
  · rename_i hb
    obtain ⟨a, b⟩ := List.mem_filter.1 hp
    exact ⟨a, hb, b⟩
  · cases hp
theorem pix_len (t : List Int) (w h : Int) : (pixV t w h).length = (frameC t w h).length := by rw [pix_map, List.length_map]
end Go.Proofs.Ythkfnjblmilgnaa.EdN
