/-
  Two triangles with an edge in common: the mathematics.
-/
import Derived.Test.YthkfnjblmilgnaaEdQ
namespace Go.Proofs.Ythkfnjblmilgnaa.EdS
open Go.RowKit Rd Go.Proofs.Ythkfnjblmilgnaa.Row Mid EdM EdA EdB EdF EdE EdG EdN EdI EdFf EdP EdQ
set_option linter.unusedVariables false
set_option linter.unusedSimpArgs false
set_option maxRecDepth 10000
def quadL (a b c d : List Int) : List Int := a ++ b ++ c ++ d
def qT (Q : List Int) (k : Nat) : List Int := sp Q k ++ sp Q ((k + 1) % 4) ++ sp Q ((k + 2) % 4)
def sT (a b c d : List Int) : Nat → List Int
  | 0 => a ++ b ++ c
  | 1 => a ++ c ++ d
  | 2 => b ++ c ++ d
  | _ => b ++ d ++ a
def lL (a b c d : List Int) : List Int := (a ++ b ++ c) ++ (a ++ c ++ d) ++ (b ++ c ++ d) ++ (b ++ d ++ a)
theorem quad_sp {a b c d : List Int} (ha : a.length = 6) (hb : b.length = 6) (hc : c.length = 6) (hd : d.length = 6) : sp (quadL a b c d) 0 = a ∧ sp (quadL a b c d) 1 = b ∧ sp (quadL a b c d) 2 = c ∧ sp (quadL a b c d) 3 = d := by
  obtain ⟨a0, a1, a2, a3, a4, a5, rfl⟩ := len6 ha
  obtain ⟨b0, b1, b2, b3, b4, b5, rfl⟩ := len6 hb
  obtain ⟨c0, c1, c2, c3, c4, c5, rfl⟩ := len6 hc
  obtain ⟨d0, d1, d2, d3, d4, d5, rfl⟩ := len6 hd
  exact ⟨rfl, rfl, rfl, rfl⟩
theorem piece_l {a b c d : List Int} (ha : a.length = 6) (hb : b.length = 6) (hc : c.length = 6) (hd : d.length = 6) {k : Nat} (hk : k < 4) : piece (cs .i64 (lL a b c d)) (k * 18) 18 = cs .i64 (sT a b c d k) := by
  rw [piece_cs]
  congr 2
  obtain ⟨a0, a1, a2, a3, a4, a5, rfl⟩ := len6 ha
  obtain ⟨b0, b1, b2, b3, b4, b5, rfl⟩ := len6 hb
  obtain ⟨c0, c1, c2, c3, c4, c5, rfl⟩ := len6 hc
  obtain ⟨d0, d1, d2, d3, d4, d5, rfl⟩ := len6 hd
  have : k = 0 ∨ k = 1 ∨ k = 2 ∨ k = 3 := by omega
  rcases this with rfl | rfl | rfl | rfl <;> rfl
theorem three_g {x y z : List Int} (hx : x.length = 6) (hy : y.length = 6) (hz : z.length = 6) :
    g (x ++ y ++ z) 0 = g x 0 ∧ g (x ++ y ++ z) 1 = g x 1 ∧ g (x ++ y ++ z) 6 = g y 0 ∧ g (x ++ y ++ z) 7 = g y 1 ∧ g (x ++ y ++ z) 12 = g z 0 ∧ g (x ++ y ++ z) 13 = g z 1 := by
  obtain ⟨a0, a1, a2, a3, a4, a5, rfl⟩ := len6 hx
  obtain ⟨b0, b1, b2, b3, b4, b5, rfl⟩ := len6 hy
  obtain ⟨c0, c1, c2, c3, c4, c5, rfl⟩ := len6 hz
  exact ⟨rfl, rfl, rfl, rfl, rfl, rfl⟩
theorem area_g {x y z : List Int} (hx : x.length = 6) (hy : y.length = 6) (hz : z.length = 6) : area (x ++ y ++ z) = sd (g x 0) (g x 1) (g y 0) (g y 1) (g z 0) (g z 1) := by
  obtain ⟨h0, h1, h2, h3, h4, h5⟩ := three_g hx hy hz
  unfold area
  rw [h0, h1, h2, h3, h4, h5]
theorem cov_g {x y z : List Int} (hx : x.length = 6) (hy : y.length = 6) (hz : z.length = 6) (px py : Int) : covT (x ++ y ++ z) px py = cov (g x 0) (g x 1) (g y 0) (g y 1) (g z 0) (g z 1) (mid px) (mid py) := by
  obtain ⟨h0, h1, h2, h3, h4, h5⟩ := three_g hx hy hz
  unfold covT
  rw [h0, h1, h2, h3, h4, h5]
theorem tri_g {x y z : List Int} (hx : x.length = 6) (hy : y.length = 6) (hz : z.length = 6) (bx : Bd (g x 0) (g x 1)) (b_y : Bd (g y 0) (g y 1)) (bz : Bd (g z 0) (g z 1)) : Tri (x ++ y ++ z) := by
  obtain ⟨h0, h1, h2, h3, h4, h5⟩ := three_g hx hy hz
  refine ⟨by simp [hx, hy, hz], ?_, ?_, ?_⟩
  · rw [h0, h1]; exact bx
  · rw [h2, h3]; exact b_y
  · rw [h4, h5]; exact bz
theorem g_tri {x y z : List Int} (hx : x.length = 6) (hy : y.length = 6) (hz : z.length = 6) (h : smallB (x ++ y ++ z) = true) : Bd (g x 0) (g x 1) ∧ Bd (g y 0) (g y 1) ∧ Bd (g z 0) (g z 1) := by
  have hT := small_tri (by simp [hx, hy, hz]) h
  obtain ⟨h0, h1, h2, h3, h4, h5⟩ := three_g hx hy hz
  have b0 := hT.b0
  have b1 := hT.b1
  have b2 := hT.b2
  rw [h0, h1] at b0
  rw [h2, h3] at b1
  rw [h4, h5] at b2
  exact ⟨b0, b1, b2⟩
theorem shares_math {a b c d Q : List Int} (ha : a.length = 6) (hb : b.length = 6) (hc : c.length = 6) (hd : d.length = 6) (eQ : quadL a b c d = Q) (h : ∀ j, j < 4 → smallB (qT Q j) = true ∧ 0 < area (qT Q j)) :
    (∀ k, k < 4 → Tri (sT a b c d k)) ∧ ∀ m, m < 1024 →
      cnt 32 (frameC (sT a b c d 0) 32 32 ++ frameC (sT a b c d 1) 32 32) m = cnt 32 (frameC (sT a b c d 2) 32 32 ++ frameC (sT a b c d 3) 32 32) m ∧ cnt 32 (frameC (sT a b c d 0) 32 32 ++ frameC (sT a b c d 1) 32 32) m ≤ 1 ∧ 0 ≤ cnt 32 (frameC (sT a b c d 0) 32 32 ++ frameC (sT a b c d 1) 32 32) m := by
  subst eQ
  obtain ⟨q0, q1, q2, q3⟩ := quad_sp ha hb hc hd
  have h0 := h 0 (by omega)
  have h1 := h 1 (by omega)
  have h2 := h 2 (by omega)
  have h3 := h 3 (by omega)
  have e0 : qT (quadL a b c d) 0 = a ++ b ++ c := by show sp _ 0 ++ sp _ 1 ++ sp _ 2 = _; rw [q0, q1, q2]
  have e1 : qT (quadL a b c d) 1 = b ++ c ++ d := by show sp _ 1 ++ sp _ 2 ++ sp _ 3 = _; rw [q1, q2, q3]
  have e2 : qT (quadL a b c d) 2 = c ++ d ++ a := by show sp _ 2 ++ sp _ 3 ++ sp _ 0 = _; rw [q2, q3, q0]
  have e3 : qT (quadL a b c d) 3 = d ++ a ++ b := by show sp _ 3 ++ sp _ 0 ++ sp _ 1 = _; rw [q3, q0, q1]
  rw [e0] at h0
  rw [e1] at h1
  rw [e2] at h2
  rw [e3] at h3
  obtain ⟨Ba, Bb, Bc⟩ := g_tri ha hb hc h0.1
  obtain ⟨-, -, Bd'⟩ := g_tri hb hc hd h1.1
  have A0 := h0.2
  have A1 := h1.2
  have A2 := h2.2
  have A3 := h3.2
  rw [area_g ha hb hc] at A0
  rw [area_g hb hc hd] at A1
  rw [area_g hc hd ha] at A2
  rw [area_g hd ha hb] at A3
  refine ⟨fun k hk => ?_, fun m hm => ?_⟩
  · have : k = 0 ∨ k = 1 ∨ k = 2 ∨ k = 3 := by omega
    rcases this with rfl | rfl | rfl | rfl
    · exact tri_g ha hb hc Ba Bb Bc
    · exact tri_g ha hc hd Ba Bc Bd'
    · exact tri_g hb hc hd Bb Bc Bd'
    · exact tri_g hb hd ha Bb Bd' Ba
  · obtain ⟨s1, s2⟩ := share_all (mid ((m % 32 : Nat) : Int)) (mid ((m / 32 : Nat) : Int)) Ba Bb Bc Bd' A0 A1 A2 A3
    have C : ∀ x y z : List Int, x.length = 6 → y.length = 6 → z.length = 6 → 0 ≤ sd (g x 0) (g x 1) (g y 0) (g y 1) (g z 0) (g z 1) → cnt 32 (frameC (x ++ y ++ z) 32 32) m = nb (cov (g x 0) (g x 1) (g y 0) (g y 1) (g z 0) (g z 1) (mid ((m % 32 : Nat) : Int)) (mid ((m / 32 : Nat) : Int))) := fun x y z hx hy hz hp => by
      have e := cnt_cov (w := 32) (h := 32) (i := m % 32) (j := m / 32) (by omega) (by omega) (by omega) (by omega) (x ++ y ++ z)
      rw [show m / 32 * 32 + m % 32 = m by omega, turned_nonneg (by rw [area_g hx hy hz]; exact hp), cov_g hx hy hz] at e
      exact e
    have r1 : 0 ≤ sd (g a 0) (g a 1) (g c 0) (g c 1) (g d 0) (g d 1) := by
      have : sd (g a 0) (g a 1) (g c 0) (g c 1) (g d 0) (g d 1) = sd (g c 0) (g c 1) (g d 0) (g d 1) (g a 0) (g a 1) := by unfold sd; grind
      omega
    have r2 : 0 ≤ sd (g b 0) (g b 1) (g d 0) (g d 1) (g a 0) (g a 1) := by
      have : sd (g b 0) (g b 1) (g d 0) (g d 1) (g a 0) (g a 1) = sd (g d 0) (g d 1) (g a 0) (g a 1) (g b 0) (g b 1) := by unfold sd; grind
      omega
    rw [cnt_app, cnt_app]
    show cnt 32 (frameC (a ++ b ++ c) 32 32) m + cnt 32 (frameC (a ++ c ++ d) 32 32) m = cnt 32 (frameC (b ++ c ++ d) 32 32) m + cnt 32 (frameC (b ++ d ++ a) 32 32) m ∧ cnt 32 (frameC (a ++ b ++ c) 32 32) m + cnt 32 (frameC (a ++ c ++ d) 32 32) m ≤ 1 ∧ _ ≤ cnt 32 (frameC (a ++ b ++ c) 32 32) m + cnt 32 (frameC (a ++ c ++ d) 32 32) m
    rw [C a b c ha hb hc (by omega), C a c d ha hc hd r1, C b c d hb hc hd (by omega), C b d a hb hd ha r2]
    omega
/-! The pixels of the first so many, for either count -/
def dN (a b c d : List Int) (k : Nat) : List (Int × Int) := (List.range (min k 2)).flatMap fun i => frameC (sT a b c d i) 32 32
def dM (a b c d : List Int) (k : Nat) : List (Int × Int) := (List.range (k - 2)).flatMap fun i => frameC (sT a b c d (i + 2)) 32 32
theorem dN_lo {a b c d : List Int} {k : Nat} (h : k < 2) : dN a b c d (k + 1) = dN a b c d k ++ frameC (sT a b c d k) 32 32 ∧ dM a b c d (k + 1) = dM a b c d k := by
  have : k = 0 ∨ k = 1 := by omega
  rcases this with rfl | rfl <;> exact ⟨by simp [dN, List.range_succ], by simp [dM]⟩
theorem dN_hi {a b c d : List Int} {k : Nat} (h : 2 ≤ k) (h4 : k < 4) : dM a b c d (k + 1) = dM a b c d k ++ frameC (sT a b c d k) 32 32 ∧ dN a b c d (k + 1) = dN a b c d k := by
  have : k = 2 ∨ k = 3 := by omega
  rcases this with rfl | rfl <;> exact ⟨by simp [dM, List.range_succ], by simp [dN]⟩
theorem d_four (a b c d : List Int) : dN a b c d 4 = frameC (sT a b c d 0) 32 32 ++ frameC (sT a b c d 1) 32 32 ∧ dM a b c d 4 = frameC (sT a b c d 2) 32 32 ++ frameC (sT a b c d 3) 32 32 := by
  exact ⟨by simp [dN, List.range_succ], by simp [dM, List.range_succ]⟩
theorem d_len (a b c d : List Int) (k : Nat) (hk : k ≤ 4) : (dN a b c d k).length ≤ 2048 ∧ (dM a b c d k).length ≤ 2048 := by
  have F := fun i => frameC_small (sT a b c d i) 32 32
  have := F 0; have := F 1; have := F 2; have := F 3
  have : k = 0 ∨ k = 1 ∨ k = 2 ∨ k = 3 ∨ k = 4 := by omega
  rcases this with rfl | rfl | rfl | rfl | rfl <;> simp [dN, dM, List.range_succ] <;> omega
theorem d_bd {a b c d : List Int} {k n j : Nat} (hk : k ≤ 4) (T : List Int) : (0 ≤ cnt 32 (dN a b c d k ++ (frameC T 32 32).take j) n ∧ cnt 32 (dN a b c d k ++ (frameC T 32 32).take j) n ≤ 5120) ∧ (0 ≤ cnt 32 (dM a b c d k ++ (frameC T 32 32).take j) n ∧ cnt 32 (dM a b c d k ++ (frameC T 32 32).take j) n ≤ 5120) := by
  have h1 := cnt_bd 32 (dN a b c d k ++ (frameC T 32 32).take j) n
  have h2 := cnt_bd 32 (dM a b c d k ++ (frameC T 32 32).take j) n
  rw [List.length_append] at h1 h2
  have := d_len a b c d k hk
  have := frameC_small T 32 32
  have := List.length_take_le' j (frameC T 32 32)
  omega
end Go.Proofs.Ythkfnjblmilgnaa.EdS
