/-
  Which pixels a triangle covers: the mathematics.
-/
import Derived.WalkKit
namespace Go.Proofs.Ythkfnjblmilgnaa.EdM
set_option linter.unusedVariables false
set_option linter.unusedSimpArgs false
set_option maxRecDepth 10000
def sd (ax ay bx by_ x y : Int) : Int := (bx - ax) * (y - ay) - (by_ - ay) * (x - ax)
def ul (fx fy tx ty : Int) : Bool := decide (ty < fy) || (decide (ty = fy) && decide (fx < tx))
def hf (ax ay bx by_ x y : Int) : Bool := decide (0 < sd ax ay bx by_ x y) || (decide (sd ax ay bx by_ x y = 0) && ul ax ay bx by_)
def cov (ax ay bx by_ cx cy x y : Int) : Bool := decide (0 < sd ax ay bx by_ cx cy) && (hf bx by_ cx cy x y && (hf cx cy ax ay x y && hf ax ay bx by_ x y))
/-- moved aside a very little, so that it lies on no edge -/
def ps (ax ay bx by_ x y : Int) : Int := 4294967296 * sd ax ay bx by_ x y - 65536 * (by_ - ay) + (bx - ax)
def Bd (x y : Int) : Prop := 0 ≤ x ∧ x ≤ 16384 ∧ 0 ≤ y ∧ y ≤ 16384
theorem hf_iff {ax ay bx by_ : Int} (x y : Int) (ha : Bd ax ay) (hb : Bd bx by_) : hf ax ay bx by_ x y = decide (0 < ps ax ay bx by_ x y) := by
  obtain ⟨a0, a1, a2, a3⟩ := ha
  obtain ⟨b0, b1, b2, b3⟩ := hb
  unfold hf ps ul
  generalize sd ax ay bx by_ x y = s
  rw [Bool.eq_iff_iff]
  simp only [Bool.or_eq_true, Bool.and_eq_true, decide_eq_true_eq]
  constructor
  · intro h; omega
  · intro h
    have : 0 < s ∨ s = 0 ∨ s ≤ -1 := by omega
    omega
theorem ps_anti (ax ay bx by_ x y : Int) : ps bx by_ ax ay x y = - ps ax ay bx by_ x y := by
  unfold ps sd; grind
theorem ps_sum (ax ay bx by_ cx cy x y : Int) : ps ax ay bx by_ x y + ps bx by_ cx cy x y + ps cx cy ax ay x y = 4294967296 * sd ax ay bx by_ cx cy := by
  unfold ps sd; grind
theorem plu (ax ay bx by_ cx cy dx dy x y : Int) :
    sd ax ay bx by_ cx cy * ps cx cy dx dy x y = ps bx by_ cx cy x y * sd cx cy dx dy ax ay + ps cx cy ax ay x y * sd cx cy dx dy bx by_ := by
  unfold ps sd; grind
theorem sd_rot (ax ay bx by_ cx cy : Int) : sd bx by_ cx cy ax ay = sd ax ay bx by_ cx cy := by unfold sd; grind
theorem sd_swap (ax ay bx by_ cx cy : Int) : sd ax ay cx cy bx by_ = - sd ax ay bx by_ cx cy := by unfold sd; grind
/-- on a line's one side or its other -/
theorem ps_ne {ax ay bx by_ : Int} (x y : Int) (ha : Bd ax ay) (hb : Bd bx by_) (h : ps ax ay bx by_ x y = 0) : ax = bx ∧ ay = by_ := by
  obtain ⟨a0, a1, a2, a3⟩ := ha
  obtain ⟨b0, b1, b2, b3⟩ := hb
  unfold ps at h
  generalize sd ax ay bx by_ x y = s at h
  omega
theorem pos_of {a p : Int} (ha : 0 < a) (h : 0 < a * p) : 0 < p := by
  have h0 : 0 < p ∨ p ≤ 0 := by omega
  rcases h0 with h1 | h1
  · exact h1
  · have := Int.mul_nonneg (a := a) (b := -p) (by omega) (by omega)
    rw [Int.mul_neg] at this
    omega
/-- a point in a triangle is on the right side of the two sides beyond one of its edges -/
theorem beyond {ax ay bx by_ cx cy dx dy x y : Int} (h1 : 0 < sd ax ay bx by_ cx cy) (h2 : 0 < sd cx cy dx dy ax ay) (h3 : 0 < sd cx cy dx dy bx by_)
    (p1 : 0 < ps bx by_ cx cy x y) (p2 : 0 < ps cx cy ax ay x y) : 0 < ps cx cy dx dy x y := by
  refine pos_of h1 ?_
  rw [plu]
  have := Int.mul_pos p1 h2
  have := Int.mul_pos p2 h3
  omega
theorem beyond2 {ax ay bx by_ cx cy dx dy x y : Int} (h1 : 0 < sd ax ay bx by_ cx cy) (h2 : 0 < sd dx dy ax ay bx by_) (h3 : 0 < sd dx dy ax ay cx cy)
    (p1 : 0 < ps ax ay bx by_ x y) (p2 : 0 < ps cx cy ax ay x y) : 0 < ps dx dy ax ay x y := by
  refine pos_of h1 ?_
  have e : sd ax ay bx by_ cx cy * ps dx dy ax ay x y = ps ax ay bx by_ x y * sd dx dy ax ay cx cy + ps cx cy ax ay x y * sd dx dy ax ay bx by_ := by unfold ps sd; grind
  rw [e]
  have := Int.mul_pos p1 h3
  have := Int.mul_pos p2 h2
  omega
theorem cov_iff {ax ay bx by_ cx cy : Int} (x y : Int) (ha : Bd ax ay) (hb : Bd bx by_) (hc : Bd cx cy) :
    cov ax ay bx by_ cx cy x y = true ↔ 0 < sd ax ay bx by_ cx cy ∧ 0 < ps bx by_ cx cy x y ∧ 0 < ps cx cy ax ay x y ∧ 0 < ps ax ay bx by_ x y := by
  unfold cov
  rw [hf_iff _ _ hb hc, hf_iff _ _ hc ha, hf_iff _ _ ha hb]
  simp only [Bool.and_eq_true, decide_eq_true_eq]
def nb (b : Bool) : Nat := if b then 1 else 0
theorem share_two {ax ay bx by_ cx cy dx dy : Int} (x y : Int) (ha : Bd ax ay) (hb : Bd bx by_) (hc : Bd cx cy) (hd : Bd dx dy)
    (h1 : 0 < sd ax ay bx by_ cx cy) (h2 : 0 < sd bx by_ cx cy dx dy) (h3 : 0 < sd cx cy dx dy ax ay) (h4 : 0 < sd dx dy ax ay bx by_) :
    nb (cov ax ay bx by_ cx cy x y) + nb (cov ax ay cx cy dx dy x y) =
      nb (decide (0 < ps ax ay bx by_ x y) && (decide (0 < ps bx by_ cx cy x y) && (decide (0 < ps cx cy dx dy x y) && decide (0 < ps dx dy ax ay x y)))) := by
  have e1 := cov_iff x y ha hb hc
  have e2 := cov_iff x y ha hc hd
  have a1 := ps_anti ax ay cx cy x y
  have r3 : sd ax ay cx cy dx dy = sd cx cy dx dy ax ay := by unfold sd; grind
  have r2 : sd cx cy dx dy bx by_ = sd bx by_ cx cy dx dy := by unfold sd; grind
  have r4 : sd dx dy ax ay cx cy = sd cx cy dx dy ax ay := by unfold sd; grind
  have r1 : sd cx cy ax ay bx by_ = sd ax ay bx by_ cx cy := by unfold sd; grind
  have r5 : sd ax ay bx by_ dx dy = sd dx dy ax ay bx by_ := by unfold sd; grind
  have r6 : sd ax ay cx cy dx dy = sd cx cy dx dy ax ay := by unfold sd; grind
  have r7 : sd bx by_ cx cy ax ay = sd ax ay bx by_ cx cy := by unfold sd; grind
  have B1 : 0 < ps bx by_ cx cy x y → 0 < ps cx cy ax ay x y → 0 < ps cx cy dx dy x y := beyond h1 h3 (by rw [r2]; exact h2)
  have B2 : 0 < ps ax ay bx by_ x y → 0 < ps cx cy ax ay x y → 0 < ps dx dy ax ay x y := beyond2 h1 h4 (by rw [r4]; exact h3)
  -- the other triangle: a, c, d; beyond ac lies b
  have B3 : 0 < ps dx dy ax ay x y → 0 < ps ax ay cx cy x y → 0 < ps ax ay bx by_ x y := fun p q =>
    beyond (ax := cx) (ay := cy) (bx := dx) (by_ := dy) (cx := ax) (cy := ay) (dx := bx) (dy := by_) h3 h1 (by rw [r5]; exact h4) p q
  have B4 : 0 < ps cx cy dx dy x y → 0 < ps ax ay cx cy x y → 0 < ps bx by_ cx cy x y := fun p q =>
    beyond2 (ax := cx) (ay := cy) (bx := dx) (by_ := dy) (cx := ax) (cy := ay) (dx := bx) (dy := by_) h3 h2 (by rw [r7]; exact h1) p q
  have N := ps_ne (ax := cx) (ay := cy) (bx := ax) (by_ := ay) x y hc ha
  have hne : ¬ (cx = ax ∧ cy = ay) := by
    rintro ⟨rfl, rfl⟩
    have : sd cx cy bx by_ cx cy = 0 := by unfold sd; grind
    omega
  rw [r3] at e2
  generalize ps ax ay bx by_ x y = α at *
  generalize ps bx by_ cx cy x y = β at *
  generalize ps cx cy dx dy x y = γ at *
  generalize ps dx dy ax ay x y = δ at *
  generalize ps cx cy ax ay x y = ε at *
  generalize ps ax ay cx cy x y = ζ at *
  have hz : ε ≠ 0 := fun h => hne (N h)
  generalize cov ax ay bx by_ cx cy x y = p at *
  generalize cov ax ay cx cy dx dy x y = q at *
  clear hne N r1 r2 r3 r4 r5 r6 r7 ha hb hc hd
  have hsg : 0 < ε ∨ ε < 0 := by omega
  unfold nb
  by_cases c1 : 0 < α <;> by_cases c2 : 0 < β <;> by_cases c3 : 0 < γ <;> by_cases c4 : 0 < δ <;> rcases hsg with c5 | c5 <;>
    simp only [c1, c2, c3, c4, decide_true, decide_false, Bool.and_true, Bool.and_false, Bool.true_and, Bool.false_and, if_true, if_false] <;>
    (have hp : p = true ↔ (0 < ε ∧ 0 < α ∧ 0 < β) := by rw [e1]; constructor <;> (intro h; omega)
     have hq : q = true ↔ (ε < 0 ∧ 0 < γ ∧ 0 < δ) := by rw [e2]; constructor <;> (intro h; omega)
     cases p <;> cases q <;> simp at hp hq ⊢ <;> omega)
theorem share_all {ax ay bx by_ cx cy dx dy : Int} (x y : Int) (ha : Bd ax ay) (hb : Bd bx by_) (hc : Bd cx cy) (hd : Bd dx dy)
    (h1 : 0 < sd ax ay bx by_ cx cy) (h2 : 0 < sd bx by_ cx cy dx dy) (h3 : 0 < sd cx cy dx dy ax ay) (h4 : 0 < sd dx dy ax ay bx by_) :
    nb (cov ax ay bx by_ cx cy x y) + nb (cov ax ay cx cy dx dy x y) = nb (cov bx by_ cx cy dx dy x y) + nb (cov bx by_ dx dy ax ay x y) ∧ nb (cov ax ay bx by_ cx cy x y) + nb (cov ax ay cx cy dx dy x y) ≤ 1 := by
  have e1 := share_two x y ha hb hc hd h1 h2 h3 h4
  have e2 := share_two x y hb hc hd ha h2 h3 h4 h1
  rw [e1, e2]
  generalize decide (0 < ps ax ay bx by_ x y) = p
  generalize decide (0 < ps bx by_ cx cy x y) = q
  generalize decide (0 < ps cx cy dx dy x y) = r
  generalize decide (0 < ps dx dy ax ay x y) = s
  cases p <;> cases q <;> cases r <;> cases s <;> decide
/-- a fan's triangle, seen from its point -/
theorem fan_cov {mx my px py qx qy : Int} (x y : Int) (hm : Bd mx my) (hp : Bd px py) (hq : Bd qx qy) (h : 0 < ps px py qx qy x y) :
    cov mx my px py qx qy x y = (decide (0 < ps mx my px py x y) && decide (ps mx my qx qy x y < 0)) := by
  have e := cov_iff x y hm hp hq
  have s := ps_sum mx my px py qx qy x y
  have a := ps_anti mx my qx qy x y
  rw [Bool.eq_iff_iff, e, Bool.and_eq_true, decide_eq_true_eq, decide_eq_true_eq]
  constructor
  · rintro ⟨-, -, h1, h2⟩; omega
  · rintro ⟨h1, h2⟩; omega
theorem signs {a b c d : Int} (hs : a + c = b + d) (hz : ¬ (0 ≤ a ∧ 0 ≤ b ∧ 0 ≤ c ∧ 0 ≤ d)) (hn : ¬ (a ≤ 0 ∧ b ≤ 0 ∧ c ≤ 0 ∧ d ≤ 0))
    (za : a = 0 → 0 < b ∧ d < 0) (zb : b = 0 → 0 < c ∧ a < 0) (zc : c = 0 → 0 < d ∧ b < 0) (zd : d = 0 → 0 < a ∧ c < 0) :
    nb (decide (0 < a) && decide (b < 0)) + nb (decide (0 < b) && decide (c < 0)) + nb (decide (0 < c) && decide (d < 0)) + nb (decide (0 < d) && decide (a < 0)) = 1 := by
  have T : ∀ z : Int, (0 < z ∧ ¬ z < 0 ∧ z ≠ 0) ∨ z = 0 ∨ (z < 0 ∧ ¬ 0 < z ∧ z ≠ 0) := fun z => by omega
  rcases T a with ⟨a1, a2, a3⟩ | a1 | ⟨a1, a2, a3⟩ <;> rcases T b with ⟨b1, b2, b3⟩ | b1 | ⟨b1, b2, b3⟩ <;> rcases T c with ⟨c1, c2, c3⟩ | c1 | ⟨c1, c2, c3⟩ <;> rcases T d with ⟨d1, d2, d3⟩ | d1 | ⟨d1, d2, d3⟩ <;>
    first
      | (exfalso; omega)
      | (simp only [a1, b1, c1, d1, a2, b2, c2, d2, decide_true, decide_false, Bool.and_true, Bool.and_false, Bool.true_and, Bool.false_and]; rfl)
      | (subst_vars; simp_all [nb]; done)
theorem sum_pos {l0 l1 l2 l3 s0 s1 s2 s3 : Int} (h0 : 0 < l0) (h1 : 0 < l1) (h2 : 0 < l2) (h3 : 0 < l3) (h : l0 * s0 + l1 * s1 + l2 * s2 + l3 * s3 = 0) (a0 : 0 ≤ s0) (a1 : 0 ≤ s1) (a2 : 0 ≤ s2) (a3 : 0 ≤ s3) : s0 = 0 := by
  have b0 := Int.mul_nonneg (Int.le_of_lt h0) a0
  have b1 := Int.mul_nonneg (Int.le_of_lt h1) a1
  have b2 := Int.mul_nonneg (Int.le_of_lt h2) a2
  have b3 := Int.mul_nonneg (Int.le_of_lt h3) a3
  have : l0 * s0 = 0 := by omega
  rcases Int.mul_eq_zero.1 this with e | e
  · omega
  · exact e
theorem fan_one {mx my W H x y : Int} (hW : 256 ≤ W ∧ W ≤ 8192) (hH : 256 ≤ H ∧ H ≤ 8192) (hm : 0 ≤ mx ∧ mx ≤ W ∧ 0 ≤ my ∧ my ≤ H) (hx : 128 ≤ x ∧ x + 128 ≤ W) (hy : 128 ≤ y ∧ y + 128 ≤ H) :
    nb (cov mx my 0 0 W 0 x y) + nb (cov mx my W 0 W H x y) + nb (cov mx my W H 0 H x y) + nb (cov mx my 0 H 0 0 x y) = 1 := by
  have bm : Bd mx my := ⟨by omega, by omega, by omega, by omega⟩
  have b0 : Bd 0 0 := ⟨by omega, by omega, by omega, by omega⟩
  have b1 : Bd W 0 := ⟨by omega, by omega, by omega, by omega⟩
  have b2 : Bd W H := ⟨by omega, by omega, by omega, by omega⟩
  have b3 : Bd 0 H := ⟨by omega, by omega, by omega, by omega⟩
  have p0 : 0 < ps 0 0 W 0 x y := by
    have e : ps 0 0 W 0 x y = W * (4294967296 * y + 1) := by unfold ps sd; grind
    rw [e]; exact Int.mul_pos (by omega) (by omega)
  have p1 : 0 < ps W 0 W H x y := by
    have e : ps W 0 W H x y = H * (4294967296 * (W - x) - 65536) := by unfold ps sd; grind
    rw [e]; exact Int.mul_pos (by omega) (by omega)
  have p2 : 0 < ps W H 0 H x y := by
    have e : ps W H 0 H x y = W * (4294967296 * (H - y) - 1) := by unfold ps sd; grind
    rw [e]; exact Int.mul_pos (by omega) (by omega)
  have p3 : 0 < ps 0 H 0 0 x y := by
    have e : ps 0 H 0 0 x y = H * (4294967296 * x + 65536) := by unfold ps sd; grind
    rw [e]; exact Int.mul_pos (by omega) (by omega)
  rw [fan_cov x y bm b0 b1 p0, fan_cov x y bm b1 b2 p1, fan_cov x y bm b2 b3 p2, fan_cov x y bm b3 b0 p3]
  have hs : ps mx my 0 0 x y + ps mx my W H x y = ps mx my W 0 x y + ps mx my 0 H x y := by unfold ps sd; grind
  have hl : ((4294967296 * (W - x) - 65536) * (4294967296 * (H - y) - 1)) * ps mx my 0 0 x y + ((4294967296 * x + 65536) * (4294967296 * (H - y) - 1)) * ps mx my W 0 x y + ((4294967296 * x + 65536) * (4294967296 * y + 1)) * ps mx my W H x y + ((4294967296 * (W - x) - 65536) * (4294967296 * y + 1)) * ps mx my 0 H x y = 0 := by
    unfold ps sd; grind
  have z0 := ps_ne x y bm b0
  have z1 := ps_ne x y bm b1
  have z2 := ps_ne x y bm b2
  have z3 := ps_ne x y bm b3
  have a0 := ps_anti 0 0 W 0 x y
  have a1 := ps_anti W 0 W H x y
  have a2 := ps_anti W H 0 H x y
  have a3 := ps_anti 0 H 0 0 x y
  have l0 : 0 < (4294967296 * (W - x) - 65536) * (4294967296 * (H - y) - 1) := Int.mul_pos (by omega) (by omega)
  have l1 : 0 < (4294967296 * x + 65536) * (4294967296 * (H - y) - 1) := Int.mul_pos (by omega) (by omega)
  have l2 : 0 < (4294967296 * x + 65536) * (4294967296 * y + 1) := Int.mul_pos (by omega) (by omega)
  have l3 : 0 < (4294967296 * (W - x) - 65536) * (4294967296 * y + 1) := Int.mul_pos (by omega) (by omega)
  have za : ps mx my 0 0 x y = 0 → 0 < ps mx my W 0 x y ∧ ps mx my 0 H x y < 0 := fun h => by
    obtain ⟨rfl, rfl⟩ := z0 h
    omega
  have zb : ps mx my W 0 x y = 0 → 0 < ps mx my W H x y ∧ ps mx my 0 0 x y < 0 := fun h => by
    obtain ⟨rfl, rfl⟩ := z1 h
    omega
  have zc : ps mx my W H x y = 0 → 0 < ps mx my 0 H x y ∧ ps mx my W 0 x y < 0 := fun h => by
    obtain ⟨rfl, rfl⟩ := z2 h
    omega
  have zd : ps mx my 0 H x y = 0 → 0 < ps mx my 0 0 x y ∧ ps mx my W H x y < 0 := fun h => by
    obtain ⟨rfl, rfl⟩ := z3 h
    omega
  generalize (4294967296 * (W - x) - 65536) * (4294967296 * (H - y) - 1) = m0 at *
  generalize (4294967296 * x + 65536) * (4294967296 * (H - y) - 1) = m1 at *
  generalize (4294967296 * x + 65536) * (4294967296 * y + 1) = m2 at *
  generalize (4294967296 * (W - x) - 65536) * (4294967296 * y + 1) = m3 at *
  refine signs hs (fun ⟨h0, h1, h2, h3⟩ => ?_) (fun ⟨h0, h1, h2, h3⟩ => ?_) za zb zc zd
  · have := za (sum_pos l0 l1 l2 l3 hl h0 h1 h2 h3)
    omega
  · have := za (by have := sum_pos (s0 := -ps mx my 0 0 x y) (s1 := -ps mx my W 0 x y) (s2 := -ps mx my W H x y) (s3 := -ps mx my 0 H x y) l0 l1 l2 l3 (by simp only [Int.mul_neg]; omega) (by omega) (by omega) (by omega) (by omega); omega)
    omega

/-! The numbers of three spots -/
def g (l : List Int) (i : Nat) : Int := l.getD i 0
def sp (t : List Int) (i : Nat) : List Int := (t.drop (6 * i)).take 6
theorem sp_len {t : List Int} (ht : t.length = 18) (i : Nat) (hi : i < 3) : (sp t i).length = 6 := by simp [sp, ht]; omega
theorem sp_g (t : List Int) (i j : Nat) (hj : j < 6) : g (sp t i) j = g t (6 * i + j) := by
  simp [g, sp, List.getD, List.getElem?_take, List.getElem?_drop, hj]
structure Tri (t : List Int) : Prop where
  len : t.length = 18
  b0 : Bd (g t 0) (g t 1)
  b1 : Bd (g t 6) (g t 7)
  b2 : Bd (g t 12) (g t 13)
abbrev SpL (l : List Int) : Prop := l.length = 6 ∧ Bd (g l 0) (g l 1)
theorem Tri.sp0 {t : List Int} (h : Tri t) : SpL (sp t 0) := ⟨sp_len h.len 0 (by omega), by rw [sp_g _ _ _ (by omega), sp_g _ _ _ (by omega)]; exact h.b0⟩
theorem Tri.sp1 {t : List Int} (h : Tri t) : SpL (sp t 1) := ⟨sp_len h.len 1 (by omega), by rw [sp_g _ _ _ (by omega), sp_g _ _ _ (by omega)]; exact h.b1⟩
theorem Tri.sp2 {t : List Int} (h : Tri t) : SpL (sp t 2) := ⟨sp_len h.len 2 (by omega), by rw [sp_g _ _ _ (by omega), sp_g _ _ _ (by omega)]; exact h.b2⟩
abbrev Pt (x : Int) : Prop := -32768 ≤ x ∧ x ≤ 32768
def ed0 (t : List Int) (x y : Int) : Int := sd (g t 6) (g t 7) (g t 12) (g t 13) x y
def ed1 (t : List Int) (x y : Int) : Int := sd (g t 12) (g t 13) (g t 0) (g t 1) x y
def ed2 (t : List Int) (x y : Int) : Int := sd (g t 0) (g t 1) (g t 6) (g t 7) x y
def area (t : List Int) : Int := sd (g t 0) (g t 1) (g t 6) (g t 7) (g t 12) (g t 13)
def ul0 (t : List Int) : Bool := ul (g t 6) (g t 7) (g t 12) (g t 13)
def ul1 (t : List Int) : Bool := ul (g t 12) (g t 13) (g t 0) (g t 1)
def ul2 (t : List Int) : Bool := ul (g t 0) (g t 1) (g t 6) (g t 7)
abbrev edL (t : List Int) (x y : Int) : List Int := [ed0 t x y, ed1 t x y, ed2 t x y]
def mid (p : Int) : Int := 256 * p + 128
def covT (t : List Int) (px py : Int) : Bool := cov (g t 0) (g t 1) (g t 6) (g t 7) (g t 12) (g t 13) (mid px) (mid py)
def hitL (t : List Int) (px py : Int) : List Int := [px, py, ed0 t (mid px) (mid py), ed1 t (mid px) (mid py), ed2 t (mid px) (mid py)]
def turnL (t : List Int) : List Int := sp t 0 ++ sp t 2 ++ sp t 1
def zeroL : List Int := List.replicate 18 0
def turnedV (t : List Int) : List Int := if 0 < area t then t else if area t < 0 then turnL t else zeroL
def turnedB (t : List Int) : Bool := decide (area t ≠ 0)
theorem g_app {a b : List Int} {i : Nat} (h : i < a.length) : g (a ++ b) i = g a i := by simp [g, List.getD, List.getElem?_append_left h]
theorem g_app2 {a b : List Int} {i : Nat} (h : a.length ≤ i) : g (a ++ b) i = g b (i - a.length) := by simp [g, List.getD, List.getElem?_append_right h]
theorem turn_len {t : List Int} (h : t.length = 18) : (turnL t).length = 18 := by simp [turnL, sp, h]
theorem turn_g {t : List Int} (h : t.length = 18) : (∀ j, j < 6 → g (turnL t) j = g t j) ∧ (∀ j, j < 6 → g (turnL t) (6 + j) = g t (12 + j)) ∧ (∀ j, j < 6 → g (turnL t) (12 + j) = g t (6 + j)) := by
  have l0 := sp_len h 0 (by omega)
  have l1 := sp_len h 1 (by omega)
  have l2 := sp_len h 2 (by omega)
  refine ⟨fun j hj => ?_, fun j hj => ?_, fun j hj => ?_⟩
  · unfold turnL
    rw [g_app (by rw [List.length_append]; omega), g_app (by omega), sp_g _ _ _ hj, Nat.mul_zero, Nat.zero_add]
  · unfold turnL
    rw [g_app (by rw [List.length_append]; omega), g_app2 (by omega), l0, Nat.add_sub_cancel_left, sp_g _ _ _ hj]
  · unfold turnL
    rw [g_app2 (by rw [List.length_append]; omega), List.length_append, l0, l2, Nat.add_sub_cancel_left, sp_g _ _ _ hj]
theorem Tri.turn {t : List Int} (h : Tri t) : Tri (turnL t) := by
  obtain ⟨a, b, c⟩ := turn_g h.len
  have := a 0 (by omega); have := a 1 (by omega)
  have := b 0 (by omega); have := b 1 (by omega)
  have := c 0 (by omega); have := c 1 (by omega)
  refine ⟨turn_len h.len, ?_, ?_, ?_⟩ <;> simp_all [h.b0, h.b1, h.b2]
theorem area_turn {t : List Int} (h : t.length = 18) : area (turnL t) = - area t := by
  obtain ⟨a, b, c⟩ := turn_g h
  unfold area
  rw [a 0 (by omega), a 1 (by omega), b 0 (by omega), b 1 (by omega), c 0 (by omega), c 1 (by omega)]
  exact sd_swap _ _ _ _ _ _
theorem Tri.turned {t : List Int} (h : Tri t) (hb : turnedB t = true) : Tri (turnedV t) ∧ 0 < area (turnedV t) := by
  have hb' : area t ≠ 0 := of_decide_eq_true hb
  unfold turnedV
  split
  · exact ⟨h, by assumption⟩
  · rw [if_pos (by omega)]
    exact ⟨h.turn, by rw [area_turn h.len]; omega⟩
theorem turned_len {t : List Int} (h : t.length = 18) : (turnedV t).length = 18 := by
  unfold turnedV
  split
  · exact h
  · split
    · exact turn_len h
    · rfl
/-! All pixels of a frame, row by row; those that are covered -/
def lineP (w y : Nat) : List (Int × Int) := (List.range w).map fun (x : Nat) => ((x : Int), (y : Int))
def rowsP (w : Nat) : Nat → List (Int × Int)
  | 0 => []
  | y + 1 => rowsP w y ++ lineP w y
def frameB (w h : Int) : Bool := decide (1 ≤ w ∧ w ≤ 32 ∧ 1 ≤ h ∧ h ≤ 32)
def frameP (w h : Int) : List (Int × Int) := if frameB w h = true then rowsP w.toNat h.toNat else []
def hitO (t : List Int) (p : Int × Int) : Option (List Int) := if covT t p.1 p.2 = true then some (hitL t p.1 p.2) else none
def pixV (t : List Int) (w h : Int) : List (List Int) := if turnedB t = true then (frameP w h).filterMap (hitO (turnedV t)) else []
theorem rowsP_succ (w y : Nat) : rowsP w (y + 1) = rowsP w y ++ lineP w y := rfl
theorem rowsP_len (w y : Nat) : (rowsP w y).length = y * w := by
  induction y with
  | zero => simp [rowsP]
  | succ y ih => rw [rowsP_succ, List.length_append, ih]; simp [lineP, Nat.succ_mul]
theorem rowsP_mem {w y : Nat} {p : Int × Int} : p ∈ rowsP w y → ∃ i j : Nat, p = ((i : Int), (j : Int)) ∧ i < w ∧ j < y := by
  induction y with
  | zero => intro h; cases h
  | succ y ih =>
    intro h
    rw [rowsP_succ, List.mem_append] at h
    rcases h with h | h
    · obtain ⟨i, j, e, h1, h2⟩ := ih h
      exact ⟨i, j, e, h1, by omega⟩
    · obtain ⟨i, hi, rfl⟩ := List.mem_map.1 h
      exact ⟨i, y, rfl, by simpa using hi, by omega⟩
theorem frame_mem {w h : Int} {p : Int × Int} (hp : p ∈ frameP w h) : ∃ i j : Nat, p = ((i : Int), (j : Int)) ∧ (i : Int) < w ∧ (j : Int) < h ∧ i < 32 ∧ j < 32 := by
  unfold frameP at hp
  split at hp
  · rename_i hb
    have := of_decide_eq_true hb
    obtain ⟨i, j, e, h1, h2⟩ := rowsP_mem hp
    exact ⟨i, j, e, by omega, by omega, by omega, by omega⟩
  · cases hp
theorem frame_small (w h : Int) : (frameP w h).length ≤ 1024 := by
  unfold frameP
  split
  · rename_i hb
    have := of_decide_eq_true hb
    rw [rowsP_len]
    have := Nat.mul_le_mul (show h.toNat ≤ 32 by omega) (show w.toNat ≤ 32 by omega)
    omega
  · simp
theorem pix_small (t : List Int) (w h : Int) : (pixV t w h).length ≤ 1024 := by
  unfold pixV
  split
  · have := List.length_filterMap_le (hitO (turnedV t)) (frameP w h)
    have := frame_small w h
    omega
  · simp
theorem hit_five (t : List Int) (x y : Int) : (hitL t x y).length = 5 := rfl
theorem pix_five {t : List Int} {w h : Int} : ∀ v ∈ pixV t w h, v.length = 5 := by
  intro v hv
  unfold pixV at hv
  split at hv
  · obtain ⟨p, -, e⟩ := List.mem_filterMap.1 hv
    unfold hitO at e
    split at e
    · cases e; rfl
    · cases e
  · cases hv
end Go.Proofs.Ythkfnjblmilgnaa.EdM
