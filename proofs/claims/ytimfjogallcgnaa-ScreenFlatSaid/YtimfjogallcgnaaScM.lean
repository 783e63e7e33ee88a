/-
  The mathematics of the screen: a vertex's spot; a polygon's triangles; what is seen of a triangle.
-/
import Derived.Test.YtimfjogallcgnaaClH
import Derived.Test.YtimfjogallcgnaaVecD
namespace Go.Proofs.Ytimfjogallcgnaa.ScM
open FixA ClM ClH VecA VecB VecD
open Go.Proofs.Ytimfjogallcgnaa.Row (fillK)
set_option linter.unusedVariables false
set_option linter.unusedSimpArgs false

def frameB (w h : Int) : Bool := decide ((1 ≤ w ∧ w ≤ 32) ∧ (1 ≤ h ∧ h ≤ 32))
theorem frame_yes {w h : Int} (e : frameB w h = true) : 1 ≤ w ∧ w ≤ 32 ∧ 1 ≤ h ∧ h ≤ 32 := by
  have := of_decide_eq_true e; omega
theorem frame_mk {w h : Int} (a : 1 ≤ w) (b : w ≤ 32) (c : 1 ≤ h) (d : h ≤ 32) : frameB w h = true := decide_eq_true ⟨⟨a, b⟩, c, d⟩
theorem frame_no {w h : Int} (a : ¬ (1 ≤ w ∧ w ≤ 32 ∧ 1 ≤ h ∧ h ≤ 32)) : frameB w h = false := decide_eq_false (by omega)
def dV (v : List Int) : Int := max (g v 3) 256
def held (n d : Int) : Int := max (-d) (min n d)
theorem held_bd {n d : Int} (h : 0 ≤ d) : -d ≤ held n d ∧ held n d ≤ d := by unfold held; omega
theorem held_alt {n d : Int} (h : 0 ≤ d) : min (max n (-d)) d = held n d := by unfold held; omega
def nX (v : List Int) (w : Int) : Int := (dV v + held (g v 0) (dV v)) * w * 128
def nY (v : List Int) (h : Int) : Int := (dV v - held (g v 1) (dV v)) * h * 128
def nZ (v : List Int) : Int := (dV v + held (g v 2) (dV v)) * 32767
def spotL (v : List Int) (w h : Int) : List Int := [near (nX v w) (dV v), near (nY v h) (dV v), near (nZ v) (dV v), dV v, g v 4, g v 5]
def bigB (m n : Int) : Bool := decide (-m ≤ n ∧ n ≤ m)
def vxB (v : List Int) : Bool := (bigB 536870912 (g v 0) && (bigB 536870912 (g v 1) && (bigB 536870912 (g v 2) && bigB 536870912 (g v 3)))) && (bigB 134217728 (g v 4) && bigB 134217728 (g v 5))
theorem vx_of {v : List Int} (hl : v.length = 6) (h : vxB v = true) : Vx v := by
  simp only [vxB, bigB, Bool.and_eq_true, decide_eq_true_eq] at h
  constructor <;> omega
theorem vxB_of {v : List Int} (h : Vx v) : vxB v = true := by
  obtain ⟨_, a, b, c, d, e, f, g1, h1, i, j, k, l⟩ := h
  simp only [vxB, bigB, Bool.and_eq_true, decide_eq_true_eq]
  omega
def spotV (v : List Int) (w h : Int) : List Int × Bool := if (frameB w h && vxB v) = true then (spotL v w h, true) else (List.replicate 6 0, false)
theorem spotV_len (v : List Int) (w h : Int) : (spotV v w h).1.length = 6 := by unfold spotV; split <;> rfl
theorem spotV_yes {v : List Int} {w h : Int} (a : frameB w h = true) (b : vxB v = true) : spotV v w h = (spotL v w h, true) := by unfold spotV; rw [a, b]; rfl
theorem spotV_no1 {v : List Int} {w h : Int} (a : frameB w h = false) : spotV v w h = (List.replicate 6 0, false) := by unfold spotV; rw [a]; rfl
theorem spotV_no2 {v : List Int} {w h : Int} (b : vxB v = false) : spotV v w h = (List.replicate 6 0, false) := by unfold spotV; rw [b, Bool.and_false]; rfl

/-- bounds of what is divided -/
theorem dV_bd {v : List Int} (h : Vx v) : 256 ≤ dV v ∧ dV v ≤ 536870912 := by have := h.w1; unfold dV; omega
theorem mul_le3 {a b c : Int} (h0 : 0 ≤ a) (h1 : a ≤ b) (hc : 0 ≤ c) : 0 ≤ a * c ∧ a * c ≤ b * c := ⟨Int.mul_nonneg h0 hc, Int.mul_le_mul_of_nonneg_right h1 hc⟩
theorem nX_bd {v : List Int} {w : Int} (hd : 0 ≤ dV v) (h0 : 0 ≤ w) : 0 ≤ nX v w ∧ nX v w ≤ 256 * w * dV v := by
  have b := held_bd (n := g v 0) hd
  have := mul_le3 (a := dV v + held (g v 0) (dV v)) (b := 2 * dV v) (c := w) (by omega) (by omega) h0
  have e : 256 * w * dV v = 128 * (2 * dV v * w) := by rw [Int.mul_assoc, Int.mul_assoc, Int.mul_comm w]; omega
  unfold nX; omega
theorem nY_bd {v : List Int} {h : Int} (hd : 0 ≤ dV v) (h0 : 0 ≤ h) : 0 ≤ nY v h ∧ nY v h ≤ 256 * h * dV v := by
  have b := held_bd (n := g v 1) hd
  have := mul_le3 (a := dV v - held (g v 1) (dV v)) (b := 2 * dV v) (c := h) (by omega) (by omega) h0
  have e : 256 * h * dV v = 128 * (2 * dV v * h) := by rw [Int.mul_assoc, Int.mul_assoc, Int.mul_comm h]; omega
  unfold nY; omega
theorem nZ_bd {v : List Int} (hd : 0 ≤ dV v) : 0 ≤ nZ v ∧ nZ v ≤ 65534 * dV v := by
  have b := held_bd (n := g v 2) hd
  unfold nZ; omega
structure SpotIn (s : List Int) (w h : Int) : Prop where
  x0 : 0 ≤ g s 0
  x1 : g s 0 ≤ 256 * w
  y0 : 0 ≤ g s 1
  y1 : g s 1 ≤ 256 * h
  z0 : 0 ≤ g s 2
  z1 : g s 2 ≤ 65534
  w0 : 256 ≤ g s 3
  w1 : g s 3 ≤ 536870912
  u0 : -134217728 ≤ g s 4
  u1 : g s 4 ≤ 134217728
  v0 : -134217728 ≤ g s 5
  v1 : g s 5 ≤ 134217728
theorem spot_in {v : List Int} {w h : Int} (hv : Vx v) (hw : 0 ≤ w) (hh : 0 ≤ h) : SpotIn (spotL v w h) w h := by
  have d := dV_bd hv
  have x := nX_bd (v := v) (w := w) (by omega) hw
  have y := nY_bd (v := v) (h := h) (by omega) hh
  have z := nZ_bd (v := v) (by omega)
  have bx := near_between (n := nX v w) (d := dV v) (lo := 0) (hi := 256 * w) (by omega) (by omega) (by omega)
  have by' := near_between (n := nY v h) (d := dV v) (lo := 0) (hi := 256 * h) (by omega) (by omega) (by omega)
  have bz := near_between (n := nZ v) (d := dV v) (lo := 0) (hi := 65534) (by omega) (by omega) (by omega)
  exact ⟨bx.1, bx.2, by'.1, by'.2, bz.1, bz.2, d.1, d.2, hv.u0, hv.u1, hv.v0, hv.v1⟩

/-! Triangles -/
def triV (p : Row) (w h : Int) (i : Nat) : List Int := spotL (at_ p 0) w h ++ (spotL (at_ p (i + 1)) w h ++ spotL (at_ p (i + 2)) w h)
def trisK (p : Row) (w h : Int) (k : Nat) : Row := (List.range k).map (triV p w h)
theorem trisK_succ (p : Row) (w h : Int) (k : Nat) : trisK p w h (k + 1) = trisK p w h k ++ [triV p w h k] := by simp [trisK, List.range_succ]
theorem trisK_len (p : Row) (w h : Int) (k : Nat) : (trisK p w h k).length = k := by simp [trisK]
theorem triV_len (p : Row) (w h : Int) (i : Nat) : (triV p w h i).length = 18 := rfl
theorem trisK_18 (p : Row) (w h : Int) (k : Nat) : ∀ t ∈ trisK p w h k, t.length = 18 := by
  intro t ht
  simp only [trisK, List.mem_map, List.mem_range] at ht
  obtain ⟨i, _, rfl⟩ := ht
  rfl
def fanV (p : Row) (w h : Int) : Row := trisK p w h (p.length - 2)

/-! What is seen of a triangle -/
def mayV (v : List Int) : Bool := (bigB 4194304 (g v 0) && (bigB 4194304 (g v 1) && bigB 4194304 (g v 2))) && (decide (g v 3 = 65536) && (bigB 67108864 (g v 4) && bigB 67108864 (g v 5)))
def vtx (t : List Int) (k : Nat) : List Int := (t.drop (6 * k)).take 6
def mayT (t : List Int) : Bool := mayV (vtx t 0) && (mayV (vtx t 1) && mayV (vtx t 2))
def seen (m v : List Int) : List Int := (applyV m (v.take 4)).1 ++ v.drop 4
def rowV (m t : List Int) : Row := [seen m (vtx t 0), seen m (vtx t 1), seen m (vtx t 2)]
def placeV (m t : List Int) (w h : Int) : Row × Int :=
  if (frameB w h && m.all cellB) = true then (if mayT t = true then (fanV (polyV (rowV m t)) w h, 0) else ([], 2)) else ([], 1)
theorem mayV_bd {v : List Int} (h : mayV v = true) : (-4194304 ≤ g v 0 ∧ g v 0 ≤ 4194304) ∧ (-4194304 ≤ g v 1 ∧ g v 1 ≤ 4194304) ∧ (-4194304 ≤ g v 2 ∧ g v 2 ≤ 4194304) ∧ g v 3 = 65536 ∧ (-67108864 ≤ g v 4 ∧ g v 4 ≤ 67108864) ∧ (-67108864 ≤ g v 5 ∧ g v 5 ≤ 67108864) := by
  simp only [mayV, bigB, Bool.and_eq_true, decide_eq_true_eq] at h
  omega
theorem len6' {v : List Int} (h : v.length = 6) : ∃ a b c d e f, v = [a, b, c, d, e, f] := by
  match v, h with
  | [a, b, c, d, e, f], _ => exact ⟨a, b, c, d, e, f, rfl⟩
theorem may_num {v : List Int} (hl : v.length = 6) (h : mayV v = true) : (v.take 4).all numB = true := by
  have b := mayV_bd h
  obtain ⟨a0, a1, a2, a3, a4, a5, rfl⟩ := len6' hl
  have e : ∀ (a0 a1 a2 a3 a4 a5 : Int), g [a0, a1, a2, a3, a4, a5] 0 = a0 ∧ g [a0, a1, a2, a3, a4, a5] 1 = a1 ∧ g [a0, a1, a2, a3, a4, a5] 2 = a2 ∧ g [a0, a1, a2, a3, a4, a5] 3 = a3 := fun _ _ _ _ _ _ => ⟨rfl, rfl, rfl, rfl⟩
  simp only [e] at b
  simp only [List.take, List.all_cons, List.all_nil, numB, Bool.and_true, Bool.and_eq_true, decide_eq_true_eq]
  omega
theorem apply_ok {m v : List Int} (hl : v.length = 6) (hm : m.all cellB = true) (h : mayV v = true) : applyV m (v.take 4) = (fillK 4 (outF m (v.take 4)) 4, 0) := by
  unfold applyV; rw [hm, may_num hl h]; rfl
theorem getD_cell {l : List Int} (hl : l.all cellB = true) (j : Nat) : -1048576 ≤ l.getD j 0 ∧ l.getD j 0 ≤ 1048576 := by
  by_cases hj : j < l.length
  · have := cells_bd hl l[j] (List.getElem_mem _)
    simpa [List.getD, hj] using this
  · simp [List.getD, hj]
theorem out_bd {m v : List Int} (hl : v.length = 6) (hm : m.all cellB = true) (h : mayV v = true) (i : Nat) : -536870912 ≤ outF m (v.take 4) i ∧ outF m (v.take 4) i ≤ 536870912 := by
  have b := mayV_bd h
  obtain ⟨a0, a1, a2, a3, a4, a5, rfl⟩ := len6' hl
  have e : ∀ (a0 a1 a2 a3 a4 a5 : Int), g [a0, a1, a2, a3, a4, a5] 0 = a0 ∧ g [a0, a1, a2, a3, a4, a5] 1 = a1 ∧ g [a0, a1, a2, a3, a4, a5] 2 = a2 ∧ g [a0, a1, a2, a3, a4, a5] 3 = a3 := fun _ _ _ _ _ _ => ⟨rfl, rfl, rfl, rfl⟩
  simp only [e] at b
  have c := fun j => getD_cell hm j
  have p0 := VecA.prod_bd (a := m.getD (4 * i) 0) (b := a0) (A := 1048576) (B := 4194304) (c _).1 (c _).2 (by omega) (by omega)
  have p1 := VecA.prod_bd (a := m.getD (4 * i + 1) 0) (b := a1) (A := 1048576) (B := 4194304) (c _).1 (c _).2 (by omega) (by omega)
  have p2 := VecA.prod_bd (a := m.getD (4 * i + 2) 0) (b := a2) (A := 1048576) (B := 4194304) (c _).1 (c _).2 (by omega) (by omega)
  have p3 := VecA.prod_bd (a := m.getD (4 * i + 3) 0) (b := a3) (A := 1048576) (B := 65536) (c _).1 (c _).2 (by omega) (by omega)
  have hd : dot m i (List.take 4 [a0, a1, a2, a3, a4, a5]) = m.getD (4 * i) 0 * a0 + m.getD (4 * i + 1) 0 * a1 + m.getD (4 * i + 2) 0 * a2 + m.getD (4 * i + 3) 0 * a3 := rfl
  unfold outF
  rw [hd]
  exact near_between (lo := -536870912) (hi := 536870912) (by omega) (by omega) (by omega)
theorem seen_eq {m v : List Int} (hl : v.length = 6) (hm : m.all cellB = true) (h : mayV v = true) : seen m v = [outF m (v.take 4) 0, outF m (v.take 4) 1, outF m (v.take 4) 2, outF m (v.take 4) 3, g v 4, g v 5] := by
  unfold seen
  rw [apply_ok hl hm h]
  obtain ⟨a0, a1, a2, a3, a4, a5, rfl⟩ := len6' hl
  rfl
theorem seen_vx {m v : List Int} (hl : v.length = 6) (hm : m.all cellB = true) (h : mayV v = true) : Vx (seen m v) := by
  have b := mayV_bd h
  have o := out_bd hl hm h
  rw [seen_eq hl hm h]
  exact ⟨rfl, (o 0).1, (o 0).2, (o 1).1, (o 1).2, (o 2).1, (o 2).2, (o 3).1, (o 3).2, (by show _ ≤ g v 4; omega), (by show g v 4 ≤ _; omega), (by show _ ≤ g v 5; omega), (by show g v 5 ≤ _; omega)⟩
theorem vtx_len {t : List Int} (ht : t.length = 19) {k : Nat} (hk : k < 3) : (vtx t k).length = 6 := by
  simp [vtx, ht]; omega
theorem mayT_yes {t : List Int} (h : mayT t = true) : ∀ k, k < 3 → mayV (vtx t k) = true := by
  simp only [mayT, Bool.and_eq_true] at h
  intro k hk
  have : k = 0 ∨ k = 1 ∨ k = 2 := by omega
  rcases this with rfl | rfl | rfl
  · exact h.1
  · exact h.2.1
  · exact h.2.2
theorem rowV_vx {m t : List Int} (ht : t.length = 19) (hm : m.all cellB = true) (h : mayT t = true) : VxR (rowV m t) := by
  intro v hv
  simp only [rowV, List.mem_cons, List.not_mem_nil, or_false] at hv
  have a := fun k hk => seen_vx (vtx_len ht hk) hm (mayT_yes h k hk)
  rcases hv with rfl | rfl | rfl
  · exact a 0 (by omega)
  · exact a 1 (by omega)
  · exact a 2 (by omega)
theorem poly_vx {row : Row} (h : VxR row) : VxR (polyV row) := by
  have h7 := wK_vx h 7
  unfold polyV
  generalize wK row 7 = R at h7 ⊢
  split
  · intro v hv; cases hv
  · split
    · intro v hv; cases hv
    · exact h7

/-! Mirrored, and twice as great -/
theorem near_mirror {a b d K : Int} (hd : 0 < d) (h : a + b = K * d) : 0 ≤ near a d + near b d - K ∧ near a d + near b d - K ≤ 1 := by
  have a1 := near_lo a d hd
  have a2 := near_hi a d hd
  have b1 := near_lo b d hd
  have b2 := near_hi b d hd
  have e1 : 2 * near a d * d = 2 * (near a d * d) := Int.mul_assoc ..
  have e2 : 2 * near b d * d = 2 * (near b d * d) := Int.mul_assoc ..
  have e : (near a d + near b d - K) * d = near a d * d + near b d * d - K * d := by rw [Int.sub_mul, Int.add_mul]
  generalize near a d = p at *
  generalize near b d = q at *
  constructor
  · rcases Int.lt_or_le (p + q - K) 0 with h0 | h0
    · have := Int.mul_le_mul_of_nonneg_right (show p + q - K ≤ -1 by omega) (show 0 ≤ d by omega)
      omega
    · exact h0
  · rcases Int.lt_or_le 1 (p + q - K) with h0 | h0
    · have := Int.mul_le_mul_of_nonneg_right (show 2 ≤ p + q - K by omega) (show 0 ≤ d by omega)
      omega
    · exact h0
theorem near_twice {a d : Int} (hd : 0 < d) : -1 ≤ near (2 * a) d - 2 * near a d ∧ near (2 * a) d - 2 * near a d ≤ 1 := by
  have a1 := near_lo a d hd
  have a2 := near_hi a d hd
  have b1 := near_lo (2 * a) d hd
  have b2 := near_hi (2 * a) d hd
  have e1 : 2 * near a d * d = 2 * (near a d * d) := Int.mul_assoc ..
  have e2 : 2 * near (2 * a) d * d = 2 * (near (2 * a) d * d) := Int.mul_assoc ..
  have e : (near (2 * a) d - 2 * near a d) * d = near (2 * a) d * d - 2 * (near a d * d) := by rw [Int.sub_mul, Int.mul_assoc]
  generalize near a d = p at *
  generalize near (2 * a) d = q at *
  constructor
  · rcases Int.lt_or_le (q - 2 * p) (-1) with h0 | h0
    · have := Int.mul_le_mul_of_nonneg_right (show q - 2 * p ≤ -2 by omega) (show 0 ≤ d by omega)
      omega
    · exact h0
  · rcases Int.lt_or_le 1 (q - 2 * p) with h0 | h0
    · have := Int.mul_le_mul_of_nonneg_right (show 2 ≤ q - 2 * p by omega) (show 0 ≤ d by omega)
      omega
    · exact h0
theorem held_neg {n d : Int} (h : 0 ≤ d) : held (-n) d = -held n d := by unfold held; omega
def mirV (v : List Int) : List Int := [-(g v 0), -(g v 1), g v 2, g v 3, g v 4, g v 5]
theorem mirV_vx {v : List Int} (h : Vx v) : Vx (mirV v) := by
  obtain ⟨_, a, b, c, d, e, f, g1, h1, i, j, k, l⟩ := h
  have q : g (mirV v) 0 = -(g v 0) ∧ g (mirV v) 1 = -(g v 1) ∧ g (mirV v) 2 = g v 2 ∧ g (mirV v) 3 = g v 3 ∧ g (mirV v) 4 = g v 4 ∧ g (mirV v) 5 = g v 5 := ⟨rfl, rfl, rfl, rfl, rfl, rfl⟩
  obtain ⟨q0, q1, q2, q3, q4, q5⟩ := q
  exact ⟨rfl, by omega, by omega, by omega, by omega, by omega, by omega, by omega, by omega, by omega, by omega, by omega, by omega⟩
theorem mir_x {v : List Int} {w : Int} (h : Vx v) : 0 ≤ near (nX v w) (dV v) + near (nX (mirV v) w) (dV v) - 256 * w ∧ near (nX v w) (dV v) + near (nX (mirV v) w) (dV v) - 256 * w ≤ 1 := by
  have d := dV_bd h
  refine near_mirror (by omega) ?_
  have e : nX (mirV v) w = (dV v - held (g v 0) (dV v)) * w * 128 := by
    show (dV v + held (-(g v 0)) (dV v)) * w * 128 = _
    rw [held_neg (by omega)]; rfl
  rw [e]
  unfold nX
  rw [← Int.add_mul, ← Int.add_mul, show dV v + held (g v 0) (dV v) + (dV v - held (g v 0) (dV v)) = 2 * dV v by omega, show (256 : Int) * w * dV v = 128 * (2 * dV v * w) by rw [Int.mul_assoc, Int.mul_assoc, Int.mul_comm w]; omega]
  omega
theorem mir_y {v : List Int} {h : Int} (hv : Vx v) : 0 ≤ near (nY v h) (dV v) + near (nY (mirV v) h) (dV v) - 256 * h ∧ near (nY v h) (dV v) + near (nY (mirV v) h) (dV v) - 256 * h ≤ 1 := by
  have d := dV_bd hv
  refine near_mirror (by omega) ?_
  have e : nY (mirV v) h = (dV v + held (g v 1) (dV v)) * h * 128 := by
    show (dV v - held (-(g v 1)) (dV v)) * h * 128 = _
    rw [held_neg (by omega), Int.sub_neg]
  rw [e]
  unfold nY
  rw [← Int.add_mul, ← Int.add_mul, show dV v - held (g v 1) (dV v) + (dV v + held (g v 1) (dV v)) = 2 * dV v by omega, show (256 : Int) * h * dV v = 128 * (2 * dV v * h) by rw [Int.mul_assoc, Int.mul_assoc, Int.mul_comm h]; omega]
  omega
theorem twice_x {v : List Int} {w : Int} (h : Vx v) : -1 ≤ near (nX v (2 * w)) (dV v) - 2 * near (nX v w) (dV v) ∧ near (nX v (2 * w)) (dV v) - 2 * near (nX v w) (dV v) ≤ 1 := by
  have d := dV_bd h
  have e : nX v (2 * w) = 2 * nX v w := by unfold nX; rw [Int.mul_left_comm, Int.mul_assoc]
  rw [e]; exact near_twice (by omega)
theorem twice_y {v : List Int} {h : Int} (hv : Vx v) : -1 ≤ near (nY v (2 * h)) (dV v) - 2 * near (nY v h) (dV v) ∧ near (nY v (2 * h)) (dV v) - 2 * near (nY v h) (dV v) ≤ 1 := by
  have d := dV_bd hv
  have e : nY v (2 * h) = 2 * nY v h := by unfold nY; rw [Int.mul_left_comm, Int.mul_assoc]
  rw [e]; exact near_twice (by omega)
end Go.Proofs.Ytimfjogallcgnaa.ScM
