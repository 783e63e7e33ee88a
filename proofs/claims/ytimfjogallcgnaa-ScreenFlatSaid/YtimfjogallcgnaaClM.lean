/-
  The mathematics of clipping: where a way is cut; what of a row is inside of a plane.
-/
import Derived.Test.YtimfjogallcgnaaFixA
namespace Go.Proofs.Ytimfjogallcgnaa.ClM
open FixA
set_option linter.unusedVariables false
set_option linter.unusedSimpArgs false

def g (l : List Int) (i : Nat) : Int := l.getD i 0
def insV (v : List Int) (k : Int) : Int :=
  if k = 0 then g v 3 - 256 else if k = 1 then g v 3 + g v 0 else if k = 2 then g v 3 - g v 0 else if k = 3 then g v 3 + g v 1 else if k = 4 then g v 3 - g v 1 else if k = 5 then g v 3 + g v 2 else if k = 6 then g v 3 - g v 2 else 0
def tV (d e : Int) : Int := if e < d then max 0 (min (near (65536 * d) (d - e)) 65536) else 0
def btw (a b t : Int) : Int := a + near (t * (b - a)) 65536
def cutT (a b : List Int) (k : Int) : Int := tV (insV a k) (insV b k)
def cutV (a b : List Int) (k : Int) : List Int := [btw (g a 0) (g b 0) (cutT a b k), btw (g a 1) (g b 1) (cutT a b k), btw (g a 2) (g b 2) (cutT a b k), btw (g a 3) (g b 3) (cutT a b k), btw (g a 4) (g b 4) (cutT a b k), btw (g a 5) (g b 5) (cutT a b k)]
theorem tV_bd (d e : Int) : 0 ≤ tV d e ∧ tV d e ≤ 65536 := by unfold tV; split <;> omega
theorem near_between {n d lo hi : Int} (hd : 1 ≤ d) (h1 : lo * d ≤ n) (h2 : n ≤ hi * d) : lo ≤ near n d ∧ near n d ≤ hi := by
  have a := near_lo n d (by omega)
  have b := near_hi n d (by omega)
  constructor
  · rcases Int.lt_or_le (near n d) lo with h | h
    · exfalso
      have := Int.mul_le_mul_of_nonneg_right (show near n d + 1 ≤ lo by omega) (show 0 ≤ d by omega)
      rw [Int.add_mul] at this
      have e : 2 * near n d * d = 2 * (near n d * d) := Int.mul_assoc ..
      omega
    · exact h
  · rcases Int.lt_or_le hi (near n d) with h | h
    · exfalso
      have := Int.mul_le_mul_of_nonneg_right (show hi + 1 ≤ near n d by omega) (show 0 ≤ d by omega)
      rw [Int.add_mul] at this
      have e : 2 * near n d * d = 2 * (near n d * d) := Int.mul_assoc ..
      omega
    · exact h
theorem btw_bd {a b t : Int} (h0 : 0 ≤ t) (h1 : t ≤ 65536) : min a b ≤ btw a b t ∧ btw a b t ≤ max a b := by
  unfold btw
  rcases Int.le_total a b with h | h
  · have p := Int.mul_le_mul_of_nonneg_right h1 (show 0 ≤ b - a by omega)
    have q := Int.mul_nonneg h0 (show 0 ≤ b - a by omega)
    have := near_between (n := t * (b - a)) (d := 65536) (lo := 0) (hi := b - a) (by omega) (by omega) (by omega)
    omega
  · have p := Int.mul_le_mul_of_nonneg_right h1 (show 0 ≤ a - b by omega)
    have q := Int.mul_nonneg h0 (show 0 ≤ a - b by omega)
    have e : t * (b - a) = -(t * (a - b)) := by rw [← Int.mul_neg]; congr 1; omega
    have := near_between (n := t * (b - a)) (d := 65536) (lo := b - a) (hi := 0) (by omega) (by omega) (by omega)
    omega

/-! Rows -/
abbrev Row := List (List Int)
def inB (k : Int) (v : List Int) : Bool := decide (0 ≤ insV v k)
def piece (k : Int) (a b : List Int) : Row := (if inB k a then [a] else []) ++ ((if inB k a && !inB k b then [cutV a b k] else []) ++ (if inB k b && !inB k a then [cutV b a k] else []))
def nxt (row : Row) (i : Nat) : List Int := row.getD ((i + 1) % row.length) []
def at_ (row : Row) (i : Nat) : List Int := row.getD i []
def within (k : Int) (row : Row) : Row := (List.range row.length).flatMap fun i => piece k (at_ row i) (nxt row i)
def withinK (k : Int) (row : Row) (m : Nat) : Row := (List.range m).flatMap fun i => piece k (at_ row i) (nxt row i)
theorem withinK_succ (k : Int) (row : Row) (m : Nat) : withinK k row (m + 1) = withinK k row m ++ piece k (at_ row m) (nxt row m) := by
  simp [withinK, List.range_succ, List.flatMap_append]
theorem withinK_all (k : Int) (row : Row) : withinK k row row.length = within k row := rfl
theorem piece_len (k : Int) (a b : List Int) : (piece k a b).length ≤ 2 := by
  unfold piece
  cases inB k a <;> cases inB k b <;> simp
theorem withinK_len (k : Int) (row : Row) (m : Nat) : (withinK k row m).length ≤ 2 * m := by
  induction m with
  | zero => simp [withinK]
  | succ m ih => rw [withinK_succ, List.length_append]; have := piece_len k (at_ row m) (nxt row m); omega
/-- all inside: it stays -/
theorem within_all {k : Int} {row : Row} (h : row.all (inB k) = true) : within k row = row := by
  have hp : ∀ i, i < row.length → piece k (at_ row i) (nxt row i) = [at_ row i] := by
    intro i hi
    have h1 : inB k (at_ row i) = true := by
      unfold at_
      rw [List.getD_eq_getElem?_getD, List.getElem?_eq_getElem hi]
      exact List.all_eq_true.1 h _ (List.getElem_mem _)
    have hm : (i + 1) % row.length < row.length := Nat.mod_lt _ (by omega)
    have h2 : inB k (nxt row i) = true := by
      unfold nxt
      rw [List.getD_eq_getElem?_getD, List.getElem?_eq_getElem hm]
      exact List.all_eq_true.1 h _ (List.getElem_mem _)
    unfold piece
    rw [h1, h2]; rfl
  have : ∀ m, m ≤ row.length → withinK k row m = row.take m := by
    intro m
    induction m with
    | zero => intro _; simp [withinK]
    | succ m ih =>
      intro hm
      rw [withinK_succ, ih (by omega), hp m (by omega), List.take_add_one, List.getElem?_eq_getElem (by omega)]
      congr 1
      unfold at_
      rw [List.getD_eq_getElem?_getD, List.getElem?_eq_getElem (by omega)]
      rfl
  rw [← withinK_all, this _ (Nat.le_refl _), List.take_length]
theorem sum_one (f : Nat → Nat) : ∀ n m, m < n → f m ≤ ((List.range n).map f).sum := by
  intro n
  induction n with
  | zero => intro m h; omega
  | succ n ih =>
    intro m h
    rw [List.range_succ, List.map_append, List.sum_append]
    simp only [List.map_cons, List.map_nil, List.sum_cons, List.sum_nil, Nat.add_zero]
    by_cases e : m = n
    · subst e; omega
    · have := ih m (by omega); omega
theorem sum_two (f : Nat → Nat) : ∀ n i j, i < n → j < n → i ≠ j → f i + f j ≤ ((List.range n).map f).sum := by
  intro n
  induction n with
  | zero => intro i j h; omega
  | succ n ih =>
    intro i j hi hj hne
    rw [List.range_succ, List.map_append, List.sum_append]
    simp only [List.map_cons, List.map_nil, List.sum_cons, List.sum_nil, Nat.add_zero]
    have one := sum_one f n
    by_cases h1 : i = n
    · subst h1; have := one j (by omega); omega
    · by_cases h2 : j = n
      · subst h2; have := one i (by omega); omega
      · have := ih i j (by omega) (by omega) hne; omega
/-- once round -/
theorem round_all {n : Nat} (s : Nat → Prop) (h : ∀ i, i < n → s i → s ((i + 1) % n)) {i : Nat} (hi : i < n) (hs : s i) : ∀ j, j < n → s j := by
  have step : ∀ m, s ((i + m) % n) := by
    intro m
    induction m with
    | zero => rw [Nat.add_zero, Nat.mod_eq_of_lt hi]; exact hs
    | succ m ih =>
      have := h _ (Nat.mod_lt _ (by omega)) ih
      rwa [Nat.mod_add_mod] at this
  intro j hj
  have := step (j + n - i)
  rwa [show i + (j + n - i) = j + n by omega, Nat.add_mod_right, Nat.mod_eq_of_lt hj] at this
/-- none, or three and more -/
theorem within_len {k : Int} {row : Row} (h3 : 3 ≤ row.length) : (within k row).length = 0 ∨ 3 ≤ (within k row).length := by
  have hl : (within k row).length = ((List.range row.length).map fun i => (piece k (at_ row i) (nxt row i)).length).sum := by
    unfold within; rw [List.length_flatMap]
  have nx : ∀ i, nxt row i = at_ row ((i + 1) % row.length) := fun i => rfl
  by_cases hall : row.all (inB k) = true
  · right; rw [within_all hall]; exact h3
  · by_cases hout : ∀ i, i < row.length → inB k (at_ row i) = false
    · left
      have : within k row = [] := by
        unfold within
        rw [List.flatMap_eq_nil_iff]
        intro i hi
        have hi' := List.mem_range.1 hi
        unfold piece
        rw [hout i hi', nx, hout _ (Nat.mod_lt _ (by omega))]; rfl
      rw [this]; rfl
    · right
      have ⟨a, ha, hsa⟩ : ∃ a, a < row.length ∧ inB k (at_ row a) = true := by
        by_cases hc : ∃ a, a < row.length ∧ inB k (at_ row a) = true
        · exact hc
        · exfalso; apply hout; intro i hi
          cases hv : inB k (at_ row i) with
          | false => rfl
          | true => exact absurd ⟨i, hi, hv⟩ hc
      have ⟨b, hb, hsb⟩ : ∃ b, b < row.length ∧ inB k (at_ row b) = false := by
        by_cases hc : ∃ b, b < row.length ∧ inB k (at_ row b) = false
        · exact hc
        · exfalso; apply hall
          rw [List.all_eq_true]
          intro v hv
          obtain ⟨i, hi, rfl⟩ := List.mem_iff_getElem.1 hv
          cases hv2 : inB k row[i] with
          | true => rfl
          | false => exact absurd ⟨i, hi, by unfold at_; rw [List.getD_eq_getElem?_getD, List.getElem?_eq_getElem hi]; exact hv2⟩ hc
      have ⟨p, hp, p1, p2⟩ : ∃ p, p < row.length ∧ inB k (at_ row p) = true ∧ inB k (nxt row p) = false := by
        by_cases hc : ∃ p, p < row.length ∧ inB k (at_ row p) = true ∧ inB k (nxt row p) = false
        · exact hc
        · exfalso
          have := round_all (n := row.length) (fun i => inB k (at_ row i) = true) (fun i hi hs => by
            cases hv : inB k (nxt row i) with
            | true => rw [nx] at hv; exact hv
            | false => exact absurd ⟨i, hi, hs, hv⟩ hc) ha hsa b hb
          rw [hsb] at this; cases this
      have ⟨q, hq, q1, q2⟩ : ∃ q, q < row.length ∧ inB k (at_ row q) = false ∧ inB k (nxt row q) = true := by
        by_cases hc : ∃ q, q < row.length ∧ inB k (at_ row q) = false ∧ inB k (nxt row q) = true
        · exact hc
        · exfalso
          have := round_all (n := row.length) (fun i => inB k (at_ row i) = false) (fun i hi hs => by
            cases hv : inB k (nxt row i) with
            | false => rw [nx] at hv; exact hv
            | true => exact absurd ⟨i, hi, hs, hv⟩ hc) hb hsb a ha
          rw [hsa] at this; cases this
      have hne : p ≠ q := fun e => by subst e; rw [p1] at q1; cases q1
      have := sum_two (fun i => (piece k (at_ row i) (nxt row i)).length) row.length p q hp hq hne
      rw [hl]
      have e1 : (piece k (at_ row p) (nxt row p)).length = 2 := by unfold piece; rw [p1, p2]; rfl
      have e2 : (piece k (at_ row q) (nxt row q)).length = 1 := by unfold piece; rw [q1, q2]; rfl
      omega
/-- the planes, the code's way and the document's -/
def stepC (row : Row) (k : Int) : Row := if row.all (inB k) then row else within k row
theorem stepC_eq (row : Row) (k : Int) : stepC row k = within k row := by
  unfold stepC; split
  · rw [within_all (by assumption)]
  · rfl

def wK (row : Row) : Nat → Row
  | 0 => row
  | k + 1 => within (k : Int) (wK row k)
theorem within_nil (k : Int) : within k [] = [] := rfl
theorem wK_len {row : Row} (h : 3 ≤ row.length) (k : Nat) : (wK row k).length = 0 ∨ 3 ≤ (wK row k).length := by
  induction k with
  | zero => exact Or.inr h
  | succ k ih =>
    rcases ih with h | h
    · left
      show (within (k : Int) (wK row k)).length = 0
      rw [List.eq_nil_of_length_eq_zero h]; rfl
    · exact within_len h
theorem wK_nil {row : Row} {k : Nat} (h : wK row k = []) (j : Nat) : wK row (k + j) = [] := by
  induction j with
  | zero => exact h
  | succ j ih =>
    show within ((k + j : Nat) : Int) (wK row (k + j)) = []
    rw [ih]; rfl
def polyV (row : Row) : Row := if row.length < 3 then [] else if (wK row 7).length < 3 then [] else wK row 7
/-- early none is none at the end -/
theorem poly_early {row : Row} {k : Nat} (hk : k ≤ 7) (h : (wK row k).length < 3) : polyV row = [] := by
  unfold polyV
  by_cases h3 : row.length < 3
  · rw [if_pos h3]
  · rw [if_neg h3]
    have := wK_len (row := row) (by omega) k
    have h0 : wK row k = [] := List.eq_nil_of_length_eq_zero (by omega)
    have := wK_nil h0 (7 - k)
    rw [show k + (7 - k) = 7 by omega] at this
    rw [this]; rfl
theorem wK_bound (row : Row) (k : Nat) : (wK row k).length ≤ 2 ^ k * row.length := by
  induction k with
  | zero => simp [wK]
  | succ k ih =>
    have h := withinK_len (k : Int) (wK row k) (wK row k).length
    rw [withinK_all] at h
    show (within (k : Int) (wK row k)).length ≤ _
    rw [Nat.pow_succ, Nat.mul_comm (2 ^ k) 2, Nat.mul_assoc]
    omega

/-! What is promised of a vertex -/
structure Vx (v : List Int) : Prop where
  len : v.length = 6
  x0 : -536870912 ≤ g v 0
  x1 : g v 0 ≤ 536870912
  y0 : -536870912 ≤ g v 1
  y1 : g v 1 ≤ 536870912
  z0 : -536870912 ≤ g v 2
  z1 : g v 2 ≤ 536870912
  w0 : -536870912 ≤ g v 3
  w1 : g v 3 ≤ 536870912
  u0 : -134217728 ≤ g v 4
  u1 : g v 4 ≤ 134217728
  v0 : -134217728 ≤ g v 5
  v1 : g v 5 ≤ 134217728
theorem cutV_vx {a b : List Int} (ha : Vx a) (hb : Vx b) (k : Int) : Vx (cutV a b k) := by
  have t := tV_bd (insV a k) (insV b k)
  have hb' : ∀ i, min (g a i) (g b i) ≤ btw (g a i) (g b i) (cutT a b k) ∧ btw (g a i) (g b i) (cutT a b k) ≤ max (g a i) (g b i) := fun i => btw_bd t.1 t.2
  have i0 := hb' 0
  have i1 := hb' 1
  have i2 := hb' 2
  have i3 := hb' 3
  have i4 := hb' 4
  have i5 := hb' 5
  obtain ⟨_, a0, a1, a2, a3, a4, a5, a6, a7, a8, a9, a10, a11⟩ := ha
  obtain ⟨_, b0, b1, b2, b3, b4, b5, b6, b7, b8, b9, b10, b11⟩ := hb
  constructor
  · rfl
  all_goals
    simp only [cutV, show ∀ (x y z w u v : Int), g [x, y, z, w, u, v] 0 = x from fun _ _ _ _ _ _ => rfl, show ∀ (x y z w u v : Int), g [x, y, z, w, u, v] 1 = y from fun _ _ _ _ _ _ => rfl, show ∀ (x y z w u v : Int), g [x, y, z, w, u, v] 2 = z from fun _ _ _ _ _ _ => rfl, show ∀ (x y z w u v : Int), g [x, y, z, w, u, v] 3 = w from fun _ _ _ _ _ _ => rfl, show ∀ (x y z w u v : Int), g [x, y, z, w, u, v] 4 = u from fun _ _ _ _ _ _ => rfl, show ∀ (x y z w u v : Int), g [x, y, z, w, u, v] 5 = v from fun _ _ _ _ _ _ => rfl]
    omega
theorem insV_bd {v : List Int} (h : Vx v) (k : Int) : -1073741824 ≤ insV v k ∧ insV v k ≤ 1073741824 := by
  obtain ⟨_, a0, a1, a2, a3, a4, a5, a6, a7, _, _, _, _⟩ := h
  unfold insV
  repeat' split
  all_goals omega
abbrev VxR (row : Row) : Prop := ∀ v ∈ row, Vx v
theorem at_vx {row : Row} (h : VxR row) {i : Nat} (hi : i < row.length) : Vx (at_ row i) := by
  unfold at_
  rw [List.getD_eq_getElem?_getD, List.getElem?_eq_getElem hi]
  exact h _ (List.getElem_mem _)
theorem nxt_vx {row : Row} (h : VxR row) {i : Nat} (hi : i < row.length) : Vx (nxt row i) := at_vx h (Nat.mod_lt _ (by omega))
theorem piece_vx {k : Int} {a b : List Int} (ha : Vx a) (hb : Vx b) : VxR (piece k a b) := by
  intro v hv
  unfold piece at hv
  rw [List.mem_append, List.mem_append] at hv
  rcases hv with hv | hv | hv
  · split at hv
    · rw [List.mem_singleton] at hv; subst hv; exact ha
    · cases hv
  · split at hv
    · rw [List.mem_singleton] at hv; subst hv; exact cutV_vx ha hb k
    · cases hv
  · split at hv
    · rw [List.mem_singleton] at hv; subst hv; exact cutV_vx hb ha k
    · cases hv
theorem withinK_vx {k : Int} {row : Row} (h : VxR row) {m : Nat} (hm : m ≤ row.length) : VxR (withinK k row m) := by
  intro v hv
  unfold withinK at hv
  rw [List.mem_flatMap] at hv
  obtain ⟨i, hi, hv⟩ := hv
  have hi' := List.mem_range.1 hi
  exact piece_vx (at_vx h (by omega)) (nxt_vx h (by omega)) v hv
theorem wK_vx {row : Row} (h : VxR row) (k : Nat) : VxR (wK row k) := by
  induction k with
  | zero => exact h
  | succ k ih => exact withinK_vx ih (Nat.le_refl _)
end Go.Proofs.Ytimfjogallcgnaa.ClM
