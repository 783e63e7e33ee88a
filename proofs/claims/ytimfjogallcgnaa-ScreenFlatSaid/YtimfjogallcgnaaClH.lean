/-
  More of the mathematics of clipping: how much a plane adds; what a turned row becomes; how near the plane a way is cut.
-/
import Derived.Test.YtimfjogallcgnaaClM
namespace Go.Proofs.Ytimfjogallcgnaa.ClH
open FixA ClM
set_option linter.unusedVariables false
set_option linter.unusedSimpArgs false

def phi (b : Bool) : Nat := if b then 1 else 0
theorem piece_phi (k : Int) (a b : List Int) : 2 * (piece k a b).length + phi (inB k b) ≤ 3 + phi (inB k a) := by
  unfold piece phi
  cases inB k a <;> cases inB k b <;> simp
theorem nxt_in {row : Row} {i : Nat} (h : i + 1 < row.length) : nxt row i = at_ row (i + 1) := by
  unfold nxt at_; rw [Nat.mod_eq_of_lt h]
theorem nxt_end {row : Row} {i : Nat} (h : i + 1 = row.length) : nxt row i = at_ row 0 := by
  unfold nxt at_; rw [h, Nat.mod_self]
theorem half_in (k : Int) (row : Row) : ∀ m, m < row.length → 2 * (withinK k row m).length + phi (inB k (at_ row m)) ≤ 3 * m + phi (inB k (at_ row 0)) := by
  intro m
  induction m with
  | zero => intro _; simp [withinK]
  | succ m ih =>
    intro h
    have := ih (by omega)
    have p := piece_phi k (at_ row m) (at_ row (m + 1))
    rw [withinK_succ, List.length_append, nxt_in h]
    omega
theorem within_half (k : Int) (row : Row) : 2 * (within k row).length ≤ 3 * row.length := by
  rw [← withinK_all]
  cases hn : row.length with
  | zero => simp [withinK]
  | succ m =>
    have := half_in k row m (by omega)
    have p := piece_phi k (at_ row m) (at_ row 0)
    rw [withinK_succ, List.length_append, nxt_end (by omega)]
    omega
theorem polyV_len3 {row : Row} (h : row.length = 3) : (polyV row).length ≤ 42 := by
  have e0 : (wK row 0).length = 3 := h
  have h1 : 2 * (wK row 1).length ≤ 3 * (wK row 0).length := within_half _ _
  have h2 : 2 * (wK row 2).length ≤ 3 * (wK row 1).length := within_half _ _
  have h3 : 2 * (wK row 3).length ≤ 3 * (wK row 2).length := within_half _ _
  have h4 : 2 * (wK row 4).length ≤ 3 * (wK row 3).length := within_half _ _
  have h5 : 2 * (wK row 5).length ≤ 3 * (wK row 4).length := within_half _ _
  have h6 : 2 * (wK row 6).length ≤ 3 * (wK row 5).length := within_half _ _
  have h7 : 2 * (wK row 7).length ≤ 3 * (wK row 6).length := within_half _ _
  have h8 : (wK row 7).length ≤ 42 := by omega
  clear h1 h2 h3 h4 h5 h6 h7
  unfold polyV
  generalize wK row 7 = R at h8 ⊢
  by_cases a : row.length < 3
  · rw [if_pos a]; simp
  · rw [if_neg a]
    by_cases b : R.length < 3
    · rw [if_pos b]; simp
    · rw [if_neg b]; exact h8
theorem polyV_len (row : Row) : (polyV row).length = 0 ∨ 3 ≤ (polyV row).length := by
  unfold polyV
  generalize wK row 7 = R
  by_cases a : row.length < 3
  · rw [if_pos a]; left; rfl
  · rw [if_neg a]
    by_cases b : R.length < 3
    · rw [if_pos b]; left; rfl
    · rw [if_neg b]; right; omega
theorem wK_in {row : Row} (h : ∀ k : Nat, k < 7 → row.all (inB k) = true) (k : Nat) (hk : k ≤ 7) : wK row k = row := by
  induction k with
  | zero => rfl
  | succ k ih =>
    show within (k : Int) (wK row k) = row
    rw [ih (by omega), within_all (h k (by omega))]
theorem polyV_in {row : Row} (h3 : 3 ≤ row.length) (h : ∀ k : Nat, k < 7 → row.all (inB k) = true) : polyV row = row := by
  have e := wK_in h 7 (Nat.le_refl _)
  unfold polyV
  generalize wK row 7 = R at e ⊢
  subst e
  rw [if_neg (by omega), if_neg (by omega)]
theorem within_out {k : Int} {row : Row} (h : ∀ i, i < row.length → inB k (at_ row i) = false) : within k row = [] := by
  unfold within
  rw [List.flatMap_eq_nil_iff]
  intro i hi
  have hi' := List.mem_range.1 hi
  unfold piece
  rw [h i hi', show nxt row i = at_ row ((i + 1) % row.length) from rfl, h _ (Nat.mod_lt _ (by omega))]; rfl
theorem polyV_out {row : Row} (h : ∀ i, i < row.length → inB 0 (at_ row i) = false) : polyV row = [] := by
  have h1 : wK row 1 = [] := within_out h
  exact poly_early (k := 1) (by omega) (by rw [h1]; simp)

/-! Turned rows -/
def Rot (a b : Row) : Prop := ∃ x y, a = x ++ y ∧ b = y ++ x
/-- the ways of a row, its last vertex being followed by z -/
def chain (k : Int) : Row → List Int → Row
  | [], _ => []
  | [a], z => piece k a z
  | a :: b :: l, z => piece k a b ++ chain k (b :: l) z
theorem chain_append (k : Int) (l : Row) (c : List Int) (r : Row) (z : List Int) : chain k (l ++ c :: r) z = chain k l c ++ chain k (c :: r) z := by
  induction l with
  | nil => rfl
  | cons a l ih =>
    cases l with
    | nil => rfl
    | cons b l =>
      show piece k a b ++ chain k (b :: l ++ c :: r) z = _
      rw [ih, ← List.append_assoc]; rfl
theorem chain_withinK (k : Int) (row : Row) : ∀ m, m < row.length → chain k (row.take m) (at_ row m) = withinK k row m := by
  intro m
  induction m with
  | zero => intro _; simp [chain, withinK]
  | succ m ih =>
    intro h
    have e : row.take (m + 1) = row.take m ++ [at_ row m] := by
      rw [List.take_add_one, List.getElem?_eq_getElem (by omega)]
      unfold at_
      rw [List.getD_eq_getElem?_getD, List.getElem?_eq_getElem (by omega)]
      rfl
    rw [e, chain_append, ih (by omega), withinK_succ, nxt_in h]
    rfl
theorem chain_within (k : Int) (a : List Int) (l : Row) : chain k (a :: l) a = within k (a :: l) := by
  have hn : (a :: l).length = l.length + 1 := rfl
  have e : a :: l = (a :: l).take l.length ++ [at_ (a :: l) l.length] := by
    have := List.take_add_one (l := a :: l) (i := l.length)
    rw [List.take_of_length_le (by rw [hn]; omega), List.getElem?_eq_getElem (by rw [hn]; omega)] at this
    unfold at_
    rw [List.getD_eq_getElem?_getD, List.getElem?_eq_getElem (by rw [hn]; omega)]
    exact this
  rw [← withinK_all, hn, withinK_succ, nxt_end (by rw [hn]), ← chain_withinK k (a :: l) l.length (by rw [hn]; omega)]
  conv => lhs; rw [e]
  rw [chain_append]
  rfl
theorem within_rot {k : Int} {a b : Row} (h : Rot a b) : Rot (within k a) (within k b) := by
  obtain ⟨x, y, rfl, rfl⟩ := h
  cases x with
  | nil => refine ⟨[], within k y, rfl, by simp⟩
  | cons p x =>
    cases y with
    | nil => refine ⟨within k (p :: x), [], by simp, by simp⟩
    | cons q y =>
      refine ⟨chain k (p :: x) q, chain k (q :: y) p, ?_, ?_⟩
      · show within k (p :: (x ++ q :: y)) = _
        rw [← chain_within]
        exact chain_append k (p :: x) q y p
      · show within k (q :: (y ++ p :: x)) = _
        rw [← chain_within]
        exact chain_append k (q :: y) p x q
theorem Rot.len {a b : Row} (h : Rot a b) : b.length = a.length := by
  obtain ⟨x, y, rfl, rfl⟩ := h
  simp; omega
theorem wK_rot {a b : Row} (h : Rot a b) (k : Nat) : Rot (wK a k) (wK b k) := by
  induction k with
  | zero => exact h
  | succ k ih => exact within_rot ih
theorem polyV_rot {a b : Row} (h : Rot a b) : Rot (polyV a) (polyV b) := by
  have h7 := wK_rot h 7
  have e1 := h.len
  have e2 := h7.len
  unfold polyV
  generalize wK a 7 = R at h7 e2 ⊢
  generalize wK b 7 = S at h7 e2 ⊢
  by_cases c : a.length < 3
  · rw [if_pos c, if_pos (by omega)]; exact ⟨[], [], rfl, rfl⟩
  · rw [if_neg c, if_neg (show ¬ b.length < 3 by omega)]
    by_cases d : R.length < 3
    · rw [if_pos d, if_pos (by omega)]; exact ⟨[], [], rfl, rfl⟩
    · rw [if_neg d, if_neg (by omega)]; exact h7
theorem Rot.count {a b : Row} (h : Rot a b) (v : List Int) : b.count v = a.count v := by
  obtain ⟨x, y, rfl, rfl⟩ := h
  simp [List.count_append]; omega
theorem rot_take (row : Row) (k : Nat) : Rot row (row.drop k ++ row.take k) := ⟨row.take k, row.drop k, (List.take_append_drop k row).symm, rfl⟩
/-- how many of the first m are v -/
def cnt (row : Row) (v : List Int) (m : Nat) : Nat := (row.take m).count v
theorem cnt_zero (row : Row) (v : List Int) : cnt row v 0 = 0 := by simp [cnt]
theorem cnt_succ {row : Row} {v : List Int} {m : Nat} (h : m < row.length) : cnt row v (m + 1) = cnt row v m + if at_ row m = v then 1 else 0 := by
  unfold cnt at_
  rw [List.take_add_one, List.getElem?_eq_getElem h, List.count_append, List.getD_eq_getElem?_getD, List.getElem?_eq_getElem h]
  simp only [Option.toList_some, Option.getD_some, List.count_singleton, beq_iff_eq]
theorem cnt_all (row : Row) (v : List Int) : cnt row v row.length = row.count v := by simp [cnt]

/-! How near the plane -/
theorem btw_near (a b t : Int) : ∃ r, -32768 ≤ r ∧ r ≤ 32768 ∧ 65536 * (btw a b t - a) = t * (b - a) + r := by
  have h1 := near_lo (t * (b - a)) 65536 (by omega)
  have h2 := near_hi (t * (b - a)) 65536 (by omega)
  refine ⟨65536 * (btw a b t - a) - t * (b - a), ?_, ?_, by omega⟩ <;> (unfold btw; omega)
theorem tV_near {d e : Int} (hd : 0 ≤ d) (he : e < 0) : 2 * (tV d e * (d - e)) - 131072 * d ≤ d - e ∧ 131072 * d - 2 * (tV d e * (d - e)) ≤ d - e := by
  have h0 := near_between (n := 65536 * d) (d := d - e) (lo := 0) (hi := 65536) (by omega) (by omega) (by omega)
  have ht : tV d e = near (65536 * d) (d - e) := by unfold tV; rw [if_pos (by omega)]; omega
  have h1 := near_lo (65536 * d) (d - e) (by omega)
  have h2 := near_hi (65536 * d) (d - e) (by omega)
  rw [ht]
  have e1 : 2 * near (65536 * d) (d - e) * (d - e) = 2 * (near (65536 * d) (d - e) * (d - e)) := Int.mul_assoc ..
  omega
theorem cut_near {a b : List Int} {k : Int} (h0 : 0 ≤ k) (h6 : k ≤ 6) (hd : 0 ≤ insV a k) (he : insV b k < 0) :
    insV (cutV a b k) k ≤ (insV a k - insV b k) / 131072 + 3 ∧ -((insV a k - insV b k) / 131072 + 3) ≤ insV (cutV a b k) k := by
  have hn := tV_near hd he
  have hr := fun i => btw_near (g a i) (g b i) (cutT a b k)
  obtain ⟨r0, p0, q0, e0⟩ := hr 0
  obtain ⟨r1, p1, q1, e1⟩ := hr 1
  obtain ⟨r2, p2, q2, e2⟩ := hr 2
  obtain ⟨r3, p3, q3, e3⟩ := hr 3
  have ex : ∀ x y : Int, cutT a b k * (x - y) = cutT a b k * x - cutT a b k * y := fun x y => Int.mul_sub ..
  have ec : ∀ (x y z w u v : Int), g [x, y, z, w, u, v] 0 = x ∧ g [x, y, z, w, u, v] 1 = y ∧ g [x, y, z, w, u, v] 2 = z ∧ g [x, y, z, w, u, v] 3 = w := fun _ _ _ _ _ _ => ⟨rfl, rfl, rfl, rfl⟩
  have key : ∃ r, -65536 ≤ r ∧ r ≤ 65536 ∧ 65536 * (insV (cutV a b k) k - insV a k) = cutT a b k * (insV b k - insV a k) + r := by
    rw [ex] at e0 e1 e2 e3 ⊢
    have hk : k = 0 ∨ k = 1 ∨ k = 2 ∨ k = 3 ∨ k = 4 ∨ k = 5 ∨ k = 6 := by omega
    have ea : ∀ x y : Int, cutT a b k * (x + y) = cutT a b k * x + cutT a b k * y := fun x y => Int.mul_add ..
    rcases hk with h | h | h | h | h | h | h
    · refine ⟨r3, by omega, by omega, ?_⟩
      have i1 : ∀ v, insV v k = g v 3 - 256 := fun v => by unfold insV; rw [h]; rfl
      rw [i1, i1, i1, ex, ex]
      simp only [cutV, ec]
      omega
    · refine ⟨r3 + r0, by omega, by omega, ?_⟩
      have i1 : ∀ v, insV v k = g v 3 + g v 0 := fun v => by unfold insV; rw [h]; rfl
      rw [i1, i1, i1, ea, ea]
      simp only [cutV, ec]
      omega
    · refine ⟨r3 - r0, by omega, by omega, ?_⟩
      have i1 : ∀ v, insV v k = g v 3 - g v 0 := fun v => by unfold insV; rw [h]; rfl
      rw [i1, i1, i1, ex, ex]
      simp only [cutV, ec]
      omega
    · refine ⟨r3 + r1, by omega, by omega, ?_⟩
      have i1 : ∀ v, insV v k = g v 3 + g v 1 := fun v => by unfold insV; rw [h]; rfl
      rw [i1, i1, i1, ea, ea]
      simp only [cutV, ec]
      omega
    · refine ⟨r3 - r1, by omega, by omega, ?_⟩
      have i1 : ∀ v, insV v k = g v 3 - g v 1 := fun v => by unfold insV; rw [h]; rfl
      rw [i1, i1, i1, ex, ex]
      simp only [cutV, ec]
      omega
    · refine ⟨r3 + r2, by omega, by omega, ?_⟩
      have i1 : ∀ v, insV v k = g v 3 + g v 2 := fun v => by unfold insV; rw [h]; rfl
      rw [i1, i1, i1, ea, ea]
      simp only [cutV, ec]
      omega
    · refine ⟨r3 - r2, by omega, by omega, ?_⟩
      have i1 : ∀ v, insV v k = g v 3 - g v 2 := fun v => by unfold insV; rw [h]; rfl
      rw [i1, i1, i1, ex, ex]
      simp only [cutV, ec]
      omega
  obtain ⟨r, p, q, e⟩ := key
  have hT : cutT a b k = tV (insV a k) (insV b k) := rfl
  rw [hT] at e
  have e9 : tV (insV a k) (insV b k) * (insV b k - insV a k) = -(tV (insV a k) (insV b k) * (insV a k - insV b k)) := by rw [← Int.mul_neg]; congr 1; omega
  rw [e9] at e
  omega
end Go.Proofs.Ytimfjogallcgnaa.ClH
