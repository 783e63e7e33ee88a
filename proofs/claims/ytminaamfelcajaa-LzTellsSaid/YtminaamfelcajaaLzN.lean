/-
  What more or fewer bytes do, and how many are unpacked (mathematics).
-/
import Derived.Test.YtminaamfelcajaaLzC
namespace Go.Proofs.Ytminaamfelcajaa.LzN
open MaM BitB BitD LzM LzC
set_option linter.unusedVariables false
set_option linter.unusedSimpArgs false
theorem bitAt_app {zs t : List Int} {j : Nat} (h : j < 8 * zs.length) : bitAt (zs ++ t) j = bitAt zs j := by
  unfold bitAt
  congr 3
  simp only [List.getD_eq_getElem?_getD]
  rw [List.getElem?_append_left (by omega)]
theorem getV_app {zs t : List Int} {a : Nat} : ∀ n, a + n ≤ 8 * zs.length → getV (zs ++ t) a n = getV zs a n
  | 0, _ => rfl
  | n + 1, h => by
    unfold getV
    rw [getV_app n (by omega), bitAt_app (by omega)]
theorem getN_app {zs t : List Int} {a n v a' : Nat} (h : getN zs a n = some (v, a')) : getN (zs ++ t) a n = some (v, a') := by
  obtain ⟨h1, h2, h3, h4⟩ := getN_le h
  unfold getN
  rw [if_pos (by rw [List.length_append]; omega), getV_app n (by omega), h3, h1]
theorem tok_app {zs t : List Int} {count a a' : Nat} {b b' : List Int} (h : LzM.tok zs count a b = some (a', b')) : LzM.tok (zs ++ t) count a b = some (a', b') := by
  unfold LzM.tok at h ⊢
  cases h1 : getN zs a 1 with
  | none => rw [h1] at h; cases h
  | some r =>
    obtain ⟨kd, a1⟩ := r
    rw [h1] at h
    rw [getN_app h1]
    simp only at h ⊢
    by_cases hk : kd = 1
    · rw [if_pos hk] at h ⊢
      cases h2 : getN zs a1 12 with
      | none => rw [h2] at h; cases h
      | some r =>
        obtain ⟨d, a2⟩ := r
        rw [h2] at h
        rw [getN_app h2]
        simp only at h ⊢
        cases h3 : getN zs a2 8 with
        | none => rw [h3] at h; cases h
        | some r =>
          obtain ⟨n, a3⟩ := r
          rw [h3] at h
          rw [getN_app h3]
          exact h
    · rw [if_neg hk] at h ⊢
      cases h2 : getN zs a1 8 with
      | none => rw [h2] at h; cases h
      | some r =>
        obtain ⟨c, a2⟩ := r
        rw [h2] at h
        rw [getN_app h2]
        exact h
theorem unF_app {zs t : List Int} {count : Nat} {r : Nat × List Int} : ∀ (f a : Nat) (b : List Int), unF zs count f a b = some r → unF (zs ++ t) count f a b = some r
  | 0, a, b, h => h
  | f + 1, a, b, h => by
    have h' : (if b.length < count then (match LzM.tok zs count a b with | none => none | some (a', b') => unF zs count f a' b') else some (a, b)) = some r := h
    show (if b.length < count then (match LzM.tok (zs ++ t) count a b with | none => none | some (a', b') => unF (zs ++ t) count f a' b') else some (a, b)) = some r
    by_cases hb : b.length < count
    · rw [if_pos hb] at h' ⊢
      cases h1 : LzM.tok zs count a b with
      | none => rw [h1] at h'; cases h'
      | some q =>
        obtain ⟨a', b'⟩ := q
        rw [h1] at h'
        rw [tok_app h1]
        exact unF_app f a' b' h'
    · rw [if_neg hb] at h' ⊢
      exact h'
/-- the reader stays within its bytes, and the row gets its count -/
theorem unF_le {zs : List Int} {count a' : Nat} {b' : List Int} : ∀ (f a : Nat) (b : List Int), unF zs count f a b = some (a', b') → a ≤ 8 * zs.length → b.length ≤ count → count ≤ b.length + f → a' ≤ 8 * zs.length ∧ b'.length = count
  | 0, a, b, h, h1, h2, h3 => by
    have h' : (some (a, b) : Option (Nat × List Int)) = some (a', b') := h
    cases h'
    exact ⟨h1, by omega⟩
  | f + 1, a, b, h, h1, h2, h3 => by
    have h' : (if b.length < count then (match LzM.tok zs count a b with | none => none | some (a', b') => unF zs count f a' b') else some (a, b)) = some (a', b') := h
    by_cases hb : b.length < count
    · rw [if_pos hb] at h'
      cases h4 : LzM.tok zs count a b with
      | none => rw [h4] at h'; cases h'
      | some q =>
        obtain ⟨a2, b2⟩ := q
        rw [h4] at h'
        have h5 := tok_le h4 hb
        exact unF_le f a2 b2 h' h5.2.2.1 h5.2.1 (by omega)
    · rw [if_neg hb] at h'
      cases h'
      exact ⟨h1, by omega⟩
theorem unL_parts {zs : List Int} {u : List Int} (h : unL zs = some u) : ∃ count a a', getN zs 0 16 = some (count, a) ∧ unF zs count count a [] = some (a', u) ∧ Noughts zs a' := by
  unfold unL at h
  cases h1 : getN zs 0 16 with
  | none => rw [h1] at h; cases h
  | some r =>
    obtain ⟨count, a⟩ := r
    rw [h1] at h
    simp only at h
    cases h2 : unF zs count count a [] with
    | none => rw [h2] at h; cases h
    | some q =>
      obtain ⟨a', b⟩ := q
      rw [h2] at h
      simp only at h
      by_cases hn : Noughts zs a'
      · rw [if_pos hn] at h
        cases h
        exact ⟨count, a, a', rfl, h2, hn⟩
      · rw [if_neg hn] at h
        cases h
/-- what the packed bytes themselves do -/
theorem pack_run {l : List Int} (hz : ∀ z ∈ l, 0 ≤ z ∧ z ≤ 255) (hl : l.length < 65536) : getN (pack (packB l)) 0 16 = some (l.length, 16) ∧ unF (pack (packB l)) l.length l.length 16 [] = some ((packB l).length, l) := by
  have hB := packB_bits l
  have g1 := getN_put (B := packB l) (pre := []) hB (show packB l = [] ++ (putL l.length 16 ++ packF l l.length 0) from rfl) (show l.length < 2 ^ 16 by omega)
  rw [List.length_nil, Nat.zero_add] at g1
  have h2 := unF_put hB hz l.length l.length 0 (putL l.length 16) (Nat.zero_le _) (by omega) (by omega) rfl
  rw [putL_length, List.take_zero] at h2
  exact ⟨g1, h2⟩
theorem un_more {l : List Int} (hz : ∀ z ∈ l, 0 ≤ z ∧ z ≤ 255) (hl : l.length < 65536) (t : Int) : unL (pack (packB l) ++ [t]) = none := by
  obtain ⟨h1, h2⟩ := pack_run hz hl
  have hp := pack_length (packB l)
  refine unL_rest (getN_app h1) (unF_app _ _ _ h2) fun hn => ?_
  have := hn.1
  rw [List.length_append, List.length_singleton] at this
  omega
theorem un_less {l : List Int} (hz : ∀ z ∈ l, 0 ≤ z ∧ z ≤ 255) (hl : l.length < 65536) (h2 : 2 ≤ (pack (packB l)).length) : unL ((pack (packB l)).take ((pack (packB l)).length - 1)) = none := by
  cases h : unL ((pack (packB l)).take ((pack (packB l)).length - 1)) with
  | none => rfl
  | some u =>
    exfalso
    obtain ⟨count, a, a', g1, g2, -⟩ := unL_parts h
    obtain ⟨k1, k2⟩ := pack_run hz hl
    have e := List.take_append_drop ((pack (packB l)).length - 1) (pack (packB l))
    have g1' := getN_app (t := (pack (packB l)).drop ((pack (packB l)).length - 1)) g1
    rw [e, k1] at g1'
    cases g1'
    have g2' := unF_app (t := (pack (packB l)).drop ((pack (packB l)).length - 1)) _ _ _ g2
    rw [e, k2] at g2'
    cases g2'
    have h3 := (unF_le _ _ _ g2 (getN_le g1).2.1 (by simp) (by simp)).1
    have hp := pack_length (packB l)
    rw [List.length_take] at h3
    omega
/-! the head -/
theorem getV_part {zs : List Int} {a k i z : Nat} (hz : zs.getD i 0 = (z : Int)) (hz2 : z < 256) (h : a + k = 8 * i) : ∀ r, r ≤ 8 → getV zs a (k + r) = getV zs a k * 2 ^ r + z / 2 ^ (8 - r)
  | 0, _ => by
    show getV zs a k = getV zs a k * 1 + z / 256
    rw [Nat.div_eq_of_lt hz2]
    omega
  | r + 1, hr => by
    have ih := getV_part hz hz2 h r (by omega)
    have b : bitAt zs (a + (k + r)) = z / 2 ^ (8 - (r + 1)) % 2 := by
      unfold bitAt
      rw [show (a + (k + r)) / 8 = i by omega, show (a + (k + r)) % 8 = r by omega, hz, Int.toNat_natCast, show 8 - (r + 1) = 7 - r by omega]
    show getV zs a (k + r) * 2 + bitAt zs (a + (k + r)) = _
    rw [ih, b, show 8 - r = 8 - (r + 1) + 1 by omega, Nat.pow_succ 2 (8 - (r + 1)), ← Nat.div_div_eq_div_mul, Nat.pow_succ 2 r, ← Nat.mul_assoc]
    generalize getV zs a k * 2 ^ r = X
    generalize z / 2 ^ (8 - (r + 1)) = y
    omega
theorem getV_byte {zs : List Int} {a k i : Nat} (hz : 0 ≤ zs.getD i 0 ∧ zs.getD i 0 ≤ 255) (h : a + k = 8 * i) : getV zs a (k + 8) = getV zs a k * 256 + (zs.getD i 0).toNat := by
  have := getV_part (zs := zs) (a := a) (k := k) (i := i) (z := (zs.getD i 0).toNat) (by omega) (by omega) h 8 (Nat.le_refl _)
  rw [this]
  show _ * 256 + _ / 1 = _
  rw [Nat.div_one]
/-- whatever is unpacked has as many bytes as its head says -/
theorem un_head {zs u : List Int} (hz : ∀ z ∈ zs, 0 ≤ z ∧ z ≤ 255) (h : unL zs = some u) : 2 ≤ zs.length ∧ u.length = (zs.getD 0 0).toNat * 256 + (zs.getD 1 0).toNat := by
  obtain ⟨count, a, a', g1, g2, -⟩ := unL_parts h
  obtain ⟨h1, h2, h3, h4⟩ := getN_le g1
  have h5 := unF_le _ _ _ g2 h2 (by simp) (by simp)
  have hz' : ∀ i, i < zs.length → 0 ≤ zs.getD i 0 ∧ zs.getD i 0 ≤ 255 := fun i hi => by
    rw [List.getD_eq_getElem?_getD, List.getElem?_eq_getElem hi]
    exact hz _ (List.getElem_mem hi)
  refine ⟨by omega, ?_⟩
  rw [h5.2, h3]
  have b1 := getV_byte (a := 0) (k := 8) (i := 1) (hz' 1 (by omega)) rfl
  have b0 := getV_byte (a := 0) (k := 0) (i := 0) (hz' 0 (by omega)) rfl
  have v0 : getV zs 0 0 = 0 := rfl
  rw [show (0 : Nat) + 8 = 8 from rfl] at b0
  rw [show (8 : Nat) + 8 = 16 from rfl] at b1
  rw [b1, b0, v0]
  omega
end Go.Proofs.Ytminaamfelcajaa.LzN
