/-
  Packed bytes: what they are, and what they are unpacked to (mathematics).
-/
import Derived.Test.YtminaamfelcajaaMaM
import Derived.Test.YtminaamfelcajaaBitD
namespace Go.Proofs.Ytminaamfelcajaa.LzM
open MaM BitB BitD
set_option linter.unusedVariables false
set_option linter.unusedSimpArgs false
/-! packing -/
def bst (l : List Int) (a : Nat) : Nat × Nat := best l a (all l a)
def stepB (l : List Int) (a : Nat) : List Nat := if (bst l a).2 = 0 then putL 0 1 ++ putL (l.getD a 0).toNat 8 else putL 1 1 ++ putL ((bst l a).1 - 1) 12 ++ putL ((bst l a).2 - 3) 8
def nextA (l : List Int) (a : Nat) : Nat := if (bst l a).2 = 0 then a + 1 else a + (bst l a).2
def packF (l : List Int) : Nat → Nat → List Nat
  | 0, _ => []
  | f + 1, a => if a < l.length then stepB l a ++ packF l f (nextA l a) else []
def packB (l : List Int) : List Nat := putL l.length 16 ++ packF l l.length 0
theorem next_bd {l : List Int} {a : Nat} (h : a < l.length) : a < nextA l a ∧ nextA l a ≤ l.length ∧ (stepB l a).length ≤ 9 * (nextA l a - a) := by
  unfold nextA stepB
  by_cases h0 : (bst l a).2 = 0
  · rw [if_pos h0, if_pos h0, List.length_append, putL_length, putL_length]
    omega
  · rw [if_neg h0, if_neg h0, List.length_append, List.length_append, putL_length, putL_length, putL_length]
    obtain ⟨d, m, e, h1, h2, h3, h4, h5, h6, h7, h8⟩ := best_is h0
    have e2 : (bst l a).2 = m := congrArg (·.2) e
    rw [e2]
    omega
theorem packF_len (l : List Int) : ∀ f a, (packF l f a).length ≤ 9 * (l.length - a)
  | 0, a => Nat.zero_le _
  | f + 1, a => by
    unfold packF
    split
    · rename_i h
      have h1 := next_bd h
      have h2 := packF_len l f (nextA l a)
      rw [List.length_append]
      omega
    · exact Nat.zero_le _
theorem packF_end {l : List Int} {a : Nat} (h : l.length ≤ a) : ∀ f, packF l f a = []
  | 0 => rfl
  | f + 1 => if_neg (by omega)
theorem packB_len (l : List Int) : (packB l).length ≤ 16 + 9 * l.length := by
  unfold packB
  rw [List.length_append, putL_length]
  have := packF_len l l.length 0
  omega
theorem stepB_bits (l : List Int) (a : Nat) : Bits (stepB l a) := by
  unfold stepB
  split
  · exact (putL_bits _ _).append (putL_bits _ _)
  · exact ((putL_bits _ _).append (putL_bits _ _)).append (putL_bits _ _)
theorem packF_bits (l : List Int) : ∀ f a, Bits (packF l f a)
  | 0, a => fun b hb => by cases hb
  | f + 1, a => by
    unfold packF
    split
    · exact (stepB_bits l a).append (packF_bits l f _)
    · exact fun b hb => by cases hb
theorem packB_bits (l : List Int) : Bits (packB l) := (putL_bits _ _).append (packF_bits l _ _)
/-! unpacking -/
def getN (zs : List Int) (a n : Nat) : Option (Nat × Nat) := if a + n ≤ 8 * zs.length then some (getV zs a n, a + n) else none
def again (b : List Int) (d : Nat) : Nat → List Int
  | 0 => b
  | k + 1 => again b d k ++ [(again b d k).getD ((again b d k).length - d) 0]
theorem again_len (b : List Int) (d : Nat) : ∀ k, (again b d k).length = b.length + k
  | 0 => rfl
  | k + 1 => by unfold again; rw [List.length_append, again_len b d k]; rfl
def tok (zs : List Int) (count a : Nat) (b : List Int) : Option (Nat × List Int) :=
  match getN zs a 1 with
  | none => none
  | some (kd, a1) =>
    if kd = 1 then
      match getN zs a1 12 with
      | none => none
      | some (d, a2) =>
        match getN zs a2 8 with
        | none => none
        | some (n, a3) => if b.length < d + 1 ∨ count - b.length < n + 3 then none else some (a3, again b (d + 1) (n + 3))
    else
      match getN zs a1 8 with
      | none => none
      | some (c, a2) => some (a2, b ++ [(c : Int)])
def unF (zs : List Int) (count : Nat) : Nat → Nat → List Int → Option (Nat × List Int)
  | 0, a, b => some (a, b)
  | f + 1, a, b => if b.length < count then (match tok zs count a b with | none => none | some (a', b') => unF zs count f a' b') else some (a, b)
open Classical in
noncomputable def unL (zs : List Int) : Option (List Int) :=
  match getN zs 0 16 with
  | none => none
  | some (count, a) =>
    match unF zs count count a [] with
    | none => none
    | some (a', b) => if Noughts zs a' then some b else none
theorem getN_le {zs : List Int} {a n v a' : Nat} (h : getN zs a n = some (v, a')) : a' = a + n ∧ a' ≤ 8 * zs.length ∧ v = getV zs a n ∧ v < 2 ^ n := by
  unfold getN at h
  split at h
  · cases h
    exact ⟨rfl, by assumption, rfl, getV_lt _ _ _⟩
  · cases h
/-- a token makes the row longer, not beyond its count; the reader stays within its bytes -/
theorem tok_le {zs : List Int} {count a : Nat} {b b' : List Int} {a' : Nat} (h : tok zs count a b = some (a', b')) (hb : b.length < count) : b.length < b'.length ∧ b'.length ≤ count ∧ a' ≤ 8 * zs.length ∧ a < a' := by
  unfold tok at h
  cases h1 : getN zs a 1 with
  | none => rw [h1] at h; cases h
  | some r =>
    obtain ⟨kd, a1⟩ := r
    rw [h1] at h
    have g1 := getN_le h1
    simp only at h
    split at h
    · cases h2 : getN zs a1 12 with
      | none => rw [h2] at h; cases h
      | some r =>
        obtain ⟨d, a2⟩ := r
        rw [h2] at h
        have g2 := getN_le h2
        simp only at h
        cases h3 : getN zs a2 8 with
        | none => rw [h3] at h; cases h
        | some r =>
          obtain ⟨n, a3⟩ := r
          rw [h3] at h
          have g3 := getN_le h3
          simp only at h
          split at h
          · cases h
          · cases h
            rw [again_len]
            omega
    · cases h2 : getN zs a1 8 with
      | none => rw [h2] at h; cases h
      | some r =>
        obtain ⟨c, a2⟩ := r
        rw [h2] at h
        have g2 := getN_le h2
        cases h
        rw [List.length_append, List.length_singleton]
        omega
/-! what is packed is unpacked as it was -/
theorem getD_app2 {l m : List Nat} {i : Nat} : (l ++ m).getD (l.length + i) 0 = m.getD i 0 := by
  simp only [List.getD_eq_getElem?_getD]
  rw [List.getElem?_append_right (by omega), Nat.add_sub_cancel_left]
theorem getD_app1 {l m : List Nat} {i : Nat} (h : i < l.length) : (l ++ m).getD i 0 = l.getD i 0 := by
  simp only [List.getD_eq_getElem?_getD]
  rw [List.getElem?_append_left h]
theorem bitAt_pack {l : List Nat} (hl : Bits l) (j : Nat) (hj : j < 8 * (pack l).length) : bitAt (pack l) j = l.getD j 0 := by
  rw [pack_length] at hj
  have h1 : (pack l).getD (j / 8) 0 = byteAt l (j / 8) := by
    unfold pack
    simp [List.getD, show j / 8 < (l.length + 7) / 8 by omega]
  unfold bitAt
  rw [h1, Int.toNat_natCast]
  obtain ⟨i, hi⟩ : ∃ i, i = j / 8 := ⟨_, rfl⟩
  obtain ⟨r, hr⟩ : ∃ r, r = j % 8 := ⟨_, rfl⟩
  rw [← hi, ← hr, show j = 8 * i + r by omega]
  have hr8 : r < 8 := by omega
  have b0 := getD_bit hl (8 * i)
  have b1 := getD_bit hl (8 * i + 1)
  have b2 := getD_bit hl (8 * i + 2)
  have b3 := getD_bit hl (8 * i + 3)
  have b4 := getD_bit hl (8 * i + 4)
  have b5 := getD_bit hl (8 * i + 5)
  have b6 := getD_bit hl (8 * i + 6)
  have b7 := getD_bit hl (8 * i + 7)
  unfold byteAt
  rcases (show r = 0 ∨ r = 1 ∨ r = 2 ∨ r = 3 ∨ r = 4 ∨ r = 5 ∨ r = 6 ∨ r = 7 by omega) with rfl | rfl | rfl | rfl | rfl | rfl | rfl | rfl <;> simp only [Nat.add_zero, Nat.sub_zero, Nat.reduceSub, Nat.reducePow] <;> omega
theorem getV_put {zs : List Int} {a x n : Nat} (hx : x < 2 ^ n) (h : ∀ j, j < n → bitAt zs (a + j) = x / 2 ^ (n - 1 - j) % 2) (k : Nat) (hk : k ≤ n) : getV zs a k = x / 2 ^ (n - k) := by
  induction k with
  | zero => rw [Nat.sub_zero, Nat.div_eq_of_lt hx]; rfl
  | succ k ih =>
    unfold getV
    rw [ih (by omega), h k (by omega), show n - k = (n - (k + 1)) + 1 by omega, Nat.pow_succ, ← Nat.div_div_eq_div_mul, show n - 1 - k = n - (k + 1) by omega]
    omega
theorem putL_at {x n j : Nat} (h : j < n) : (putL x n).getD j 0 = x / 2 ^ (n - 1 - j) % 2 := by
  simp [putL, List.getD, h]
/-- what was put there is got there -/
theorem getN_put {B pre post : List Nat} {x n : Nat} (hB : Bits B) (e : B = pre ++ (putL x n ++ post)) (hx : x < 2 ^ n) : getN (pack B) pre.length n = some (x, pre.length + n) := by
  have hl : B.length = pre.length + (n + post.length) := by rw [e, List.length_append, List.length_append, putL_length]
  have hp := pack_length B
  unfold getN
  rw [if_pos (by omega)]
  have h1 := getV_put (zs := pack B) (a := pre.length) hx (fun j hj => by
    rw [bitAt_pack hB _ (by omega), e, getD_app2, getD_app1 (by rw [putL_length]; exact hj), putL_at hj]) n (Nat.le_refl _)
  rw [h1, Nat.sub_self, Nat.pow_zero, Nat.div_one]
theorem again_take {l : List Int} {a d : Nat} (hd1 : 1 ≤ d) (hda : d ≤ a) : ∀ m, a + m ≤ l.length → (∀ i, i < m → l.getD (a + i) 0 = l.getD (a + i - d) 0) → again (l.take a) d m = l.take (a + m)
  | 0, _, _ => rfl
  | m + 1, h1, h2 => by
    unfold again
    rw [again_take hd1 hda m (by omega) fun i hi => h2 i (by omega)]
    have hlen : (l.take (a + m)).length = a + m := by rw [List.length_take]; omega
    rw [hlen]
    have e1 : (l.take (a + m)).getD (a + m - d) 0 = l.getD (a + m) 0 := by
      rw [h2 m (by omega)]
      simp only [List.getD_eq_getElem?_getD]
      rw [List.getElem?_take_of_lt (by omega)]
    rw [e1, ← Nat.add_assoc, List.take_add_one]
    congr 1
    rw [List.getD_eq_getElem?_getD, List.getElem?_eq_getElem (by omega)]
    rfl
theorem tok_put {l : List Int} {B pre post : List Nat} {a : Nat} (hB : Bits B) (hz : ∀ z ∈ l, 0 ≤ z ∧ z ≤ 255) (ha : a < l.length) (e : B = pre ++ (stepB l a ++ post)) : tok (pack B) l.length pre.length (l.take a) = some (pre.length + (stepB l a).length, l.take (nextA l a)) := by
  unfold tok
  by_cases h0 : (bst l a).2 = 0
  · have es : stepB l a = putL 0 1 ++ putL (l.getD a 0).toNat 8 := if_pos h0
    have en : nextA l a = a + 1 := if_pos h0
    have e1 : B = pre ++ (putL 0 1 ++ (putL (l.getD a 0).toNat 8 ++ post)) := by rw [e, es, List.append_assoc]
    have e2 : B = (pre ++ putL 0 1) ++ (putL (l.getD a 0).toNat 8 ++ post) := by rw [e1, List.append_assoc]
    have hv : 0 ≤ l.getD a 0 ∧ l.getD a 0 ≤ 255 := by
      rw [List.getD_eq_getElem?_getD, List.getElem?_eq_getElem ha]
      exact hz _ (List.getElem_mem ha)
    have g1 := getN_put hB e1 (by decide)
    have g2 := getN_put hB e2 (show (l.getD a 0).toNat < 2 ^ 8 by omega)
    rw [List.length_append, putL_length] at g2
    rw [g1]
    simp only
    rw [if_neg (by decide), g2]
    simp only
    rw [es, en, List.length_append, putL_length, putL_length, Int.toNat_of_nonneg hv.1, List.take_add_one, List.getElem?_eq_getElem ha]
    congr 2
    congr 1
    rw [List.getD_eq_getElem?_getD, List.getElem?_eq_getElem ha]
    rfl
  · have es : stepB l a = putL 1 1 ++ putL ((bst l a).1 - 1) 12 ++ putL ((bst l a).2 - 3) 8 := if_neg h0
    have en : nextA l a = a + (bst l a).2 := if_neg h0
    obtain ⟨d, m, e0, h1, h2, h3, h4, h5, h6, h7, h8⟩ := best_is h0
    have ed : (bst l a).1 = d := congrArg (·.1) e0
    have em : (bst l a).2 = m := congrArg (·.2) e0
    obtain ⟨-, -, h9, -⟩ := all_mat h1
    rw [ed, em] at es
    rw [em] at en
    have e1 : B = pre ++ (putL 1 1 ++ (putL (d - 1) 12 ++ (putL (m - 3) 8 ++ post))) := by rw [e, es]; simp only [List.append_assoc]
    have e2 : B = (pre ++ putL 1 1) ++ (putL (d - 1) 12 ++ (putL (m - 3) 8 ++ post)) := by rw [e1, List.append_assoc]
    have e3 : B = (pre ++ putL 1 1 ++ putL (d - 1) 12) ++ (putL (m - 3) 8 ++ post) := by rw [e1]; simp only [List.append_assoc]
    have g1 := getN_put hB e1 (by decide)
    have g2 := getN_put hB e2 (show d - 1 < 2 ^ 12 by omega)
    have g3 := getN_put hB e3 (show m - 3 < 2 ^ 8 by omega)
    rw [List.length_append, putL_length] at g2
    rw [List.length_append, List.length_append, putL_length, putL_length] at g3
    rw [g1]
    simp only
    rw [if_pos trivial, g2]
    simp only
    rw [g3]
    simp only
    have hlt : (l.take a).length = a := by rw [List.length_take]; omega
    rw [hlt, if_neg (by omega), show d - 1 + 1 = d by omega, show m - 3 + 3 = m by omega, again_take h2 h3 m h6 h7, en, es]
    rw [List.length_append, List.length_append, putL_length, putL_length, putL_length]
theorem unF_put {l : List Int} {B : List Nat} (hB : Bits B) (hz : ∀ z ∈ l, 0 ≤ z ∧ z ≤ 255) : ∀ (f g a : Nat) (pre : List Nat), a ≤ l.length → l.length - a ≤ f → l.length - a ≤ g → B = pre ++ packF l g a → unF (pack B) l.length f pre.length (l.take a) = some (B.length, l)
  | f, g, a, pre, ha, hf, hg, e => by
    by_cases h : a < l.length
    · obtain ⟨f', rfl⟩ : ∃ f', f = f' + 1 := ⟨f - 1, by omega⟩
      obtain ⟨g', rfl⟩ : ∃ g', g = g' + 1 := ⟨g - 1, by omega⟩
      have e1 : packF l (g' + 1) a = stepB l a ++ packF l g' (nextA l a) := if_pos h
      rw [e1] at e
      have h1 := tok_put hB hz h e
      have h2 := next_bd h
      have hlt : (l.take a).length = a := by rw [List.length_take]; omega
      show (if (l.take a).length < l.length then _ else _) = _
      rw [hlt, if_pos h, h1]
      simp only
      have h3 := unF_put hB hz f' g' (nextA l a) (pre ++ stepB l a) h2.2.1 (by omega) (by omega) (by rw [e, List.append_assoc])
      rw [List.length_append] at h3
      exact h3
    · obtain rfl : a = l.length := by omega
      rw [packF_end (Nat.le_refl _), List.append_nil] at e
      subst e
      cases f with
      | zero => rw [List.take_length]; rfl
      | succ f =>
        show (if (l.take l.length).length < l.length then _ else _) = _
        rw [List.take_length, if_neg (by omega)]
theorem noughts_end {B : List Nat} (hB : Bits B) : Noughts (pack B) B.length := by
  have hp := pack_length B
  refine ⟨by omega, fun j h1 h2 => ?_⟩
  rw [bitAt_pack hB j h1]
  exact getD_out h2
theorem unL_pack {l : List Int} (hz : ∀ z ∈ l, 0 ≤ z ∧ z ≤ 255) (hl : l.length < 65536) : unL (pack (packB l)) = some l := by
  unfold unL
  have hB := packB_bits l
  have g1 := getN_put (B := packB l) (pre := []) hB (show packB l = [] ++ (putL l.length 16 ++ packF l l.length 0) from rfl) (show l.length < 2 ^ 16 by omega)
  rw [List.length_nil, Nat.zero_add] at g1
  rw [g1]
  simp only
  have h2 := unF_put hB hz l.length l.length 0 (putL l.length 16) (Nat.zero_le _) (by omega) (by omega) rfl
  rw [putL_length, List.take_zero] at h2
  rw [h2]
  simp only
  rw [if_pos (noughts_end hB)]
end Go.Proofs.Ytminaamfelcajaa.LzM
