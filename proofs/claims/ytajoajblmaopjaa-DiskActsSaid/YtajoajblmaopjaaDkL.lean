/-
  What is held back, as a list of pairs (sector, bytes) by rising sectors: the mathematics that DiskActs' reference needs.
-/
import Derived.Test.YtajoajblmaopjaaDkG
namespace Go.Proofs.Ytajoajblmaopjaa.DkL
open DkA DkB DkC DkG
/-- the sectors that are held, from number o on -/
def hl : List (Bool × List Int) → Nat → List (Nat × List Int)
  | [], _ => []
  | (q, l) :: t, o => if q = true then (o, l) :: hl t (o + 1) else hl t (o + 1)
theorem hl_app (A B : List (Bool × List Int)) (o : Nat) : hl (A ++ B) o = hl A o ++ hl B (o + A.length) := by
  induction A generalizing o with
  | nil => simp [hl]
  | cons a A ih =>
    obtain ⟨q, l⟩ := a
    have e : o + 1 + A.length = o + (A.length + 1) := by omega
    cases q with
    | true => simp [hl, ih, e]
    | false => simp [hl, ih, e]
theorem hl_mem {A : List (Bool × List Int)} {o : Nat} {x : Nat × List Int} (h : x ∈ hl A o) : o ≤ x.1 ∧ x.1 < o + A.length := by
  induction A generalizing o with
  | nil => simp [hl] at h
  | cons a A ih =>
    obtain ⟨q, l⟩ := a
    cases q with
    | true =>
      simp only [hl, if_true, List.mem_cons] at h
      rcases h with h | h
      · subst h; simp
      · have := ih h; simp; omega
    | false =>
      have h2 : x ∈ hl A (o + 1) := by simpa [hl] using h
      have := ih h2; simp; omega
theorem split_at {H : List (Bool × List Int)} {i : Nat} (hi : i < H.length) : H = H.take i ++ H[i] :: H.drop (i + 1) := by
  rw [← List.drop_eq_getElem_cons hi, List.take_append_drop]
/-- in front of a sector, itself, behind it -/
theorem hl_split {H : List (Bool × List Int)} {i : Nat} (hi : i < H.length) : hl H 0 = hl (H.take i) 0 ++ ((if H[i].1 = true then [(i, H[i].2)] else []) ++ hl (H.drop (i + 1)) (i + 1)) := by
  have e : (H.take i).length = i := by simp; omega
  conv => lhs; rw [split_at hi]
  rw [hl_app, e, Nat.zero_add]
  congr 1
  generalize H[i] = a
  obtain ⟨q, l⟩ := a
  cases q with
  | true => simp [hl]
  | false => simp [hl]
theorem hl_set {H : List (Bool × List Int)} {i : Nat} (hi : i < H.length) (q : Bool) (l : List Int) : hl (H.set i (q, l)) 0 = hl (H.take i) 0 ++ ((if q = true then [(i, l)] else []) ++ hl (H.drop (i + 1)) (i + 1)) := by
  have h2 : i < (H.set i (q, l)).length := by simpa using hi
  rw [hl_split h2]
  have e1 : (H.set i (q, l)).take i = H.take i := by rw [List.take_set_of_le (Nat.le_refl i)]
  have e2 : (H.set i (q, l)).drop (i + 1) = H.drop (i + 1) := by rw [List.drop_set_of_lt (by omega)]
  have e3 : (H.set i (q, l))[i] = (q, l) := by simp
  rw [e1, e2, e3]
theorem front_lt {H : List (Bool × List Int)} {i : Nat} (hi : i < H.length) : ∀ x ∈ hl (H.take i) 0, x.1 < i := fun x hx => by
  have := hl_mem hx
  rw [List.length_take] at this
  omega
theorem behind_gt {H : List (Bool × List Int)} {i : Nat} : ∀ x ∈ hl (H.drop (i + 1)) (i + 1), i < x.1 := fun x hx => by
  have := hl_mem hx
  omega
theorem hl_none {A : List (Bool × List Int)} (h : ∀ a ∈ A, a.1 = false) (o : Nat) : hl A o = [] := by
  induction A generalizing o with
  | nil => rfl
  | cons a A ih =>
    have h1 := h a (by simp)
    have h2 := ih (fun x hx => h x (by simp [hx])) (o + 1)
    obtain ⟨q, l⟩ := a
    have h1' : q = false := h1
    subst h1'
    simp [hl, h2]
/-- those of the list that a mask keeps, its bits told from c on -/
def kp (ms : Int) : List (Nat × List Int) → Nat → List Nat
  | [], _ => []
  | (a, _) :: t, c => if bitX ms c then a :: kp ms t (c + 1) else kp ms t (c + 1)
theorem kp_app (ms : Int) (A B : List (Nat × List Int)) (c : Nat) : kp ms (A ++ B) c = kp ms A c ++ kp ms B (c + A.length) := by
  induction A generalizing c with
  | nil => simp [kp]
  | cons a A ih =>
    obtain ⟨x, l⟩ := a
    have e : c + 1 + A.length = c + (A.length + 1) := by omega
    by_cases h : bitX ms c
    · simp [kp, h, ih, e]
    · simp [kp, h, ih, e]
theorem up_hl (s : DS) : ∀ m, m ≤ s.H.length → (upN s m).2.1 = (hl (s.H.take m) 0).length ∧ (upN s m).2.2 = kp s.ms (hl (s.H.take m) 0) 0 ∧ ∀ j, m ≤ j → H_ (upN s m).1 j = H_ s j
  | 0, _ => ⟨rfl, rfl, fun j _ => rfl⟩
  | m + 1, h => by
    obtain ⟨i1, i2, i3⟩ := up_hl s m (by omega)
    have hm : m < s.H.length := by omega
    have ht : s.H.take (m + 1) = s.H.take m ++ [s.H[m]] := by rw [List.take_add_one, List.getElem?_eq_getElem hm]; rfl
    have hlen : (s.H.take m).length = m := by simp; omega
    have hH : H_ s m = s.H[m] := by unfold H_; simp [List.getD, hm]
    have e1 := i3 m (Nat.le_refl _)
    have hl8 := (up_lens s m).2
    have hk1 : ∀ j, m + 1 ≤ j → H_ (kpS (upN s m).1 m) j = H_ s j := fun j hj => by
      have : H_ (kpS (upN s m).1 m) j = if j = m then (false, z32) else H_ (upN s m).1 j := getD_set (by omega)
      rw [this, if_neg (by omega)]; exact i3 j (by omega)
    have hk2 : ∀ j, m + 1 ≤ j → H_ (clS (upN s m).1 m) j = H_ s j := fun j hj => by
      have : H_ (clS (upN s m).1 m) j = if j = m then (false, z32) else H_ (upN s m).1 j := getD_set (by omega)
      rw [this, if_neg (by omega)]; exact i3 j (by omega)
    rw [ht, hl_app, hlen, Nat.zero_add, up_step, e1, hH]
    generalize s.H[m] = a
    obtain ⟨q, l⟩ := a
    cases q with
    | false =>
      rw [if_neg (by simp)]
      refine ⟨by simp [hl, i1], by simp [hl, i2], fun j hj => i3 j (by omega)⟩
    | true =>
      rw [if_pos rfl, kp_app, Nat.zero_add, i1]
      by_cases hb : bitX s.ms (hl (s.H.take m) 0).length
      · rw [if_pos hb]
        refine ⟨by simp [hl], by simp [hl, kp, hb, i2], hk1⟩
      · rw [if_neg hb]
        refine ⟨by simp [hl], by simp [hl, kp, hb, i2], hk2⟩
/-- where a sector that is held stands: there alone -/
theorem held_at {H : List (Bool × List Int)} {i : Nat} (hi : i < H.length) (hq : H[i].1 = true) :
    (hl H 0)[(hl (H.take i) 0).length]? = some (i, H[i].2) ∧ ∀ k a, (hl H 0)[k]? = some a → a.1 = i → k = (hl (H.take i) 0).length := by
  rw [hl_split hi, if_pos hq]
  have hF := front_lt hi
  have hB := behind_gt (H := H) (i := i)
  generalize hl (H.take i) 0 = F at hF
  generalize hl (H.drop (i + 1)) (i + 1) = B at hB
  refine ⟨by simp, fun k a hk ha => ?_⟩
  rcases Nat.lt_trichotomy k F.length with h | h | h
  · rw [List.getElem?_append_left h] at hk
    have := hF a (List.mem_of_getElem? hk)
    omega
  · exact h
  · rw [List.getElem?_append_right (by omega)] at hk
    obtain ⟨d, hd⟩ : ∃ d, k - F.length = d + 1 := ⟨k - F.length - 1, by omega⟩
    rw [hd] at hk
    have hk2 : B[d]? = some a := by simpa using hk
    have := hB a (List.mem_of_getElem? hk2)
    omega
/-- one that is not held: in front of it the lower ones, behind it the higher -/
theorem free_at {H : List (Bool × List Int)} {i : Nat} (hi : i < H.length) (hq : H[i].1 = false) :
    hl H 0 = hl (H.take i) 0 ++ hl (H.drop (i + 1)) (i + 1) ∧ ∀ a ∈ hl H 0, a.1 ≠ i := by
  have hF := front_lt hi
  have hB := behind_gt (H := H) (i := i)
  have e : hl H 0 = hl (H.take i) 0 ++ hl (H.drop (i + 1)) (i + 1) := by
    rw [hl_split hi, if_neg (by rw [hq]; decide)]; simp
  refine ⟨e, fun a ha => ?_⟩
  rw [e, List.mem_append] at ha
  rcases ha with ha | ha
  · have := hF a ha; omega
  · have := hB a ha; omega
end Go.Proofs.Ytajoajblmaopjaa.DkL
