/-
  The pages by their numbers: the mathematics.
-/
import Derived.Test.YtkklppjimnkibaaPgC
namespace Go.Proofs.Ytkklppjimnkibaa.PgN
open Go.RowKit Rd Go.Proofs.Ytkklppjimnkibaa.Row Mid PgM PgA PgB PgC
set_option linter.unusedVariables false
set_option linter.unusedSimpArgs false
set_option maxRecDepth 10000
def keyL (n : Int) (v : List Int) : Int := keyV n (PgM.g v 0) (PgM.g v 1) (PgM.g v 2)
theorem keys0 : ∀ i, i < 1 → keyL 0 (at_ (allV 0) i) = (i : Int) := by decide +kernel
theorem keys1 : ∀ i, i < 5 → keyL 1 (at_ (allV 1) i) = (i : Int) := by decide +kernel
theorem keys2 : ∀ i, i < 21 → keyL 2 (at_ (allV 2) i) = (i : Int) := by decide +kernel
theorem keys3 : ∀ i, i < 85 → keyL 3 (at_ (allV 3) i) = (i : Int) := by decide +kernel
theorem n4 {n : Nat} (h : n ≤ 3) : n = 0 ∨ n = 1 ∨ n = 2 ∨ n = 3 := by omega
theorem len0 : (allV 0).length = 1 := by decide +kernel
theorem len1 : (allV 1).length = 5 := by decide +kernel
theorem len2 : (allV 2).length = 21 := by decide +kernel
theorem len3' : (allV 3).length = 85 := by decide +kernel
theorem keys (n i : Nat) (hn : n ≤ 3) (hi : i < (allV n).length) : keyL n (at_ (allV n) i) = (i : Int) := by
  rcases n4 hn with rfl | rfl | rfl | rfl
  · exact keys0 i (Nat.lt_of_lt_of_eq hi len0)
  · exact keys1 i (Nat.lt_of_lt_of_eq hi len1)
  · exact keys2 i (Nat.lt_of_lt_of_eq hi len2)
  · exact keys3 i (Nat.lt_of_lt_of_eq hi len3')
theorem page_key {n i : Nat} (hn : n ≤ 3) (hi : i < (allV n).length) : ∃ x0 x1 x2, at_ (allV n) i = [x0, x1, x2] ∧ keyV n x0 x1 x2 = (i : Int) := by
  obtain ⟨x0, x1, x2, e⟩ := len3 (three_all n (at_ (allV n) i) (by rw [at_eq hi]; exact List.getElem_mem _))
  have := keys n i hn hi
  rw [e] at this
  exact ⟨x0, x1, x2, e, this⟩
theorem key_valid {d L X Y : Int} {i : Nat} (h : keyV d L X Y = (i : Int)) : validB d L X Y = true := by
  cases hv : validB d L X Y with
  | true => rfl
  | false => rw [keyV_no hv] at h; omega
theorem key_front {d L X Y : Int} (h : validB d L X Y = true) : frontV d L ≤ keyV d L X Y ∧ keyV d L X Y < frontV d L + sd d L * sd d L := by
  rw [keyV_yes h]
  obtain ⟨⟨h1, h2⟩, ⟨h3, h4⟩, ⟨h5, h6⟩, ⟨h7, h8⟩⟩ := valid_yes h
  obtain ⟨s, es⟩ : ∃ s, sd d L = s := ⟨_, rfl⟩
  have b := sd_bd h3 h4 h2
  rw [es] at h6 h8 b ⊢
  have hs : s = 1 ∨ s = 2 ∨ s = 3 ∨ s = 4 ∨ s = 5 ∨ s = 6 ∨ s = 7 ∨ s = 8 := by omega
  rcases hs with rfl | rfl | rfl | rfl | rfl | rfl | rfl | rfl <;> omega
theorem front_mono {d l : Int} {j : Nat} : ∀ (m : Nat), 0 ≤ l → l + m + 1 ≤ d → d ≤ 3 → frontV d (l + m + 1) + sd d (l + m + 1) * sd d (l + m + 1) ≤ frontV d l := by
  intro m
  induction m with
  | zero =>
    intro h0 h1 h2
    have := front_step (d := d) (l := l + 1) (by omega) (by omega) h2
    rw [show l + 1 - 1 = l by omega] at this
    rw [show l + ((0 : Nat) : Int) + 1 = l + 1 by omega]
    omega
  | succ m ih =>
    intro h0 h1 h2
    have h3 := ih h0 (by omega) h2
    have := front_step (d := d) (l := l + m + 1 + 1) (by omega) (by omega) h2
    rw [show l + m + 1 + 1 - 1 = l + m + 1 by omega] at this
    have hb : 0 ≤ sd d (l + m + 1) * sd d (l + m + 1) := by
      have b := sd_bd (d := d) (l := l + m + 1) (by omega) (by omega) h2
      exact Int.mul_nonneg (by omega) (by omega)
    rw [show l + ((m + 1 : Nat) : Int) + 1 = l + m + 1 + 1 by omega]
    omega
theorem order_L {d L X Y L' X' Y' : Int} {i k : Nat} (h : keyV d L X Y = (i : Int)) (h' : keyV d L' X' Y' = (k : Int)) (hl : L < L') : k < i := by
  have v := key_valid h
  have v' := key_valid h'
  have f := key_front v
  have f' := key_front v'
  obtain ⟨⟨h1, h2⟩, ⟨h3, h4⟩, _, _⟩ := valid_yes v
  obtain ⟨_, ⟨h5, h6⟩, _, _⟩ := valid_yes v'
  obtain ⟨m, hm⟩ : ∃ m : Nat, L' = L + m + 1 := ⟨(L' - L - 1).toNat, by omega⟩
  have := front_mono (j := 0) (d := d) (l := L) m h3 (by omega) h2
  rw [← hm] at this
  omega
theorem key_in {n : Nat} {L X Y : Int} (hn : n ≤ 3) (h : validB n L X Y = true) : ∃ k : Nat, keyV n L X Y = (k : Int) ∧ k < (allV n).length := by
  have hk := keyV_yes h
  obtain ⟨⟨h1, h2⟩, ⟨h3, h4⟩, ⟨h5, h6⟩, ⟨h7, h8⟩⟩ := valid_yes h
  have f := front_bd h3 h4 h2
  have e := all_len (n : Int)
  unfold countV at e
  rw [if_pos (depth_mk h1 h2)] at e
  have b := sd_bd h3 h4 h2
  have hy : sd n L * Y ≤ sd n L * (sd n L - 1) := Int.mul_le_mul_of_nonneg_left (by omega) (by omega)
  have hy0 : 0 ≤ sd n L * Y := Int.mul_nonneg (by omega) h7
  have hs : sd n L * (sd n L - 1) = sd n L * sd n L - sd n L := by rw [Int.mul_sub, Int.mul_one]
  have fm : frontV n L + sd n L * sd n L ≤ frontV n 0 + sd n 0 * sd n 0 := by
    rcases ten h3 h4 h2 with ⟨a, c⟩ | ⟨a, c⟩ | ⟨a, c⟩ | ⟨a, c⟩ | ⟨a, c⟩ | ⟨a, c⟩ | ⟨a, c⟩ | ⟨a, c⟩ | ⟨a, c⟩ | ⟨a, c⟩ <;> (rw [a, c]; decide)
  exact ⟨(keyV n L X Y).toNat, by omega, by omega⟩
theorem key_inj {n : Nat} {L X Y L' X' Y' : Int} (hn : n ≤ 3) (h : validB n L X Y = true) (h' : validB n L' X' Y' = true) (e : keyV n L X Y = keyV n L' X' Y') : L = L' ∧ X = X' ∧ Y = Y' := by
  obtain ⟨i, ei, -⟩ := key_in hn h
  obtain ⟨i', ei', -⟩ := key_in hn h'
  have hL : L = L' := by
    rcases Int.lt_trichotomy L L' with a | a | a
    · have := order_L ei ei' a
      omega
    · exact a
    · have := order_L ei' ei a
      omega
  subst hL
  rw [keyV_yes h, keyV_yes h'] at e
  obtain ⟨⟨h1, h2⟩, ⟨h3, h4⟩, ⟨h5, h6⟩, ⟨h7, h8⟩⟩ := valid_yes h
  obtain ⟨-, -, ⟨k5, k6⟩, ⟨k7, k8⟩⟩ := valid_yes h'
  obtain ⟨s, es⟩ : ∃ s, sd n L = s := ⟨_, rfl⟩
  have b := sd_bd h3 h4 h2
  rw [es] at h6 h8 k6 k8 b e
  have hs : s = 1 ∨ s = 2 ∨ s = 3 ∨ s = 4 ∨ s = 5 ∨ s = 6 ∨ s = 7 ∨ s = 8 := by omega
  rcases hs with rfl | rfl | rfl | rfl | rfl | rfl | rfl | rfl <;> exact ⟨rfl, by omega, by omega⟩
end Go.Proofs.Ytkklppjimnkibaa.PgN
