/-
  How often each pixel is covered: the mathematics.
-/
import Derived.Test.YthkfnjblmilgnaaEdN
namespace Go.Proofs.Ythkfnjblmilgnaa.EdP
open EdM EdN
set_option linter.unusedVariables false
set_option linter.unusedSimpArgs false
set_option maxRecDepth 10000
/-- an array of so many numbers -/
def arrL (L : Nat) (f : Nat → Int) : List Int := (List.range L).map f
theorem arr_len (L : Nat) (f : Nat → Int) : (arrL L f).length = L := by simp [arrL]
theorem arr_at {L : Nat} {f : Nat → Int} {i : Nat} (h : i < L) : (arrL L f)[i]? = some (f i) := by simp [arrL, h]
theorem arr_zero (L : Nat) (f : Nat → Int) (h : ∀ i, f i = 0) : arrL L f = List.replicate L 0 := by
  apply List.ext_getElem?
  intro i
  by_cases hi : i < L <;> simp [arrL, hi, h]
/-- the place of a pixel in rows of so many -/
def plc (W : Nat) (p : Int × Int) : Nat := (p.2 * W + p.1).toNat
def cnt (W : Nat) (F : List (Int × Int)) (i : Nat) : Int := ((F.countP fun p => decide (plc W p = i) : Nat) : Int)
theorem cnt_nil (W i : Nat) : cnt W [] i = 0 := rfl
theorem cnt_app (W : Nat) (F G : List (Int × Int)) (i : Nat) : cnt W (F ++ G) i = cnt W F i + cnt W G i := by
  unfold cnt
  rw [List.countP_append]
  omega
theorem cnt_snoc (W : Nat) (F : List (Int × Int)) (p : Int × Int) (i : Nat) : cnt W (F ++ [p]) i = if i = plc W p then cnt W F i + 1 else cnt W F i := by
  rw [cnt_app]
  unfold cnt
  by_cases h : plc W p = i
  · rw [if_pos h.symm]; simp [h]
  · rw [if_neg (Ne.symm h)]; simp [h]
theorem arr_step (L W : Nat) (F : List (Int × Int)) (p : Int × Int) : (arrL L (cnt W F)).set (plc W p) (cnt W F (plc W p) + 1) = arrL L (cnt W (F ++ [p])) := by
  apply List.ext_getElem?
  intro i
  rw [List.getElem?_set]
  by_cases hi : plc W p = i
  · rw [if_pos hi, arr_len]
    by_cases hl : i < L
    · rw [if_pos (by omega), arr_at hl, cnt_snoc, if_pos hi.symm, hi]
    · rw [if_neg (by omega), List.getElem?_eq_none (by rw [arr_len]; omega)]
  · rw [if_neg hi]
    by_cases hl : i < L
    · rw [arr_at hl, arr_at hl, cnt_snoc, if_neg (Ne.symm hi)]
    · rw [List.getElem?_eq_none (by rw [arr_len]; omega), List.getElem?_eq_none (by rw [arr_len]; omega)]
theorem plc_frame {w h : Nat} {p : Int × Int} (hw : w ≤ 32) (hp : p ∈ frameP w h) : ∃ i j : Nat, p = ((i : Int), (j : Int)) ∧ i < w ∧ j < h ∧ plc w p = j * w + i ∧ j * w + i < h * w := by
  obtain ⟨i, j, e, h1, h2, -, -⟩ := frame_mem hp
  refine ⟨i, j, e, by omega, by omega, ?_, ?_⟩
  · subst e
    unfold plc
    simp only
    rw [← Int.natCast_mul]
    omega
  · have : (j + 1) * w ≤ h * w := Nat.mul_le_mul_right w (by omega)
    rw [Nat.succ_mul] at this
    omega
theorem plc_inj {w i j i' j' : Nat} (hi : i < w) (hi' : i' < w) (e : j * w + i = j' * w + i') : i = i' ∧ j = j' := by
  have hj : j = j' := by
    rcases Nat.lt_trichotomy j j' with h | h | h
    · have : (j + 1) * w ≤ j' * w := Nat.mul_le_mul_right w (by omega)
      rw [Nat.succ_mul] at this
      omega
    · exact h
    · have : (j' + 1) * w ≤ j * w := Nat.mul_le_mul_right w (by omega)
      rw [Nat.succ_mul] at this
      omega
  subst hj
  exact ⟨by omega, rfl⟩
theorem frame_nodup (w h : Int) : (frameP w h).Nodup := by
  have := frame_sorted w h
  exact this.imp fun h e => by subst e; omega
theorem frame_has {w h i j : Nat} (hw : 1 ≤ w ∧ w ≤ 32) (hh : 1 ≤ h ∧ h ≤ 32) (hi : i < w) (hj : j < h) : (((i : Int), (j : Int)) : Int × Int) ∈ frameP w h := by
  unfold frameP
  rw [if_pos (show frameB w h = true from decide_eq_true (by omega))]
  show _ ∈ rowsP w h
  clear hh hw
  induction h with
  | zero => omega
  | succ h ih =>
    rw [rowsP_succ, List.mem_append]
    by_cases e : j = h
    · right
      subst e
      exact List.mem_map.2 ⟨i, by simpa using hi, rfl⟩
    · left
      exact ih (by omega)
/-- how often a triangle's pixels lie at a place: once where it is covered -/
theorem cnt_cov {w h i j : Nat} (hw : 1 ≤ w ∧ w ≤ 32) (hh : 1 ≤ h ∧ h ≤ 32) (hi : i < w) (hj : j < h) (t : List Int) : cnt w (frameC t w h) (j * w + i) = if turnedB t = true then (nb (covT (turnedV t) i j) : Int) else 0 := by
  unfold frameC
  split
  · unfold cnt
    rw [List.countP_filter]
    have hc : (frameP w h).countP (fun p => decide (plc w p = j * w + i) && covT (turnedV t) p.1 p.2) = nb (covT (turnedV t) i j) := by
      have e : ∀ p ∈ frameP w h, (decide (plc w p = j * w + i) && covT (turnedV t) p.1 p.2) = (decide (p = ((i : Int), (j : Int))) && covT (turnedV t) i j) := by
        intro p hp
        obtain ⟨i', j', rfl, h1, h2, h3, -⟩ := plc_frame hw.2 hp
        rw [h3]
        by_cases hq : j' * w + i' = j * w + i
        · obtain ⟨rfl, rfl⟩ := plc_inj h1 hi hq
          simp
        · have : ¬ (((i' : Int), (j' : Int)) : Int × Int) = ((i : Int), (j : Int)) := fun e => by
            injection e with e1 e2
            have : i' = i := by omega
            have : j' = j := by omega
            subst_vars
            exact hq rfl
          simp [hq, this]
      rw [List.countP_congr (q := fun p => decide (p = ((i : Int), (j : Int))) && covT (turnedV t) i j) (fun p hp => by rw [e p hp])]
      cases covT (turnedV t) i j
      · simp [nb]
      · simp only [Bool.and_true]
        have h1 := frame_has hw hh hi hj
        have h2 := frame_nodup (w : Int) (h : Int)
        have h3 := List.Nodup.count (a := (((i : Int), (j : Int)) : Int × Int)) h2
        rw [if_pos h1] at h3
        show _ = 1
        rw [← h3, List.count]
        refine List.countP_congr fun p hp => ?_
        simp
    exact congrArg _ hc
  · rfl
theorem cnt_bd (W : Nat) (F : List (Int × Int)) (i : Nat) : 0 ≤ cnt W F i ∧ cnt W F i ≤ F.length := by
  unfold cnt
  have := List.countP_le_length (p := fun p => decide (plc W p = i)) (l := F)
  omega
theorem frameC_small (t : List Int) (w h : Int) : (frameC t w h).length ≤ 1024 := by rw [← pix_len]; exact pix_small t w h
end Go.Proofs.Ythkfnjblmilgnaa.EdP
