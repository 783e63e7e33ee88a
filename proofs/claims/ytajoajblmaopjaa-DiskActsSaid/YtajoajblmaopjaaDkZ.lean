/-
  The disk and the reference, act by act: each act's number and what it makes of the state, on either side.
-/
import Derived.Test.YtajoajblmaopjaaDkX
import Derived.Test.YtajoajblmaopjaaDkY
import Derived.Test.YtajoajblmaopjaaDkJ
import Derived.Test.YtajoajblmaopjaaDkT
namespace Go.Proofs.Ytajoajblmaopjaa.DkZ
open Go.RowKit Rd
open Go.Proofs.Ytajoajblmaopjaa.Row hiding cs blk3_0 blk3_1 blk3_2
open Mid DkM DkA DkL DkN DkO DkP DkQ DkR DkS DkT DkV DkU DkX DkY DkJ
open DkB (rd z32_len kpS wrS write_any write_down)
open DkC (fuse_any flush_any flN)
open DkH (Bd corrupt_any corS)
set_option linter.unusedVariables false
set_option linter.unusedSimpArgs false
set_option maxRecDepth 10000
variable {X Y : World} {b kg hg B0 pd bg n : Nat} {s : DS}
/-- the reference stands while the disk turns -/
theorem rf_tn {t : DS} (h : Rf X B0 pd bg n t) (hd : Dk X b kg hg n s) (ht : Tn [b, kg, hg] X Y) : Rf Y B0 pd bg n t := h.keep fun k cur T hk hT => ht.2.2 k (blk_lt (show blk X k = _ from hk)) fun hm => by
  have h1 : X.heap[b]? = _ := hd.head
  have h2 : X.heap[kg]? = _ := hd.kept
  have h3 : X.heap[hg]? = _ := hd.held
  simp only [List.mem_cons, List.not_mem_nil, or_false] at hm
  rcases hm with rfl | rfl | rfl
  · rw [hk] at h1; cases h1; rcases hT with e | e | e | e <;> cases e
  · rw [hk] at h2; cases h2; rcases hT with e | e | e | e <;> cases e
  · rw [hk] at h3; cases h3; rcases hT with e | e | e | e <;> cases e
/-- the disk stands while the reference turns -/
theorem dk_fr (hd : Dk X b kg hg n s) (hf : Fr B0 X Y) : Dk Y b kg hg n s :=
  hd.kept' (hf.2 _ _ _ hd.head (by decide) (by decide) (by decide)) (hf.2 _ _ _ hd.kept (by decide) (by decide) (by decide)) (hf.2 _ _ _ hd.held (by decide) (by decide) (by decide))
/-! Write -/
def wE (n : Nat) (s : DS) (i : Int) (m : Nat) : Int := if mayE n s.dn i ≠ 0 then mayE n s.dn i else if m ≠ 32 then 1 else if s.lf = 0 then 7 else 0
def wN (n : Nat) (s : DS) (i : Int) (m : Nat) (l : List Int) : DS := if mayE n s.dn i ≠ 0 ∨ m ≠ 32 then s else if s.lf = 0 then { s with dn := true } else wrS s i.toNat l
theorem may_zero {i : Int} (h : mayE n s.dn i = 0) : s.dn = false ∧ ∃ j : Nat, i = (j : Int) ∧ j < n := by
  unfold mayE at h
  cases hd : s.dn with
  | true => rw [hd, if_pos rfl] at h; cases h
  | false =>
    rw [hd, if_neg (by decide)] at h
    by_cases hi : 0 ≤ i ∧ i < n
    · exact ⟨rfl, i.toNat, by omega, by omega⟩
    · rw [if_neg hi] at h; cases h
theorem cwrite_all (i : Int) (m sb so c : Nat) (l : List Int) (w : World) (h : Dk w b kg hg n s) (hlf2 : -1 ≤ s.lf ∧ s.lf ≤ 1048576) (hwr : 0 ≤ s.wr ∧ s.wr ≤ 1000000) (hl : l.length = 32)
    (hsb : sb < w.heap.size) (hnb : sb ∉ [b, kg, hg]) (hs : ∀ j u, (us l)[j]? = some u → w.cell? ⟨sb, so + j, none⟩ = some u) :
    Calls Try.prog 11 #[.pointer (some ⟨b, 0, none⟩), .int .i64 i, .slice (some ⟨sb, so, none⟩) m c] w fun e w' => e = .returned (.int .i64 (wE n s i m)) ∧ Dk w' b kg hg n (wN n s i m l) ∧ Tn [b, kg, hg] w w' := by
  by_cases hno : mayE n s.dn i ≠ 0
  · rw [show wE n s i m = mayE n s.dn i by unfold wE; rw [if_pos hno], show wN n s i m l = s by unfold wN; rw [if_pos (.inl hno)]]
    exact (write_no i _ m c w h hno).mono fun e w' ⟨h1, h2⟩ => ⟨h1, h2 ▸ h, h2 ▸ Tn.refl _ _⟩
  · have h0 : mayE n s.dn i = 0 := Decidable.not_not.1 hno
    obtain ⟨hd, j, rfl, hj⟩ := may_zero h0
    by_cases hm : m = 32
    · subst hm
      have eE : wE n s (j : Int) 32 = if s.lf = 0 then 7 else 0 := by unfold wE; rw [if_neg hno, if_neg (by decide)]
      have eN : wN n s (j : Int) 32 l = if s.lf = 0 then { s with dn := true } else wrS s j l := by unfold wN; rw [if_neg (by rintro (h9 | h9); exact hno h9; exact h9 rfl)]; rfl
      rw [eE, eN]
      by_cases hf : s.lf = 0
      · rw [if_pos hf, if_pos hf]
        exact write_down j l _ c w h hd hj hf
      · rw [if_neg hf, if_neg hf]
        exact write_any j l sb so c w h hd hj hl hf hlf2 hwr hsb hnb hs
    · rw [show wE n s (j : Int) m = 1 by unfold wE; rw [if_neg hno, if_pos hm], show wN n s (j : Int) m l = s by unfold wN; rw [if_pos (.inr hm)]]
      exact (write_len j _ m c w h hd hj hm).mono fun e w' ⟨h1, h2⟩ => ⟨h1, h2 ▸ h, h2 ▸ Tn.refl _ _⟩
theorem may_dn {i : Int} (h : s.dn = true) : mayE n s.dn i = 7 := by unfold mayE; rw [if_pos h]
theorem may_bad {i : Int} (h : s.dn = false) (hi : ¬ (0 ≤ i ∧ i < n)) : mayE n s.dn i = 1 := by unfold mayE; rw [h, if_neg (by decide), if_neg hi]
theorem rwrite_all (i : Int) (m sb so c : Nat) (l : List Int) (w : World) (h : Rf w B0 pd bg n s) (hlf2 : -1 ≤ s.lf ∧ s.lf ≤ 1048576) (hwr : 0 ≤ s.wr ∧ s.wr ≤ 1000000) (hl : Bd l) (hm9 : m ≤ 1000000)
    (hs : ∀ Y, Fr B0 w Y → Reads Y 1 (some ⟨sb, so, none⟩) 32 (us l)) :
    Calls Try.prog 12 #[.pointer (some ⟨pd, 0, none⟩), .int .i64 i, .slice (some ⟨sb, so, none⟩) m c] w fun e w' => e = .returned (.int .i64 (wE n s i m)) ∧ Rf w' B0 pd bg n (wN n s i m l) ∧ Fr B0 w w' := by
  by_cases hno : mayE n s.dn i ≠ 0
  · rw [show wE n s i m = mayE n s.dn i by unfold wE; rw [if_pos hno], show wN n s i m l = s by unfold wN; rw [if_pos (.inl hno)]]
    cases hd : s.dn with
    | true =>
      rw [show mayE n true i = 7 by unfold mayE; rw [if_pos rfl]]
      exact (rwrite_dn i _ m c w h hd).mono fun e w' ⟨h1, h2⟩ => ⟨h1, h2 ▸ h, h2 ▸ Fr.refl _⟩
    | false =>
      have hi : ¬ (0 ≤ i ∧ i < n) := fun hi => hno (by unfold mayE; rw [hd, if_neg (by decide), if_pos hi])
      rw [show mayE n false i = 1 by unfold mayE; rw [if_neg (by decide), if_neg hi]]
      exact (rwrite_bad i _ m c w h hd (.inl hi) hm9).mono fun e w' ⟨h1, h2⟩ => ⟨h1, h2 ▸ h, h2 ▸ Fr.refl _⟩
  · have h0 : mayE n s.dn i = 0 := Decidable.not_not.1 hno
    obtain ⟨hd, j, rfl, hj⟩ := may_zero h0
    by_cases hm : m = 32
    · subst hm
      have eE : wE n s (j : Int) 32 = if s.lf = 0 then 7 else 0 := by unfold wE; rw [if_neg hno, if_neg (by decide)]
      have eN : wN n s (j : Int) 32 l = if s.lf = 0 then { s with dn := true } else wrS s j l := by unfold wN; rw [if_neg (by rintro (h9 | h9); exact hno h9; exact h9 rfl)]; rfl
      rw [eE, eN]
      by_cases hf : s.lf = 0
      · rw [if_pos hf, if_pos hf]
        exact rwrite_down j _ c w h hd hj hf
      · rw [if_neg hf, if_neg hf]
        cases hq : (s.H.getD j (false, [])).1 with
        | true => exact rwrite_held j sb so c l w h hd hj hf hlf2 hwr hl hq hs
        | false => exact rwrite_free j sb so c l w h hd hj hf hlf2 hwr hl hq hs
    · rw [show wE n s (j : Int) m = 1 by unfold wE; rw [if_neg hno, if_pos hm], show wN n s (j : Int) m l = s by unfold wN; rw [if_pos (.inr hm)]]
      exact (rwrite_bad j _ m c w h hd (.inr hm) hm9).mono fun e w' ⟨h1, h2⟩ => ⟨h1, h2 ▸ h, h2 ▸ Fr.refl _⟩
/-! Corrupt -/
def kE (n : Nat) (s : DS) (i k : Int) : Int := if mayE n s.dn i ≠ 0 then mayE n s.dn i else if 0 ≤ k ∧ k < 256 then 0 else 1
def kN (n : Nat) (s : DS) (i k : Int) : DS := if mayE n s.dn i ≠ 0 ∨ ¬ (0 ≤ k ∧ k < 256) then s else corS s i.toNat k.toNat
theorem ccorrupt_all (i k : Int) (w : World) (h : Dk w b kg hg n s) (hK : ∀ l ∈ s.K, Bd l) (hH : ∀ x ∈ s.H, Bd x.2) :
    Calls Try.prog 17 #[.pointer (some ⟨b, 0, none⟩), .int .i64 i, .int .i64 k] w fun e w' => e = .returned (.int .i64 (kE n s i k)) ∧ Dk w' b kg hg n (kN n s i k) ∧ Tn [b, kg, hg] w w' := by
  by_cases hno : mayE n s.dn i ≠ 0
  · rw [show kE n s i k = mayE n s.dn i by unfold kE; rw [if_pos hno], show kN n s i k = s by unfold kN; rw [if_pos (.inl hno)]]
    exact (corrupt_no i k w h hno).mono fun e w' ⟨h1, h2⟩ => ⟨h1, h2 ▸ h, h2 ▸ Tn.refl _ _⟩
  · have h0 : mayE n s.dn i = 0 := Decidable.not_not.1 hno
    obtain ⟨hd, j, rfl, hj⟩ := may_zero h0
    by_cases hk : 0 ≤ k ∧ k < 256
    · obtain ⟨q, rfl⟩ : ∃ q : Nat, k = (q : Int) := ⟨k.toNat, by omega⟩
      rw [show kE n s (j : Int) (q : Int) = 0 by unfold kE; rw [if_neg hno, if_pos hk], show kN n s (j : Int) (q : Int) = corS s j q by unfold kN; rw [if_neg (by rintro (h9 | h9); exact hno h9; exact h9 hk)]; rfl]
      have hjK : j < s.K.length := by rw [h.kl.1]; exact hj
      have hjH : j < s.H.length := by rw [h.hl.1]; exact hj
      exact corrupt_any j q w h hd hj (by omega) (by rw [show s.K.getD j [] = s.K[j] by simp [List.getD, hjK]]; exact hK _ (List.getElem_mem hjK)) (by rw [show s.H.getD j (false, []) = s.H[j] by simp [List.getD, hjH]]; exact hH _ (List.getElem_mem hjH))
    · rw [show kE n s (j : Int) k = 1 by unfold kE; rw [if_neg hno, if_neg hk], show kN n s (j : Int) k = s by unfold kN; rw [if_pos (.inr hk)]]
      exact (corrupt_bit j k w h hd hj (by omega)).mono fun e w' ⟨h1, h2⟩ => ⟨h1, h2 ▸ h, h2 ▸ Tn.refl _ _⟩
theorem rcorrupt_all (i k : Int) (w : World) (h : Rf w B0 pd bg n s) :
    Calls Try.prog 18 #[.pointer (some ⟨pd, 0, none⟩), .int .i64 i, .int .i64 k] w fun e w' => e = .returned (.int .i64 (kE n s i k)) ∧ Rf w' B0 pd bg n (kN n s i k) ∧ Fr B0 w w' := by
  by_cases hno : mayE n s.dn i ≠ 0
  · rw [show kE n s i k = mayE n s.dn i by unfold kE; rw [if_pos hno], show kN n s i k = s by unfold kN; rw [if_pos (.inl hno)]]
    cases hd : s.dn with
    | true =>
      rw [show mayE n true i = 7 by unfold mayE; rw [if_pos rfl]]
      exact (rcorrupt_dn i k w h hd).mono fun e w' ⟨h1, h2⟩ => ⟨h1, h2 ▸ h, h2 ▸ Fr.refl _⟩
    | false =>
      have hi : ¬ (0 ≤ i ∧ i < n) := fun hi => hno (by unfold mayE; rw [hd, if_neg (by decide), if_pos hi])
      rw [show mayE n false i = 1 by unfold mayE; rw [if_neg (by decide), if_neg hi]]
      exact (rcorrupt_bad i k w h hd (.inl hi)).mono fun e w' ⟨h1, h2⟩ => ⟨h1, h2 ▸ h, h2 ▸ Fr.refl _⟩
  · have h0 : mayE n s.dn i = 0 := Decidable.not_not.1 hno
    obtain ⟨hd, j, rfl, hj⟩ := may_zero h0
    by_cases hk : 0 ≤ k ∧ k < 256
    · obtain ⟨q, rfl⟩ : ∃ q : Nat, k = (q : Int) := ⟨k.toNat, by omega⟩
      rw [show kE n s (j : Int) (q : Int) = 0 by unfold kE; rw [if_neg hno, if_pos hk], show kN n s (j : Int) (q : Int) = corS s j q by unfold kN; rw [if_neg (by rintro (h9 | h9); exact hno h9; exact h9 hk)]; rfl]
      exact rcorrupt_any j q w h hd hj (by omega)
    · rw [show kE n s (j : Int) k = 1 by unfold kE; rw [if_neg hno, if_neg hk], show kN n s (j : Int) k = s by unfold kN; rw [if_pos (.inr hk)]]
      exact (rcorrupt_bad j k w h hd (.inr hk)).mono fun e w' ⟨h1, h2⟩ => ⟨h1, h2 ▸ h, h2 ▸ Fr.refl _⟩
/-! Fuse, Flush -/
def fE (s : DS) (m : Int) : Int := if s.dn = true then 7 else if 0 ≤ m ∧ m ≤ 1048576 then 0 else 1
def fN (s : DS) (m mask : Int) : DS := if s.dn = true ∨ ¬ (0 ≤ m ∧ m ≤ 1048576) then s else { s with lf := m, ms := mask }
theorem cfuse_all (m mask : Int) (w : World) (h : Dk w b kg hg n s) :
    Calls Try.prog 15 #[.pointer (some ⟨b, 0, none⟩), .int .i64 m, .int .i64 mask] w fun e w' => e = .returned (.int .i64 (fE s m)) ∧ Dk w' b kg hg n (fN s m mask) ∧ Tn [b, kg, hg] w w' := by
  cases hd : s.dn with
  | true =>
    rw [show fE s m = 7 by unfold fE; rw [if_pos hd], show fN s m mask = s by unfold fN; rw [if_pos (.inl hd)]]
    exact (fuse_no m mask w h hd).mono fun e w' ⟨h1, h2⟩ => ⟨h1, h2 ▸ h, h2 ▸ Tn.refl _ _⟩
  | false =>
    by_cases hm : 0 ≤ m ∧ m ≤ 1048576
    · rw [show fE s m = 0 by unfold fE; rw [hd, if_neg (by decide), if_pos hm], show fN s m mask = { s with lf := m, ms := mask } by unfold fN; rw [hd, if_neg (by rintro (h9 | h9); cases h9; exact h9 hm)]]
      exact fuse_any m mask w h hd hm
    · rw [show fE s m = 1 by unfold fE; rw [hd, if_neg (by decide), if_neg hm], show fN s m mask = s by unfold fN; rw [if_pos (.inr hm)]]
      exact (fuse_bad m mask w h hd (by omega)).mono fun e w' ⟨h1, h2⟩ => ⟨h1, h2 ▸ h, h2 ▸ Tn.refl _ _⟩
theorem rset_all (m mask : Int) (w : World) (h : Rf w B0 pd bg n s) :
    Calls Try.prog 16 #[.pointer (some ⟨pd, 0, none⟩), .int .i64 m, .int .i64 mask] w fun e w' => e = .returned (.int .i64 (fE s m)) ∧ Rf w' B0 pd bg n (fN s m mask) ∧ Fr B0 w w' := by
  cases hd : s.dn with
  | true =>
    rw [show fE s m = 7 by unfold fE; rw [if_pos hd], show fN s m mask = s by unfold fN; rw [if_pos (.inl hd)]]
    exact (rset_no m mask w h hd).mono fun e w' ⟨h1, h2⟩ => ⟨h1, h2 ▸ h, h2 ▸ Fr.refl _⟩
  | false =>
    by_cases hm : 0 ≤ m ∧ m ≤ 1048576
    · rw [show fE s m = 0 by unfold fE; rw [hd, if_neg (by decide), if_pos hm], show fN s m mask = { s with lf := m, ms := mask } by unfold fN; rw [hd, if_neg (by rintro (h9 | h9); cases h9; exact h9 hm)]]
      exact rset_any m mask w h hd hm
    · rw [show fE s m = 1 by unfold fE; rw [hd, if_neg (by decide), if_neg hm], show fN s m mask = s by unfold fN; rw [if_pos (.inr hm)]]
      exact (rset_bad m mask w h hd (by omega)).mono fun e w' ⟨h1, h2⟩ => ⟨h1, h2 ▸ h, h2 ▸ Fr.refl _⟩
def lE (s : DS) : Int := if s.dn = true then 7 else 0
def lN (n : Nat) (s : DS) : DS := if s.dn = true then s else flN s n
theorem cflush_all (w : World) (h : Dk w b kg hg n s) :
    Calls Try.prog 13 #[.pointer (some ⟨b, 0, none⟩)] w fun e w' => e = .returned (.int .i64 (lE s)) ∧ Dk w' b kg hg n (lN n s) ∧ Tn [b, kg, hg] w w' := by
  unfold lE lN
  cases hd : s.dn with
  | true => exact (flush_no w h hd).mono fun e w' ⟨h1, h2⟩ => ⟨h1, h2 ▸ h, h2 ▸ Tn.refl _ _⟩
  | false => exact flush_any w h hd
theorem rflush_all (w : World) (h : Rf w B0 pd bg n s) :
    Calls Try.prog 14 #[.pointer (some ⟨pd, 0, none⟩)] w fun e w' => e = .returned (.int .i64 (lE s)) ∧ Rf w' B0 pd bg n (lN n s) ∧ Fr B0 w w' := by
  unfold lE lN
  cases hd : s.dn with
  | true => exact (rflush_no w h hd).mono fun e w' ⟨h1, h2⟩ => ⟨h1, h2 ▸ h, h2 ▸ Fr.refl _⟩
  | false => exact rflush_any w h hd
end Go.Proofs.Ytajoajblmaopjaa.DkZ
