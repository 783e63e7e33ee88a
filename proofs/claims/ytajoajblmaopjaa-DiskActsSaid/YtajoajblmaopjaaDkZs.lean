/-
  The disk's state and the reference's: alike but for a mask that counts no more; each act keeps it so.
-/
import Derived.Test.YtajoajblmaopjaaDkZ
namespace Go.Proofs.Ytajoajblmaopjaa.DkZs
open DkA DkL DkS DkZ
open DkB (rd kpS wrS)
open DkC (flN upN bitX clS fl_nums up_dn)
open DkH (Bd corS)
set_option linter.unusedVariables false
set_option linter.unusedSimpArgs false
variable {n : Nat} {s t : DS}
/-- alike, but for the mask where it counts no more; numbers that fit -/
def Lk (c : Nat) (s t : DS) : Prop := (∃ m, t = { s with ms := m } ∧ (0 ≤ s.lf ∨ s.dn = true → m = s.ms)) ∧ -1 ≤ s.lf ∧ s.lf ≤ 1048576 ∧ 0 ≤ s.wr ∧ s.wr ≤ c
theorem Lk.more {c d : Nat} (h : Lk c s t) (hc : c ≤ d) : Lk d s t := ⟨h.1, h.2.1, h.2.2.1, h.2.2.2.1, by have := h.2.2.2.2; omega⟩
theorem Lk.kh {c : Nat} (h : Lk c s t) : t.K = s.K ∧ t.H = s.H ∧ t.lf = s.lf ∧ t.dn = s.dn ∧ t.wr = s.wr := by
  obtain ⟨⟨m, rfl, -⟩, -⟩ := h
  exact ⟨rfl, rfl, rfl, rfl, rfl⟩
theorem Lk.dn {c : Nat} (h : Lk c s t) (hd : s.dn = true) : t = s := by
  obtain ⟨⟨m, rfl, hm⟩, -⟩ := h
  rw [hm (.inr hd)]
theorem Lk.wE {c : Nat} (h : Lk c s t) (i : Int) (q : Nat) : wE n t i q = wE n s i q := by
  obtain ⟨⟨m, rfl, -⟩, -⟩ := h
  rfl
theorem Lk.kE {c : Nat} (h : Lk c s t) (i k : Int) : kE n t i k = kE n s i k := by
  obtain ⟨⟨m, rfl, -⟩, -⟩ := h
  rfl
theorem Lk.fE {c : Nat} (h : Lk c s t) (i : Int) : fE t i = fE s i := by
  obtain ⟨⟨m, rfl, -⟩, -⟩ := h
  rfl
theorem Lk.lE {c : Nat} (h : Lk c s t) : lE t = lE s := by
  obtain ⟨⟨m, rfl, -⟩, -⟩ := h
  rfl
theorem Lk.rd {c : Nat} (h : Lk c s t) (i : Nat) : rd t i = rd s i := by
  obtain ⟨⟨m, rfl, -⟩, -⟩ := h
  rfl
theorem Lk.wN {c : Nat} (h : Lk c s t) (i : Int) (q : Nat) (l : List Int) : Lk (c + 1) (wN n s i q l) (wN n t i q l) := by
  obtain ⟨⟨m, rfl, hm⟩, h1, h2, h3, h4⟩ := h
  by_cases hno : mayE n s.dn i ≠ 0 ∨ q ≠ 32
  · have e1 : DkZ.wN n s i q l = s := by unfold DkZ.wN; rw [if_pos hno]
    have e2 : DkZ.wN n { s with ms := m } i q l = { s with ms := m } := by unfold DkZ.wN; rw [if_pos hno]
    rw [e1, e2]
    exact ⟨⟨m, rfl, hm⟩, h1, h2, h3, by omega⟩
  · by_cases hf : s.lf = 0
    · have e1 : DkZ.wN n s i q l = { s with dn := true } := by unfold DkZ.wN; rw [if_neg hno, if_pos hf]
      have e2 : DkZ.wN n { s with ms := m } i q l = { s with ms := m, dn := true } := by unfold DkZ.wN; rw [if_neg hno, if_pos hf]
      rw [e1, e2]
      exact ⟨⟨m, rfl, fun _ => hm (.inl (by omega))⟩, h1, h2, h3, by show s.wr ≤ _; omega⟩
    · have e1 : DkZ.wN n s i q l = wrS s i.toNat l := by unfold DkZ.wN; rw [if_neg hno, if_neg hf]
      have e2 : DkZ.wN n { s with ms := m } i q l = { wrS s i.toNat l with ms := m } := by unfold DkZ.wN; rw [if_neg hno, if_neg hf]; rfl
      rw [e1, e2]
      have e3 : (wrS s i.toNat l).lf = if s.lf = -1 then s.lf else s.lf - 1 := rfl
      refine ⟨⟨m, rfl, fun h9 => ?_⟩, ?_, ?_, ?_, ?_⟩
      · rcases h9 with h9 | h9
        · rw [e3] at h9
          exact hm (.inl (by split at h9 <;> omega))
        · exact hm (.inr h9)
      · rw [e3]; split <;> omega
      · rw [e3]; split <;> omega
      · show 0 ≤ s.wr + 1; omega
      · show s.wr + 1 ≤ _; omega
theorem cor_with (s : DS) (m : Int) (i k : Nat) : corS { s with ms := m } i k = { corS s i k with ms := m } := by
  unfold corS
  by_cases h : (s.H.getD i (false, [])).1 = true
  · rw [if_pos h, if_pos h]; rfl
  · rw [if_neg h, if_neg h]; rfl
theorem cor_nums (s : DS) (i k : Nat) : (corS s i k).lf = s.lf ∧ (corS s i k).ms = s.ms ∧ (corS s i k).dn = s.dn ∧ (corS s i k).wr = s.wr := by
  unfold corS
  by_cases h : (s.H.getD i (false, [])).1 = true
  · rw [if_pos h]; exact ⟨rfl, rfl, rfl, rfl⟩
  · rw [if_neg h]; exact ⟨rfl, rfl, rfl, rfl⟩
theorem Lk.kN {c : Nat} (h : Lk c s t) (i k : Int) : Lk c (kN n s i k) (kN n t i k) := by
  obtain ⟨⟨m, rfl, hm⟩, h1⟩ := h
  by_cases hno : mayE n s.dn i ≠ 0 ∨ ¬ (0 ≤ k ∧ k < 256)
  · have e1 : DkZ.kN n s i k = s := by unfold DkZ.kN; rw [if_pos hno]
    have e2 : DkZ.kN n { s with ms := m } i k = { s with ms := m } := by unfold DkZ.kN; rw [if_pos hno]
    rw [e1, e2]
    exact ⟨⟨m, rfl, hm⟩, h1⟩
  · have e1 : DkZ.kN n s i k = corS s i.toNat k.toNat := by unfold DkZ.kN; rw [if_neg hno]
    have e2 : DkZ.kN n { s with ms := m } i k = { corS s i.toNat k.toNat with ms := m } := by unfold DkZ.kN; rw [if_neg hno, cor_with]
    obtain ⟨a1, a2, a3, a4⟩ := cor_nums s i.toNat k.toNat
    rw [e1, e2]
    exact ⟨⟨m, rfl, by rw [a1, a2, a3]; exact hm⟩, by rw [a1, a4]; exact h1⟩
theorem Lk.fN {c : Nat} (h : Lk c s t) (q mask : Int) : Lk c (fN s q mask) (fN t q mask) := by
  obtain ⟨⟨m, rfl, hm⟩, h1⟩ := h
  by_cases hno : s.dn = true ∨ ¬ (0 ≤ q ∧ q ≤ 1048576)
  · have e1 : DkZ.fN s q mask = s := by unfold DkZ.fN; rw [if_pos hno]
    have e2 : DkZ.fN { s with ms := m } q mask = { s with ms := m } := by unfold DkZ.fN; rw [if_pos hno]
    rw [e1, e2]
    exact ⟨⟨m, rfl, hm⟩, h1⟩
  · have e1 : DkZ.fN s q mask = { s with lf := q, ms := mask } := by unfold DkZ.fN; rw [if_neg hno]
    have e2 : DkZ.fN { s with ms := m } q mask = { s with lf := q, ms := mask } := by unfold DkZ.fN; rw [if_neg hno]
    rw [e1, e2]
    have hq : 0 ≤ q ∧ q ≤ 1048576 := Decidable.not_not.1 fun h9 => hno (.inr h9)
    exact ⟨⟨mask, rfl, fun _ => rfl⟩, by show -1 ≤ q; omega, hq.2, h1.2.2⟩
theorem fl_with (s : DS) (m : Int) : ∀ k, flN { s with ms := m } k = { flN s k with ms := m }
  | 0 => rfl
  | k + 1 => by
    unfold flN
    rw [fl_with s m k]
    by_cases h : ((flN s k).H.getD k (false, [])).1 = true
    · rw [if_pos h, if_pos h]; rfl
    · rw [if_neg h, if_neg h]
theorem Lk.lN {c : Nat} (h : Lk c s t) : Lk c (lN n s) (lN n t) := by
  obtain ⟨⟨m, rfl, hm⟩, h1⟩ := h
  by_cases hd : s.dn = true
  · have e1 : DkZ.lN n s = s := by unfold DkZ.lN; rw [if_pos hd]
    have e2 : DkZ.lN n { s with ms := m } = { s with ms := m } := by unfold DkZ.lN; rw [if_pos hd]
    rw [e1, e2]
    exact ⟨⟨m, rfl, hm⟩, h1⟩
  · have e1 : DkZ.lN n s = flN s n := by unfold DkZ.lN; rw [if_neg hd]
    have e2 : DkZ.lN n { s with ms := m } = { flN s n with ms := m } := by unfold DkZ.lN; rw [if_neg hd, fl_with]
    obtain ⟨a1, a2, a3, a4, -⟩ := fl_nums s n
    rw [e1, e2]
    exact ⟨⟨m, rfl, by rw [a1, a2, a3]; exact hm⟩, by rw [a1, a4]; exact h1⟩
/-- Up: what it hands out, what it makes -/
def uL (n : Nat) (s : DS) : List Nat := if s.dn = true then (upN s n).2.2 else []
def uN (n : Nat) (s : DS) : DS := if s.dn = true then { (upN s n).1 with dn := false, lf := -1, ms := 0 } else s
def uR (n : Nat) (s : DS) : DS := if s.dn = true then ruS s n else s
theorem Lk.uL {c : Nat} (h : Lk c s t) : uL n t = uL n s := by
  by_cases hd : s.dn = true
  · rw [h.dn hd]
  · have := h.kh
    unfold DkZs.uL
    rw [this.2.2.2.1, if_neg hd, if_neg hd]
theorem Lk.uN {c : Nat} (h : Lk c s t) : Lk c (uN n s) (uR n t) := by
  by_cases hd : s.dn = true
  · rw [h.dn hd]
    have e1 : DkZs.uN n s = { (upN s n).1 with dn := false, lf := -1, ms := 0 } := by unfold DkZs.uN; rw [if_pos hd]
    have e2 : uR n s = { ({ (upN s n).1 with dn := false, lf := -1, ms := 0 } : DS) with ms := (upN s n).1.ms } := by unfold uR; rw [if_pos hd]; rfl
    obtain ⟨-, -, a3, -⟩ := up_dn s n
    rw [e1, e2]
    refine ⟨⟨_, rfl, fun h9 => ?_⟩, by show (-1 : Int) ≤ -1; omega, by show (-1 : Int) ≤ _; omega, ?_⟩
    · rcases h9 with h9 | h9
      · exact absurd (show (0 : Int) ≤ -1 from h9) (by omega)
      · cases h9
    · show 0 ≤ (upN s n).1.wr ∧ (upN s n).1.wr ≤ _
      rw [a3]; exact h.2.2.2
  · have h4 := h.kh.2.2.2.1
    have e1 : DkZs.uN n s = s := by unfold DkZs.uN; rw [if_neg hd]
    have e2 : uR n t = t := by unfold uR; rw [h4, if_neg hd]
    rw [e1, e2]; exact h
end Go.Proofs.Ytajoajblmaopjaa.DkZs
