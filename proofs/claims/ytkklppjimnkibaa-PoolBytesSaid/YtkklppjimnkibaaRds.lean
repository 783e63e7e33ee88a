/-
  A predicate for XPred: a slice that reads as these bytes.
-/
import Derived.Test.YtkklppjimnkibaaRd
import Derived.Test.YtkklppjimnkibaaRow
import Derived.Test.YtkklppjimnkibaaPred
import Derived.Test.YtkklppjimnkibaaBytes
namespace Go.Proofs.Ytkklppjimnkibaa.Rds
open Go.RowKit Rd Go.Proofs.Ytkklppjimnkibaa.Row Go.Proofs.Ytkklppjimnkibaa.Bytes
open Go.Proofs.Ytkklppjimnkibaa.Pred (Is is_stab Stab)
set_option linter.unusedVariables false
set_option linter.unusedSimpArgs false
/-- a slice that reads as these cells -/
def Rds (zs : List Int) : Value → World → Prop := fun v w => ∃ a n cap, v = .slice a n cap ∧ Reads w 1 a n (u8s zs)
theorem cell_ext {B : Nat} {w w' : World} (h : Pred.Ext B w w') {b o : Nat} {v : Value} (hc : w.cell? ⟨b, o, none⟩ = some v) : w'.cell? ⟨b, o, none⟩ = some v ∧ b < w'.heap.size := by
  unfold World.cell? at hc ⊢
  simp only at hc ⊢
  cases hb : w.heap[b]? with
  | none => rw [hb] at hc; cases hc
  | some ob =>
    rw [hb] at hc
    cases ob with
    | cells c t fr =>
      obtain ⟨fr', h2⟩ := h.2 b c t fr hb
      rw [h2]
      refine ⟨hc, ?_⟩
      rcases Nat.lt_or_ge b w'.heap.size with h3 | h3
      · exact h3
      · rw [Array.getElem?_eq_none h3] at h2; cases h2
    | _ => simp at hc
theorem reads_ext {B s n : Nat} {w w' : World} {a : Option Addr} {cs : List Value} (h : Pred.Ext B w w') (hr : Reads w s a n cs) (hs : 0 < s) : Reads w' s a n cs := by
  obtain ⟨h1, h2⟩ := hr
  refine ⟨h1, ?_⟩
  rcases h2 with h2 | ⟨b, off, rfl, hb, hc⟩
  · exact .inl h2
  · by_cases hn : n = 0
    · exact .inl hn
    · have hpos : 0 < cs.length := by rw [h1]; exact Nat.mul_pos (by omega) hs
      have key : ∀ i, i < cs.length → w'.cell? ⟨b, off + i, none⟩ = cs[i]? ∧ b < w'.heap.size := fun i hi => by
        have h3 := hc i hi
        rw [List.getElem?_eq_getElem hi] at h3 ⊢
        exact cell_ext h h3
      exact .inr ⟨b, off, rfl, (key 0 hpos).2, fun i hi => (key i hi).1⟩
theorem rds_stab (zs : List Int) : Stab (Rds zs) := fun v w w' B ⟨a, n, cap, h1, h2⟩ hb => ⟨a, n, cap, h1, reads_ext hb h2 (by omega)⟩
end Go.Proofs.Ytkklppjimnkibaa.Rds
