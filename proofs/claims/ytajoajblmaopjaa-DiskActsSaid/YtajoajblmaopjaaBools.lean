/-
  A row of Booleans that comes in.
-/
import Derived.Test.YtajoajblmaopjaaFlat
import Derived.Test.YtajoajblmaopjaaRd
namespace Go.Proofs.Ytajoajblmaopjaa.Bools
open Go.RowKit Rd
set_option linter.unusedVariables false
set_option linter.unusedSimpArgs false
def BRow (w : World) (a : Option Addr) (len : Nat) (qs : List Bool) : Prop :=
  qs.length = len ∧ (len = 0 ∨ ∃ ab ao, a = some ⟨ab, ao, none⟩ ∧ ab < w.heap.size ∧ ∀ i, i < len → w.cell? ⟨ab, ao + i, none⟩ = some (.bool (qs.getD i false)))
theorem bools_row {w : World} {a : Option Addr} {len cap : Nat} {xs : List (List Value)} (h : Flat.IsRows [none] w a len cap xs) : ∃ qs, BRow w a len qs ∧ len ≤ cap ∧ cap ≤ maxLen := by
  rcases h with ⟨rfl, rfl, rfl⟩ | ⟨b, off, rfl, hb, hpos, hl, hm, hx, hf, hc⟩
  · exact ⟨[], ⟨rfl, .inl rfl⟩, Nat.le_refl _, by decide⟩
  · refine ⟨(List.range len).map fun i => match ((xs.getD i ([] : List Value))[0]? : Option Value) with | some (Value.bool b) => b | _ => false, ⟨by simp, .inr ⟨b, off, rfl, hb, fun i hi => ?_⟩⟩, hl, hm⟩
    have h1 := hf i (by omega)
    have h2 := hc i 0 (by omega) (by simp)
    simp only [List.length_singleton, Nat.mul_one, Nat.add_zero] at h2
    rw [h2]
    have h3 : ∃ q, xs.getD i [] = [.bool q] := by
      have : ∀ l, Flat.Fits [none] l → ∃ q, l = [.bool q] := fun l hl => by
        match l, hl with
        | [v], ⟨⟨q, hq⟩, _⟩ => exact ⟨q, by rw [hq]⟩
      exact this _ h1
    obtain ⟨q, hq⟩ := h3
    rw [hq]
    simp [List.getD, hi]
    have : xs[i]?.getD [] = [.bool q] := by simpa [List.getD] using hq
    rw [this]
    rfl
end Go.Proofs.Ytajoajblmaopjaa.Bools
