/-
  A slice of vertices that came in, as a row.
-/
import Derived.Test.YtbbkdjpdifkadaaFlat
import Derived.Test.YtbbkdjpdifkadaaClD
namespace Go.Proofs.Ytbbkdjpdifkadaa.ClR
open Go.RowKit Rd Go.Proofs.Ytbbkdjpdifkadaa.Row ClM ClC
set_option linter.unusedVariables false
set_option linter.unusedSimpArgs false
abbrev ks6 : List Flat.Kd := [some .i64, some .i64, some .i64, some .i64, some .i64, some .i64]
theorem fits6 {vs : List Value} (h : Flat.Fits [some .i64, some .i64, some .i64, some .i64, some .i64, some .i64] vs) : ∃ v : List Int, v.length = 6 ∧ vs = v.map (Value.int .i64) := by
  obtain ⟨n0, v0, rfl, _, h⟩ := Flat.fits_int h
  obtain ⟨n1, v1, rfl, _, h⟩ := Flat.fits_int h
  obtain ⟨n2, v2, rfl, _, h⟩ := Flat.fits_int h
  obtain ⟨n3, v3, rfl, _, h⟩ := Flat.fits_int h
  obtain ⟨n4, v4, rfl, _, h⟩ := Flat.fits_int h
  obtain ⟨n5, v5, rfl, _, h⟩ := Flat.fits_int h
  have := Flat.fits_nil h
  subst this
  exact ⟨[n0, n1, n2, n3, n4, n5], rfl, rfl⟩
def num : Value → Int
  | .int _ n => n
  | _ => 0
theorem rows_vx {w : World} {a : Option Addr} {len cap : Nat} {xs : List (List Value)} (h : Flat.IsRows [some .i64, some .i64, some .i64, some .i64, some .i64, some .i64] w a len cap xs) :
    ∃ row : ClM.Row, row.length = len ∧ RowAt w a row ∧ len ≤ cap ∧ cap ≤ maxLen ∧ (len = 0 ∧ cap = 0 ∨ ∃ b off, a = some ⟨b, off, none⟩ ∧ b < w.heap.size) := by
  rcases h with ⟨rfl, rfl, rfl⟩ | ⟨b, off, rfl, hb, hpos, hl, hm, hx, hf, hc⟩
  · exact ⟨[], rfl, ⟨fun v hv => (by cases hv), Or.inl rfl⟩, Nat.le_refl _, by decide, Or.inl ⟨rfl, rfl⟩⟩
  · have hv : ∀ i, i < len → ∃ v : List Int, v.length = 6 ∧ xs.getD i [] = v.map (Value.int .i64) := fun i hi => fits6 (hf i (by omega))
    have hn : ∀ v : List Int, (v.map (Value.int .i64)).map num = v := fun v => by
      induction v with
      | nil => rfl
      | cons x v ih => simp only [List.map_cons, ih]; rfl
    refine ⟨(List.range len).map fun i => (xs.getD i []).map num, by simp, ⟨?_, Or.inr ⟨b, off, rfl, hb, fun i hi j hj => ?_⟩⟩, hl, hm, Or.inr ⟨b, off, rfl, hb⟩⟩
    · intro v hv2
      obtain ⟨i, hi, rfl⟩ := List.mem_map.1 hv2
      obtain ⟨v, h6, e⟩ := hv i (List.mem_range.1 hi)
      rw [e, hn, h6]
    · have hi' : i < len := by simpa using hi
      obtain ⟨v, h6, e⟩ := hv i hi'
      have := hc i j (by omega) hj
      simp only [List.length_cons, List.length_nil, Nat.zero_add, Nat.reduceAdd] at this
      rw [Nat.add_assoc, this, e]
      have ea : at_ ((List.range len).map fun i => (xs.getD i []).map num) i = v := by
        rw [at_eq (by simpa using hi'), List.getElem_map, List.getElem_range, e, hn]
      rw [ea]
      simp [ClM.g, List.getD, h6, hj]
end Go.Proofs.Ytbbkdjpdifkadaa.ClR
