/-
  A slice of rows of ints that came in, as one row of numbers.
-/
import Derived.Test.YtkklppjimnkibaaFlat
import Derived.Test.YtkklppjimnkibaaRd
namespace Go.Proofs.Ytkklppjimnkibaa.Ints
open Go.RowKit Rd
set_option linter.unusedVariables false
set_option linter.unusedSimpArgs false
abbrev i64s (zs : List Int) : List Value := zs.map (Value.int .i64)
def In64 (z : Int) : Prop := -9223372036854775808 ≤ z ∧ z ≤ 9223372036854775807
theorem fits_i64s : ∀ {k : Nat} {vs : List Value}, Flat.Fits (List.replicate k (some .i64)) vs → ∀ j, j < k → ∃ n, vs[j]? = some (.int .i64 n) ∧ In64 n
  | 0, _, _, j, hj => absurd hj (by omega)
  | k + 1, vs, h, j, hj => by
    rw [List.replicate_succ] at h
    obtain ⟨n, vs', rfl, wf, h2⟩ := Flat.fits_int h
    cases j with
    | zero => exact ⟨n, rfl, bounds_i64 wf⟩
    | succ j =>
      obtain ⟨m, hm, h3⟩ := fits_i64s h2 j (by omega)
      exact ⟨m, by simpa using hm, h3⟩
/-- a slice of rows of s ints, as one row of numbers -/
theorem rows_row {w : World} {a : Option Addr} {len cap s : Nat} {xs : List (List Value)} (hs : 0 < s) (h : Flat.IsRows (List.replicate s (some .i64)) w a len cap xs) :
    ∃ zs : List Int, zs.length = len * s ∧ (∀ z ∈ zs, In64 z) ∧ Reads w s a len (i64s zs) ∧ len ≤ cap ∧ cap ≤ maxLen ∧ (len = 0 ∧ cap = 0 ∨ ∃ b off, a = some ⟨b, off, none⟩ ∧ b < w.heap.size) := by
  rcases h with ⟨rfl, rfl, rfl⟩ | ⟨b, off, rfl, hb, hpos, hl, hm, hx, hf, hc⟩
  · exact ⟨[], by simp, fun z hz => (by cases hz), ⟨by simp, .inl rfl⟩, Nat.le_refl _, by decide, .inl ⟨rfl, rfl⟩⟩
  · have key : ∀ i, i < len * s → ∃ n, (xs.getD (i / s) [])[i % s]? = some (.int .i64 n) ∧ In64 n := fun i hi =>
      fits_i64s (hf (i / s) (Nat.lt_of_lt_of_le (Nat.div_lt_of_lt_mul (by rwa [Nat.mul_comm])) hl)) (i % s) (Nat.mod_lt _ hs)
    refine ⟨(List.range (len * s)).map fun i => match (xs.getD (i / s) [])[i % s]? with | some (.int _ n) => n | _ => 0, by simp, ?_, ⟨by simp, .inr ⟨b, off, rfl, hb, fun i hi => ?_⟩⟩, hl, hm, .inr ⟨b, off, rfl, hb⟩⟩
    · intro z hz
      obtain ⟨i, hi, rfl⟩ := List.mem_map.1 hz
      obtain ⟨n, hn, h0⟩ := key i (List.mem_range.1 hi)
      simp only [hn]
      exact h0
    · have hi' : i < len * s := by simpa using hi
      obtain ⟨n, hn, h0⟩ := key i hi'
      have hq : i / s < len := Nat.div_lt_of_lt_mul (by rwa [Nat.mul_comm])
      have := hc (i / s) (i % s) (by omega) (by simpa using Nat.mod_lt _ hs)
      simp only [List.length_replicate] at this
      rw [show i / s * s + i % s = i by rw [Nat.mul_comm]; exact Nat.div_add_mod i s] at this
      rw [this, hn]
      rw [List.getD_eq_getElem?_getD] at hn
      simp [hi', hn]
theorem getD_in {zs : List Int} (h : ∀ z ∈ zs, In64 z) (j : Nat) : In64 (zs.getD j 0) := by
  rw [List.getD_eq_getElem?_getD]
  cases e : zs[j]? with
  | none => exact ⟨by decide, by decide⟩
  | some z => exact h z (List.mem_of_getElem? e)
theorem cell_of {w : World} {s len : Nat} {a : Option Addr} {zs : List Int} (h : Reads w s a len (i64s zs)) {k : Nat} (hk : k < zs.length) (hl : len ≠ 0) :
    ∃ ab ao, a = some ⟨ab, ao, none⟩ ∧ ab < w.heap.size ∧ ∀ i, i < zs.length → w.cell? ⟨ab, ao + i, none⟩ = some (.int .i64 (zs.getD i 0)) := by
  rcases h.2 with h0 | ⟨ab, ao, h1, h2, h3⟩
  · exact absurd h0 hl
  · refine ⟨ab, ao, h1, h2, fun i hi => ?_⟩
    rw [h3 i (by simpa using hi)]
    simp [List.getD, hi]
end Go.Proofs.Ytkklppjimnkibaa.Ints
