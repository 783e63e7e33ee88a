/-
  A slice of bytes that came in, as a row of numbers; its two parts.
-/
import Derived.Test.YtkklppjimnkibaaFlat
import Derived.Test.YtkklppjimnkibaaRd
namespace Go.Proofs.Ytkklppjimnkibaa.Bytes
open Go.RowKit Rd
set_option linter.unusedVariables false
set_option linter.unusedSimpArgs false

abbrev u8s (zs : List Int) : List Value := zs.map (Value.int .u8)
theorem fits_u8 {vs : List Value} (h : Flat.Fits [some .u8] vs) : ∃ n, vs = [.int .u8 n] ∧ 0 ≤ n ∧ n ≤ 255 := by
  obtain ⟨n, vs', rfl, wf, h2⟩ := Flat.fits_int h
  have := Flat.fits_nil h2
  subst this
  exact ⟨n, rfl, (bounds_u8 wf).1, (bounds_u8 wf).2⟩
/-- the first len of them -/
theorem rows_bytes {w : World} {a : Option Addr} {len cap : Nat} {xs : List (List Value)} (h : Flat.IsRows [some .u8] w a len cap xs) :
    ∃ zs : List Int, zs.length = len ∧ (∀ z ∈ zs, 0 ≤ z ∧ z ≤ 255) ∧ Reads w 1 a len (u8s zs) ∧ len ≤ cap ∧ cap ≤ maxLen ∧ (len = 0 ∧ cap = 0 ∨ ∃ b off, a = some ⟨b, off, none⟩ ∧ b < w.heap.size) := by
  rcases h with ⟨rfl, rfl, rfl⟩ | ⟨b, off, rfl, hb, hpos, hl, hm, hx, hf, hc⟩
  · exact ⟨[], rfl, fun z hz => (by cases hz), ⟨rfl, .inl rfl⟩, Nat.le_refl _, by decide, .inl ⟨rfl, rfl⟩⟩
  · refine ⟨(List.range len).map fun i => match xs.getD i [] with | [.int _ n] => n | _ => 0, by simp, ?_, ⟨by simp, .inr ⟨b, off, rfl, hb, fun i hi => ?_⟩⟩, hl, hm, .inr ⟨b, off, rfl, hb⟩⟩
    · intro z hz
      obtain ⟨i, hi, rfl⟩ := List.mem_map.1 hz
      obtain ⟨n, hn, h0, h1⟩ := fits_u8 (hf i (by have := List.mem_range.1 hi; omega))
      rw [hn]
      exact ⟨h0, h1⟩
    · have hi' : i < len := by simpa using hi
      obtain ⟨n, hn, h0, h1⟩ := fits_u8 (hf i (by omega))
      have := hc i 0 (by omega) (by simp)
      simp only [List.length_cons, List.length_nil, Nat.zero_add, Nat.mul_one, Nat.add_zero] at this
      rw [this, hn]
      simp only [List.getD] at hn
      simp [hi', hn]
theorem fits_u8s : ∀ {k : Nat} {vs : List Value}, Flat.Fits (List.replicate k (some .u8)) vs → ∀ j, j < k → ∃ n, vs[j]? = some (.int .u8 n) ∧ 0 ≤ n ∧ n ≤ 255
  | 0, _, _, j, hj => absurd hj (by omega)
  | k + 1, vs, h, j, hj => by
    rw [List.replicate_succ] at h
    obtain ⟨n, vs', rfl, wf, h2⟩ := Flat.fits_int h
    cases j with
    | zero => exact ⟨n, rfl, (bounds_u8 wf).1, (bounds_u8 wf).2⟩
    | succ j =>
      obtain ⟨m, hm, h3⟩ := fits_u8s h2 j (by omega)
      exact ⟨m, by simpa using hm, h3⟩
/-- a slice of rows of s bytes, as one row of numbers -/
theorem rows_row {w : World} {a : Option Addr} {len cap s : Nat} {xs : List (List Value)} (hs : 0 < s) (h : Flat.IsRows (List.replicate s (some .u8)) w a len cap xs) :
    ∃ zs : List Int, zs.length = len * s ∧ (∀ z ∈ zs, 0 ≤ z ∧ z ≤ 255) ∧ Reads w s a len (u8s zs) ∧ len ≤ cap ∧ cap ≤ maxLen ∧ (len = 0 ∧ cap = 0 ∨ ∃ b off, a = some ⟨b, off, none⟩ ∧ b < w.heap.size) := by
  rcases h with ⟨rfl, rfl, rfl⟩ | ⟨b, off, rfl, hb, hpos, hl, hm, hx, hf, hc⟩
  · exact ⟨[], by simp, fun z hz => (by cases hz), ⟨by simp, .inl rfl⟩, Nat.le_refl _, by decide, .inl ⟨rfl, rfl⟩⟩
  · have key : ∀ i, i < len * s → ∃ n, (xs.getD (i / s) [])[i % s]? = some (.int .u8 n) ∧ 0 ≤ n ∧ n ≤ 255 := fun i hi =>
      fits_u8s (hf (i / s) (Nat.lt_of_lt_of_le (Nat.div_lt_of_lt_mul (by rwa [Nat.mul_comm])) hl)) (i % s) (Nat.mod_lt _ hs)
    refine ⟨(List.range (len * s)).map fun i => match (xs.getD (i / s) [])[i % s]? with | some (.int _ n) => n | _ => 0, by simp, ?_, ⟨by simp, .inr ⟨b, off, rfl, hb, fun i hi => ?_⟩⟩, hl, hm, .inr ⟨b, off, rfl, hb⟩⟩
    · intro z hz
      obtain ⟨i, hi, rfl⟩ := List.mem_map.1 hz
      obtain ⟨n, hn, h0, h1⟩ := key i (List.mem_range.1 hi)
      simp only [hn]
      exact ⟨h0, h1⟩
    · have hi' : i < len * s := by simpa using hi
      obtain ⟨n, hn, h0, h1⟩ := key i hi'
      have hq : i / s < len := Nat.div_lt_of_lt_mul (by rwa [Nat.mul_comm])
      have := hc (i / s) (i % s) (by omega) (by simpa using Nat.mod_lt _ hs)
      simp only [List.length_replicate] at this
      rw [show i / s * s + i % s = i by rw [Nat.mul_comm]; exact Nat.div_add_mod i s] at this
      rw [this, hn]
      rw [List.getD_eq_getElem?_getD] at hn
      simp [hi', hn]
theorem Reads.take {w : World} {a : Option Addr} {len k : Nat} {zs : List Int} (h : Reads w 1 a len (u8s zs)) (hk : k ≤ len) : Reads w 1 a k (u8s (zs.take k)) := by
  obtain ⟨h1, h2⟩ := h
  simp only [List.length_map, Nat.mul_one] at h1
  refine ⟨by simp; omega, ?_⟩
  rcases h2 with h2 | ⟨b, off, rfl, hb, hc⟩
  · exact .inl (by omega)
  · refine .inr ⟨b, off, rfl, hb, fun i hi => ?_⟩
    have hi' : i < k := by simp only [List.length_map, List.length_take] at hi; omega
    rw [hc i (by simp; omega)]
    simp [List.getElem?_take, hi']
theorem Reads.drop {w : World} {b off : Nat} {len k : Nat} {zs : List Int} (h : Reads w 1 (some ⟨b, off, none⟩) len (u8s zs)) (hk : k ≤ len) : Reads w 1 (some ⟨b, off + k, none⟩) (len - k) (u8s (zs.drop k)) := by
  obtain ⟨h1, h2⟩ := h
  simp only [List.length_map, Nat.mul_one] at h1
  refine ⟨by simp; omega, ?_⟩
  rcases h2 with h2 | ⟨b', off', e, hb, hc⟩
  · exact .inl (by omega)
  · cases e
    refine .inr ⟨b, off + k, rfl, hb, fun i hi => ?_⟩
    have hi' : i < len - k := by simp only [List.length_map, List.length_drop] at hi; omega
    have := hc (k + i) (by simp; omega)
    rw [Nat.add_assoc, this]
    simp
end Go.Proofs.Ytkklppjimnkibaa.Bytes
