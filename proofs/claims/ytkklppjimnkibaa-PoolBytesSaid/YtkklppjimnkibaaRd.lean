/-
  What it is that a slice reads as a row of cells.
-/
import Derived.Test.YtkklppjimnkibaaReg
import Derived.Lib.Hide
import Derived.LoopTactic
import Derived.Laws.CopyOwn
import Derived.Laws.Rows
import Derived.Deep.RegionHeld3
import Derived.Deep.AppendLies
import Derived.Laws.IdiomStrings
import Derived.Lib.QuietBelow
import Derived.Deep.Cut
namespace Go.Proofs.Ytkklppjimnkibaa.Rd
open Go.RowKit
set_option linter.unusedVariables false
set_option linter.unusedSimpArgs false

/-- a slice's address and length lead to these cells ('s' cells an element) -/
def Reads (w : World) (s : Nat) (a : Option Addr) (len : Nat) (cs : List Value) : Prop :=
  cs.length = len * s ∧ (len = 0 ∨ ∃ b off, a = some ⟨b, off, none⟩ ∧ b < w.heap.size ∧ ∀ i, i < cs.length → w.cell? ⟨b, off + i, none⟩ = cs[i]?)

theorem Reads.below {w w' : World} {s : Nat} {a : Option Addr} {len B : Nat} {cs : List Value} (h : Reads w s a len cs) (hb : Below B w w') (hB : w.heap.size ≤ B) : Reads w' s a len cs := by
  obtain ⟨h1, h2⟩ := h
  refine ⟨h1, ?_⟩
  rcases h2 with h2 | ⟨b, off, rfl, hlt, hc⟩
  · exact .inl h2
  · refine .inr ⟨b, off, rfl, Nat.lt_of_lt_of_le hlt hb.size, fun i hi => ?_⟩
    rw [hb.cell (p := ⟨b, off + i, none⟩) (by show b < B; omega)]
    exact hc i hi

theorem owns_val {w : World} {base : Nat} {e : TypeId} {size : Nat} {v : Value} {n : Nat} {xs : List Value} (h : w.ownsRow base e size v n xs) : ∃ a cap, v = .slice a n cap ∧ n ≤ cap ∧ cap ≤ maxLen := by
  obtain ⟨h1, h2⟩ := h
  rcases h2 with ⟨rfl, rfl⟩ | ⟨g, cap, cur, rfl, _, _, hc, hm, _⟩
  · exact ⟨none, 0, rfl, by omega, by decide⟩
  · exact ⟨_, cap, rfl, hc, hm⟩
theorem Reads.of_owns {w : World} {base : Nat} {e : TypeId} {size n cap : Nat} {a : Option Addr} {xs : List Value} (h : w.ownsRow base e size (.slice a n cap) n xs) : Reads w size a n xs := by
  obtain ⟨h1, h2⟩ := h
  refine ⟨h1, ?_⟩
  rcases h2 with ⟨h3, rfl⟩ | ⟨g, cap', cur, h3, hb, hg, hc, hm, hs, ht⟩
  · exact .inl rfl
  · cases h3
    refine .inr ⟨g, 0, rfl, ?_, fun i hi => ?_⟩
    · rcases Nat.lt_or_ge g w.heap.size with h | h
      · exact h
      · rw [Array.getElem?_eq_none h] at hg; cases hg
    · rw [Nat.zero_add, ← ht]
      have hi' : i < n * size := by rw [← h1]; exact hi
      unfold World.cell?
      simp only [hg]
      rw [List.getElem?_take_of_lt hi']
      simp

/-- the cells of a block that has just been laid -/
theorem news_of (w : World) (C : Array Value) (t : TypeId) : ∀ j u, C.toList[j]? = some u → (w.alloc (.cells C t)).cell? ((⟨w.heap.size, 0, none⟩ : Addr).add j) = some u := by
  intro j u h
  have e : (⟨w.heap.size, 0, none⟩ : Addr).add j = ⟨w.heap.size, j, none⟩ := by
    unfold Addr.add
    by_cases hj : j = 0 <;> simp [hj]
  rw [e, World.cell?_alloc_mark]
  simpa using h
theorem one_ints {k : IntKind} {l : List Int} : ∀ u ∈ l.map (Value.int k), u.oneCell' = true := by
  intro u hu
  obtain ⟨x, _, rfl⟩ := List.mem_map.1 hu
  rfl

/-- a block that has just been laid reads as its cells -/
theorem reads_new (w : World) (C : Array Value) (t : TypeId) (s len : Nat) (h : C.size = len * s) : Reads (w.alloc (.cells C t)) s (some ⟨w.heap.size, 0, none⟩) len C.toList := by
  refine ⟨by simpa using h, .inr ⟨_, 0, rfl, by simp, fun i hi => ?_⟩⟩
  rw [Nat.zero_add, World.cell?_alloc_mark]
  simp
theorem owns_pos {w : World} {base : Nat} {e : TypeId} {size : Nat} {v : Value} {n : Nat} {xs : List Value} (h : w.ownsRow base e size v n xs) (hn : 0 < n) :
    ∃ g cap, v = .slice (some ⟨g, 0, none⟩) n cap ∧ base ≤ g ∧ g < w.heap.size ∧ n ≤ cap ∧ cap ≤ maxLen ∧ ∀ i, i < n * size → w.cell? ⟨g, i, none⟩ = xs[i]? := by
  obtain ⟨a, cap, rfl, h1, h2⟩ := owns_val h
  have hr := Reads.of_owns h
  obtain ⟨h3, h4⟩ := h
  rcases h4 with ⟨h5, rfl⟩ | ⟨g, cap', cur, h5, hb, hg, hc, hm, hs, ht⟩
  · omega
  · cases h5
    obtain ⟨h6, h7⟩ := hr
    rcases h7 with h7 | ⟨b, off, h7, hlt, hcell⟩
    · omega
    · cases h7
      exact ⟨g, cap, rfl, hb, hlt, h1, h2, fun i hi => by have := hcell i (by omega); rwa [Nat.zero_add] at this⟩

/-- what has been there is there behind a call that laid blocks alone -/
theorem bcell {W w1 : World} (hb : Below W.heap.size W w1) : (∀ b o, b < W.heap.size → w1.cell? ⟨b, o, none⟩ = W.cell? ⟨b, o, none⟩) :=
  fun b o h => hb.cell (p := ⟨b, o, none⟩) h

/-- bytes as a string -/
def bytesOf (zs : List Int) : ByteArray := ⟨(zs.map fun z => UInt8.ofNat z.toNat).toArray⟩
theorem conv_reads {P : Program} {w : World} {src dst e : TypeId} {a : Option Addr} {len cap : Nat} {zs : List Int} (hs : P.underlying src = some (.slice e)) (he : P.underlying e = some (.int .u8)) (hd : P.underlying dst = some .string)
    (h : Reads w 1 a len (zs.map (Value.int .u8))) (hz : ∀ z ∈ zs, 0 ≤ z ∧ z ≤ 255) : (convert src dst (.slice a len cap)).run P w = .ok (.string (bytesOf zs)) w := by
  obtain ⟨h1, h2⟩ := h
  simp only [List.length_map, Nat.mul_one] at h1
  rcases h2 with h2 | ⟨b, off, rfl, hb, hc⟩
  · subst h2
    obtain rfl : zs = [] := List.eq_nil_of_length_eq_zero h1
    rw [run_convert_bytes_string w src dst e a 0 cap hs he hd]
    cases a with
    | none => unfold Conv.bytesToString; simp [bytesOf, go_sem]; rfl
    | some a =>
      have := run_bytesToString (P := P) w a 0 cap [] (by simp [loadCells, go_sem])
      rw [this]; rfl
  · have e1 : (zs.map fun z => UInt8.ofNat z.toNat).length = len := by simpa using h1
    have := run_convert_bytes_back (P := P) w src dst e ⟨b, off, none⟩ cap (zs.map fun z => UInt8.ofNat z.toNat) hs he hd (fun j hj => by
      have hj' : j < zs.length := by simpa using hj
      have h3 := hc j (by simpa using hj')
      have e2 : (⟨b, off, none⟩ : Addr).add j = ⟨b, off + j, none⟩ := by
        unfold Addr.add
        by_cases hj0 : j = 0 <;> simp [hj0]
      rw [e2, h3]
      have hm : zs[j] ∈ zs := List.getElem_mem hj'
      have hb2 := hz _ hm
      simp only [List.getElem_map, List.getElem?_map, List.getElem?_eq_getElem hj', Option.map_some, Option.some.injEq, Value.int.injEq, true_and]
      have : zs[j].toNat < 256 := by omega
      rw [UInt8.toNat_ofNat']
      omega)
    rw [e1] at this
    exact this

theorem below_step {w W w' : World} (h1 : Below w.heap.size w W) (h2 : Below W.heap.size W w') : Below w.heap.size w w' := h1.trans (h2.mono h1.size)
theorem below_alloc {w W : World} (h1 : Below w.heap.size w W) (o : Obj) : Below w.heap.size w (W.alloc o) := h1.alloc h1.size o

/-- the world under a name -/
theorem name_world {P : Program} {c : Code} {Q : Exit → Act → World → Prop} {a : Act} {w : World} (h : ∀ W, W = w → c.wp P Q a W) : c.wp P Q a w := h w rfl
theorem below_drewN {B : Nat} {w W : World} (h1 : Below B w W) (n : Nat) : Below B w (W.drewN n) := h1.trans ⟨rfl, rfl, rfl, Nat.le_refl _, fun _ _ => rfl⟩
theorem below_of_regrown {W W2 : World} (h : ∃ p : Regrown, W2 = Sort.grow (redrawn W p.d) p.os) : Below W.heap.size W W2 := by
  obtain ⟨⟨d, os⟩, rfl⟩ := h
  exact below_regrown _ _ _
theorem heap_setRow_other (w : World) (g k : Nat) (c : Array Value) (h : k ≠ g) : (w.setRow g c).heap[k]? = w.heap[k]? := by
  unfold World.setRow
  simp [Array.getElem?_modify, Ne.symm h]
theorem below_setRow {B : Nat} {w W : World} (h : Below B w W) {g : Nat} (hg : B ≤ g) (c : Array Value) : Below B w (W.setRow g c) :=
  h.trans ⟨rfl, rfl, rfl, by simp, fun k hk => heap_setRow_other W g k c (by omega)⟩
end Go.Proofs.Ytkklppjimnkibaa.Rd
