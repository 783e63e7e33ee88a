/-
  Sums are linear: the mathematics alone.
-/
import Derived.Test.YtbicgcnlijgjmaaCrcC
namespace Go.Proofs.Ytbicgcnlijgjmaa.CrcX
open Go.RowKit Rd CrcA CrcB CrcC
set_option linter.unusedVariables false
set_option linter.unusedSimpArgs false
set_option maxRecDepth 10000
theorem xor3 (a b c d e f : Nat) : (a ^^^ d) ^^^ (b ^^^ e) ^^^ (c ^^^ f) = (a ^^^ b ^^^ c) ^^^ (d ^^^ e ^^^ f) := by
  apply Nat.eq_of_testBit_eq
  intro i
  simp only [Nat.testBit_xor]
  cases a.testBit i <;> cases b.testBit i <;> cases c.testBit i <;> cases d.testBit i <;> cases e.testBit i <;> cases f.testBit i <;> rfl
/-- byte by byte -/
def xorL (xs ys : List Int) : List Int := (xs.zip ys).map fun p => ((p.1.toNat ^^^ p.2.toNat : Nat) : Int)
theorem xorL_len {xs ys : List Int} {n : Nat} (hx : xs.length = n) (hy : ys.length = n) : (xorL xs ys).length = n := by simp [xorL, hx, hy]
theorem xorL_b8 {xs ys : List Int} (hx : B8s xs) (hy : B8s ys) : B8s (xorL xs ys) := by
  intro z hz
  obtain ⟨⟨p, q⟩, hp, rfl⟩ := List.mem_map.1 hz
  have h1 := hx p (List.of_mem_zip hp).1
  have h2 := hy q (List.of_mem_zip hp).2
  have := xor8 (show p.toNat < 256 by omega) (show q.toNat < 256 by omega)
  simp only
  omega
theorem onF_xor : ∀ (xs ys : List Int) (c d e : Nat), xs.length = ys.length → onF (c ^^^ d ^^^ e) (xorL xs ys) = onF c xs ^^^ onF d ys ^^^ onF e (List.replicate xs.length 0)
  | [], [], c, d, e, _ => rfl
  | x :: xs, y :: ys, c, d, e, h => by
    have ih := onF_xor xs ys (stepN c x.toNat) (stepN d y.toNat) (stepN e 0) (by simpa using h)
    show onF (stepN (c ^^^ d ^^^ e) (((x.toNat ^^^ y.toNat : Nat) : Int).toNat)) (xorL xs ys) = onF (stepN c x.toNat) xs ^^^ onF (stepN d y.toNat) ys ^^^ onF (stepN e 0) (List.replicate xs.length 0)
    rw [← ih, Int.toNat_natCast]
    congr 1
    rw [← stepN_xor, ← stepN_xor, Nat.xor_zero]
theorem ones3 : 4294967295 ^^^ 4294967295 ^^^ 4294967295 = 4294967295 := by decide
theorem onV_ones {zs : List Int} (h : B8s zs) : onV 0 zs = 4294967295 ^^^ onF 4294967295 zs := by
  unfold onV
  rw [xor_ones _ (onF_lt zs _ h (by omega))]
theorem rep_b8 (n : Nat) : B8s (List.replicate n 0) := fun z hz => by have := List.eq_of_mem_replicate hz; omega
theorem onV_xor {xs ys : List Int} (h : xs.length = ys.length) (hx : B8s xs) (hy : B8s ys) : onV 0 (xorL xs ys) = onV 0 xs ^^^ onV 0 ys ^^^ onV 0 (List.replicate xs.length 0) := by
  rw [onV_ones (xorL_b8 hx hy), onV_ones hx, onV_ones hy, onV_ones (rep_b8 _), xor3, ones3, ← onF_xor xs ys _ _ _ h, ones3]
end Go.Proofs.Ytbicgcnlijgjmaa.CrcX
