/-
  A place's hash.
-/
import Derived.Test.YtminaamfelcajaaMaA
namespace Go.Proofs.Ytminaamfelcajaa.MaB
open Go.RowKit Rd Go.Proofs.Ytminaamfelcajaa.Row MaM MaA
set_option linter.unusedVariables false
set_option linter.unusedSimpArgs false
set_option maxRecDepth 10000
theorem cell_u8 {X : World} {a : Option Addr} {n : Nat} {l : List Int} (h : Reads X 1 a n (us l)) (hn : l.length = n) (h0 : n ≠ 0) : ∃ p o, a = some ⟨p, o, none⟩ ∧ p < X.heap.size ∧ ∀ i, i < n → X.cell? ⟨p, o + i, none⟩ = some (.int .u8 (l.getD i 0)) := by
  rcases h.2 with h1 | ⟨p, o, h1, h2, h3⟩
  · exact absurd h1 h0
  · refine ⟨p, o, h1, h2, fun i hi => ?_⟩
    rw [h3 i (by simp; omega)]
    simp [us, List.getD, show i < l.length by omega]
/-- a hash behind so many bytes -/
def hk (l : List Int) (k : Nat) : Nat → Nat
  | 0 => 0
  | i + 1 => (hk l k i * 16) ^^^ (l.getD (k + i) 0).toNat
theorem hk_lt {l : List Int} (hb : By l) (k : Nat) : hk l k 1 < 256 ∧ hk l k 2 < 4096 ∧ hk l k 3 < 65536 := by
  have c : ∀ i, (l.getD (k + i) 0).toNat < 256 := fun i => by have := hb.at_ (k + i); omega
  have h1 : hk l k 1 < 256 := by show (0 * 16) ^^^ _ < 256; rw [Nat.zero_mul, Nat.zero_xor]; exact c 0
  have h2 : hk l k 2 < 4096 := Nat.xor_lt_two_pow (n := 12) (by show hk l k 1 * 16 < 4096; omega) (Nat.lt_of_lt_of_le (c 1) (by omega))
  have h3 : hk l k 3 < 65536 := Nat.xor_lt_two_pow (n := 16) (by show hk l k 2 * 16 < 65536; omega) (Nat.lt_of_lt_of_le (c 2) (by omega))
  exact ⟨h1, h2, h3⟩
theorem hk_bd {l : List Int} (hb : By l) (k i : Nat) (hi : i ≤ 3) : hk l k i < 65536 := by
  obtain ⟨a, b, c⟩ := hk_lt hb k
  have : i = 0 ∨ i = 1 ∨ i = 2 ∨ i = 3 := by omega
  rcases this with rfl | rfl | rfl | rfl
  · show 0 < 65536; omega
  · omega
  · omega
  · exact c
def hs (l : List Int) (k : Nat) : Nat := hk l k 3 % 4096
theorem hs_lt (l : List Int) (k : Nat) : hs l k < 4096 := Nat.mod_lt _ (by omega)
theorem hs_alike (l : List Int) (i j : Nat) (h : ∀ t, t < 3 → l.getD (i + t) 0 = l.getD (j + t) 0) : hs l i = hs l j := by
  unfold hs
  show ((((0 * 16) ^^^ (l.getD (i + 0) 0).toNat) * 16 ^^^ (l.getD (i + 1) 0).toNat) * 16 ^^^ (l.getD (i + 2) 0).toNat) % 4096 = ((((0 * 16) ^^^ (l.getD (j + 0) 0).toNat) * 16 ^^^ (l.getD (j + 1) 0).toNat) * 16 ^^^ (l.getD (j + 2) 0).toNat) % 4096
  rw [h 0 (by omega), h 1 (by omega), h 2 (by omega)]
theorem xor_i64 (a b : Nat) (ha : a < 1048576) (hb : b < 1048576) : bits .xor .i64 (a : Int) (b : Int) = ((a ^^^ b : Nat) : Int) := by
  have hx : a ^^^ b < 1048576 := Nat.xor_lt_two_pow (n := 20) ha hb
  show IntKind.i64.wrap ((BitVec.ofInt 64 (a : Int) ^^^ BitVec.ofInt 64 (b : Int)).toNat : Int) = _
  rw [BitVec.toNat_xor, ofInt_u64 a (by omega), ofInt_u64 b (by omega), IntKind.wrap_i64]
  omega
set_option maxHeartbeats 2000000 in
theorem hash_any (f : Nat) (ba ra : Option Addr) (l : List Int) (cb cr k : Nat) (X : World) (h : Hd X f ba ra l.length cb cr) (hr : Reads X 1 ba l.length (us l)) (hb : By l) (hk3 : k + 3 ≤ l.length) (hl : l.length ≤ 1000000) :
    Calls Try.prog 32 #[.pointer (some ⟨f, 0, none⟩), .int .i64 k] X fun e w' => e = .returned (.int .i64 (hs l k)) ∧ w' = X := by
  have c0 := h.c0
  have HCB := Lib.hid (And.intro h.cap h.big)
  obtain ⟨p, o, rfl, hp, hc⟩ := cell_u8 hr rfl (by omega)
  have HC := Lib.hid hc
  have HB := Lib.hid hb
  have cap := h.cap
  have big := h.big
  unfold maxLen at big
  clear hc hr hb h
  go_enter Try.func32, Try.ntmps32
  go_wp2_with fail
  go_loopw [5, 17] (fun h i Y => ∃ j : Nat, j ≤ 3 ∧ i = .int .i64 j ∧ h = .int .i64 (hk l k j) ∧ Y = X) (fun _ i _ => 3 - (intOf i).toNat)
  case atStart => exact ⟨0, by omega, rfl, rfl, rfl⟩
  case round =>
    obtain ⟨j, hj9, rfl, rfl, rfl⟩ := hrel
    by_cases hlt : j < 3
    · have hlt' : (j : Int) < 3 := by omega
      have HY := Lib.hid (show hk l k (j + 1) = (hk l k j * 16) ^^^ (l.getD (k + j) 0).toNat from rfl)
      have k1 := HC.out (k + j) (by omega)
      rw [← Nat.add_assoc] at k1
      have b1 := hk_bd HB.out k j hj9
      have b2 := HB.out.at_ (k + j)
      obtain ⟨y, hy⟩ : ∃ y, hk l k j = y := ⟨_, rfl⟩
      obtain ⟨x, hx⟩ : ∃ x : Nat, l.getD (k + j) 0 = x := ⟨(l.getD (k + j) 0).toNat, by omega⟩
      rw [hy] at b1 HY ⊢
      rw [hx] at k1 b2 HY
      have x1 : bits .xor .i64 ((y : Int) * 16) (x : Int) = ((y * 16 ^^^ x : Nat) : Int) := xor_i64 (y * 16) x (by omega) (by omega)
      have x2 : ((x : Int)).toNat = x := by omega
      rw [x2] at HY
      clear hy hx x2
      go_wp2
      exact ⟨⟨j + 1, by omega, by go_num, by rw [HY.out], trivial⟩, by simp [intOf]; omega⟩
    · obtain rfl : j = 3 := by omega
      have b1 := hk_bd HB.out k 3 (by omega)
      have HY := Lib.hid (show hs l k = hk l k 3 % 4096 from rfl)
      obtain ⟨y, hy⟩ : ∃ y, hk l k 3 = y := ⟨_, rfl⟩
      rw [hy] at b1 HY ⊢
      clear hy
      go_wp2
      go_ret
      exact ⟨by rw [HY.out]; rfl, rfl⟩
end Go.Proofs.Ytminaamfelcajaa.MaB
