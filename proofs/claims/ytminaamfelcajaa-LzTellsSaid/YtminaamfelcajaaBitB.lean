/-
  What a writer of bits has: its bits, packed; and what Put does.
-/
import Derived.Test.YtminaamfelcajaaBitA
namespace Go.Proofs.Ytminaamfelcajaa.BitB
open Go.RowKit Rd Go.Proofs.Ytminaamfelcajaa.Row OctA BitA
set_option linter.unusedVariables false
set_option linter.unusedSimpArgs false
set_option maxRecDepth 100000
def byteAt (l : List Nat) (i : Nat) : Nat := l.getD (8 * i) 0 * 128 + l.getD (8 * i + 1) 0 * 64 + l.getD (8 * i + 2) 0 * 32 + l.getD (8 * i + 3) 0 * 16 + l.getD (8 * i + 4) 0 * 8 + l.getD (8 * i + 5) 0 * 4 + l.getD (8 * i + 6) 0 * 2 + l.getD (8 * i + 7) 0
def pack (l : List Nat) : List Int := (List.range ((l.length + 7) / 8)).map (fun i => (byteAt l i : Int))
def Bits (l : List Nat) : Prop := ∀ b ∈ l, b ≤ 1
theorem pack_length (l : List Nat) : (pack l).length = (l.length + 7) / 8 := by simp [pack]
theorem getD_bit {l : List Nat} (h : Bits l) (i : Nat) : l.getD i 0 ≤ 1 := by
  rw [List.getD_eq_getElem?_getD]
  cases e : l[i]? with
  | none => simp
  | some b => exact h b (List.mem_of_getElem? e)
theorem byteAt_le {l : List Nat} (h : Bits l) (i : Nat) : byteAt l i ≤ 255 := by
  have h0 := getD_bit h (8 * i)
  have h1 := getD_bit h (8 * i + 1)
  have h2 := getD_bit h (8 * i + 2)
  have h3 := getD_bit h (8 * i + 3)
  have h4 := getD_bit h (8 * i + 4)
  have h5 := getD_bit h (8 * i + 5)
  have h6 := getD_bit h (8 * i + 6)
  have h7 := getD_bit h (8 * i + 7)
  unfold byteAt
  omega
theorem pack_b8 {l : List Nat} (h : Bits l) : ∀ z ∈ pack l, 0 ≤ z ∧ z ≤ 255 := by
  intro z hz
  unfold pack at hz
  obtain ⟨i, -, rfl⟩ := List.mem_map.1 hz
  have := byteAt_le h i
  omega
theorem getD_out {l : List Nat} {i : Nat} (h : l.length ≤ i) : l.getD i 0 = 0 := by
  rw [List.getD_eq_getElem?_getD, List.getElem?_eq_none h]
  rfl
theorem getD_push (l : List Nat) (b k : Nat) : (l ++ [b]).getD k 0 = if k = l.length then b else l.getD k 0 := by
  simp only [List.getD_eq_getElem?_getD]
  by_cases h : k = l.length
  · subst h; simp
  · rw [if_neg h]
    by_cases h2 : k < l.length
    · rw [List.getElem?_append_left h2]
    · rw [List.getElem?_eq_none (by simp; omega), List.getElem?_eq_none (by omega)]
theorem or_add (z b k : Nat) (hz : z % 2 ^ (k + 1) = 0) (hb : b ≤ 1) : z ||| b * 2 ^ k = z + b * 2 ^ k := by
  have h1 : b * 2 ^ k < 2 ^ (k + 1) := by
    have : b * 2 ^ k ≤ 1 * 2 ^ k := Nat.mul_le_mul_right _ hb
    have h3 : 0 < 2 ^ k := Nat.two_pow_pos k
    rw [Nat.pow_succ]
    omega
  have h2 : z = 2 ^ (k + 1) * (z / 2 ^ (k + 1)) := by
    have := Nat.div_add_mod z (2 ^ (k + 1))
    omega
  rw [h2]
  exact (Nat.two_pow_add_eq_or_of_lt h1 _).symm
theorem widen_pack (l : List Nat) : widen (pack l) l.length = (List.range ((l.length + 8) / 8)).map (fun i => (byteAt l i : Int)) := by
  unfold widen pack
  split
  · rename_i h
    rw [show (l.length + 8) / 8 = (l.length + 7) / 8 + 1 by omega, List.range_succ, List.map_append]
    have : byteAt l ((l.length + 7) / 8) = 0 := by
      unfold byteAt
      rw [getD_out (by omega), getD_out (by omega), getD_out (by omega), getD_out (by omega), getD_out (by omega), getD_out (by omega), getD_out (by omega), getD_out (by omega)]
    simp [this]
  · rw [show (l.length + 8) / 8 = (l.length + 7) / 8 by omega]
theorem byte_push {l : List Nat} (h : Bits l) {b : Nat} (hb : b ≤ 1) : orB (byteAt l (l.length / 8)) b l.length = byteAt (l ++ [b]) (l.length / 8) := by
  obtain ⟨i, hi⟩ : ∃ i, i = l.length / 8 := ⟨_, rfl⟩
  obtain ⟨j, hj⟩ : ∃ j, j = l.length % 8 := ⟨_, rfl⟩
  have hn : l.length = 8 * i + j := by omega
  have hj8 : j < 8 := by omega
  rw [← hi]
  unfold orB
  rw [← hj]
  have key : byteAt (l ++ [b]) i = byteAt l i + b * 2 ^ (7 - j) ∧ byteAt l i % 2 ^ (7 - j + 1) = 0 := by
    unfold byteAt
    simp only [getD_push, hn]
    have o : ∀ k, j ≤ k → l.getD (8 * i + k) 0 = 0 := fun k hk => getD_out (by omega)
    have o0 := o 0
    have o1 := o 1
    have o2 := o 2
    have o3 := o 3
    have o4 := o 4
    have o5 := o 5
    have o6 := o 6
    have o7 := o 7
    clear o hi hn h
    rw [Nat.add_zero] at o0
    generalize l.getD (8 * i) 0 = a0 at o0 ⊢
    generalize l.getD (8 * i + 1) 0 = a1 at o1 ⊢
    generalize l.getD (8 * i + 2) 0 = a2 at o2 ⊢
    generalize l.getD (8 * i + 3) 0 = a3 at o3 ⊢
    generalize l.getD (8 * i + 4) 0 = a4 at o4 ⊢
    generalize l.getD (8 * i + 5) 0 = a5 at o5 ⊢
    generalize l.getD (8 * i + 6) 0 = a6 at o6 ⊢
    generalize l.getD (8 * i + 7) 0 = a7 at o7 ⊢
    rcases (show j = 0 ∨ j = 1 ∨ j = 2 ∨ j = 3 ∨ j = 4 ∨ j = 5 ∨ j = 6 ∨ j = 7 by omega) with rfl | rfl | rfl | rfl | rfl | rfl | rfl | rfl <;> simp <;> omega
  rw [or_add _ _ _ key.2 hb, key.1]
theorem byte_push_else {l : List Nat} {b i : Nat} (h : i ≠ l.length / 8) : byteAt (l ++ [b]) i = byteAt l i := by
  unfold byteAt
  simp only [getD_push]
  rw [if_neg (by omega), if_neg (by omega), if_neg (by omega), if_neg (by omega), if_neg (by omega), if_neg (by omega), if_neg (by omega), if_neg (by omega)]
theorem step_pack {l : List Nat} (h : Bits l) {b : Nat} (hb : b ≤ 1) : stepZ (pack l) l.length b = pack (l ++ [b]) := by
  unfold stepZ
  rw [widen_pack]
  have hm : l.length / 8 < (l.length + 8) / 8 := by omega
  have hg : ((List.range ((l.length + 8) / 8)).map (fun i => (byteAt l i : Int))).getD (l.length / 8) 0 = byteAt l (l.length / 8) := by
    simp [List.getD, hm]
  rw [hg, Int.toNat_natCast, byte_push h hb]
  unfold pack
  rw [show (l ++ [b]).length + 7 = l.length + 8 by simp]
  refine List.ext_getElem (by simp) fun i h1 h2 => ?_
  simp only [List.getElem_set, List.getElem_map, List.getElem_range]
  split
  · rename_i e; rw [e]
  · rename_i e; rw [byte_push_else (Ne.symm e)]
/-- a number's bits -/
def putL (x n : Nat) : List Nat := (List.range n).map (fun j => x / 2 ^ (n - 1 - j) % 2)
theorem putL_length (x n : Nat) : (putL x n).length = n := by simp [putL]
theorem putL_bits (x n : Nat) : Bits (putL x n) := by
  intro b hb
  unfold putL at hb
  obtain ⟨j, -, rfl⟩ := List.mem_map.1 hb
  omega
theorem putL_take {x n k : Nat} (h : k < n) : (putL x n).take (k + 1) = (putL x n).take k ++ [x / 2 ^ (n - 1 - k) % 2] := by
  rw [List.take_add_one]
  simp [putL, h]
theorem Bits.append {a b : List Nat} (ha : Bits a) (hb : Bits b) : Bits (a ++ b) := fun x hx => (List.mem_append.1 hx).elim (ha x) (hb x)
theorem Bits.take {a : List Nat} (ha : Bits a) (k : Nat) : Bits (a.take k) := fun x hx => ha x (List.mem_of_mem_take hx)
/-- a writer has bits -/
def Wr (w : World) (p : Nat) (v : Value) (l : List Nat) : Prop := WSt w p v (pack l) l.length ∧ Bits l
theorem put_bit' (p b : Nat) (v : Value) (l : List Nat) (w : World) (hW : Wr w p v l) (hb : b ≤ 1) (hn : l.length ≤ 100000) :
    Calls Try.prog 30 #[.pointer (some ⟨p, 0, none⟩), .int .u8 b] w fun e w' => ∃ v', e = .returned (.tuple #[]) ∧ Wr w' p v' (l ++ [b]) ∧ Fr w w' p v v' := by
  refine (put_bit p l.length b v (pack l) w hW.1 (pack_length l) (pack_b8 hW.2) hb hn).mono fun e w' ⟨v', he, h1, h2⟩ => ⟨v', he, ⟨?_, hW.2.append (fun x hx => by simp at hx; omega)⟩, h2⟩
  rw [step_pack hW.2 hb] at h1
  simpa using h1
theorem and_one (a : Nat) : bits .and .i64 (a : Int) 1 = ((a % 2 : Nat) : Int) := by
  have h127 : (BitVec.ofInt 64 1).toNat = 2 ^ 1 - 1 := by decide
  have key : (BitVec.ofInt 64 (a : Int) &&& BitVec.ofInt 64 1).toNat = ((a : Int) % ((2 ^ 64 : Nat) : Int)).toNat % 2 ^ 1 := by
    rw [BitVec.toNat_and, BitVec.toNat_ofInt, h127, Nat.and_two_pow_sub_one_eq_mod]
  show IntKind.i64.wrap ((BitVec.ofInt 64 (a : Int) &&& BitVec.ofInt 64 1).toNat : Nat) = _
  rw [key, IntKind.wrap_i64]
  omega
set_option maxHeartbeats 2000000 in
theorem put_ok (p : Nat) (v : Value) (l : List Nat) (x n : Nat) (w : World) (hW : Wr w p v l) (hn : n ≤ 32) (hx : x < 2 ^ n) (hl : l.length ≤ 90000) :
    Calls Try.prog 16 #[.pointer (some ⟨p, 0, none⟩), .int .i64 x, .int .i64 n] w fun e w' => ∃ v', e = .returned (.int .i64 0) ∧ Wr w' p v' (l ++ putL x n) ∧ Fr w w' p v v' := by
  have hx' : (x : Int) < 2 ^ n := by exact_mod_cast hx
  have hp32 : (2 : Int) ^ n ≤ 4294967296 := by
    have : 2 ^ n ≤ 4294967296 := Nat.le_trans (Nat.pow_le_pow_right (by decide) hn) (by decide)
    have h := Int.ofNat_le.2 this
    rw [Int.natCast_pow] at h
    exact h
  have hp0 : (0 : Int) < 2 ^ n := by omega
  go_enter Try.func16, Try.ntmps16
  go_wp2_with fail
  clear hx' hp32 hp0
  go_loopw [7] (fun i wr => ∃ k : Nat, k ≤ n ∧ i = .int .i64 ((n : Int) - 1 - k) ∧ ∃ v', Hid (Wr wr p v' (l ++ (putL x n).take k)) ∧ Hid (Fr w wr p v v')) (fun i _ => (intOf i + 1).toNat)
  case atStart => exact ⟨0, Nat.zero_le _, by simp, v, by simpa [Hid] using hW, Fr.refl _ _ _⟩
  case round =>
    obtain ⟨k, hk, rfl, v', H1, H2⟩ := hrel
    by_cases hlt : k < n
    · obtain ⟨j, hj⟩ : ∃ j, j = n - 1 - k := ⟨_, rfl⟩
      have hj' : (n : Int) - 1 - k = (j : Int) := by omega
      have hj0 : (0 : Int) ≤ j := by omega
      rw [hj']
      have harg : bits .and .i64 ((x : Int) / 2 ^ j) 1 % 256 = ((x / 2 ^ j % 2 : Nat) : Int) := by
        rw [show (x : Int) / 2 ^ j = ((x / 2 ^ j : Nat) : Int) by simp, and_one]
        omega
      have hc := put_bit' p (x / 2 ^ j % 2) v' (l ++ (putL x n).take k) wr H1.out (by omega) (by simp [putL_length]; omega)
      have HT := putL_take (x := x) hlt
      rw [← hj] at HT
      have HT' := Lib.hid HT
      have HJ := Lib.hid hj
      clear HT hj
      go_wp2_with (go_at_call 30; rw [harg]; refine hc.mono ?_; rintro e w2 ⟨v2, rfl, H3, H4⟩)
      go_roundw
      case rel => exact ⟨k + 1, by omega, by go_num, v2, by rw [HT'.out, ← List.append_assoc]; exact H3, H2.out.trans H4⟩
      case measure => simp [intOf]
    · obtain rfl : k = n := by omega
      have H3 := H1.out
      rw [List.take_of_length_le (by rw [putL_length]; omega)] at H3
      go_wp2
      go_ret
      exact ⟨v', rfl, H3, H2.out⟩
end Go.Proofs.Ytminaamfelcajaa.BitB
