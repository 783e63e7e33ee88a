/-
  What package octets does.
-/
import Derived.Test.YtpjbacpchmemeaaOctA
namespace Go.Proofs.Ytpjbacpchmemeaa.OctB
open Go.RowKit Rd OctA
set_option linter.unusedVariables false
set_option linter.unusedSimpArgs false
set_option maxRecDepth 10000
theorem info_u8 : (Try.prog.info? 5).map (fun i => (i.zero, i.size, i.bytes)) = some (some (.int .u8 0), 1, 1) := by kernel_rfl
theorem div_far {k : Int} {n : Int} (hk : -9223372036854775808 ≤ k ∧ k ≤ 9223372036854775807) (hn : 9223372036854775808 ≤ n) : k / n = if 0 ≤ k then 0 else -1 := by
  split
  · exact Int.ediv_eq_zero_of_lt (by omega) (by omega)
  · refine Int.le_antisymm (Int.le_of_lt_add_one ?_) ?_
    · exact Int.ediv_lt_of_lt_mul (by omega) (by omega)
    · exact Int.le_ediv_of_mul_le (by omega) (by omega)
theorem shr_bytes (k : Int) (i : Nat) (hk : -9223372036854775808 ≤ k ∧ k ≤ 9223372036854775807) : Op.shift .shr .i64 k .i64 (8 * (i : Int)) = pure (.int .i64 (k / (256 ^ i : Nat))) := by
  rw [shift_shr_any _ _ _ _ (by omega), show (8 * (i : Int)).toNat = 8 * i by omega, show IntKind.i64.bits = 64 from rfl]
  congr 2
  have e : ((256 ^ i : Nat) : Int) = 2 ^ (8 * i) := by rw [Int.pow_mul]; simp
  rw [e]
  by_cases h : 8 * i ≤ 64
  · rw [Nat.min_eq_left h]
  · rw [Nat.min_eq_right (by omega)]
    have h2 : (2 : Int) ^ 64 ≤ 2 ^ (8 * i) := by have := Nat.pow_le_pow_right (show 0 < 2 by omega) (show 64 ≤ 8 * i by omega); exact_mod_cast this
    rw [div_far hk (by omega), div_far hk (by omega)]
set_option maxHeartbeats 1000000 in
theorem put_any (base : Nat) (v : Value) (n : Nat) (zs : List Int) (k : Int) (s : Nat) (w : World) (hv : Own w base 5 1 v n (u8s zs)) (hs : s ≤ 100) (hn : n ≤ 1000000) (hk : -9223372036854775808 ≤ k ∧ k ≤ 9223372036854775807) (hbase : base ≤ w.heap.size) :
    Calls Try.prog 43 #[v, .int .i64 k, .int .i64 s] w fun e w' => ∃ v', e = .returned v' ∧ Own w' base 5 1 v' (n + s) (u8s (zs ++ byts k s)) ∧ Below base w w' := by
  obtain ⟨i0, hi, hz0, hz1, hz2⟩ := info_parts info_u8
  go_enter Try.func43, Try.ntmps43
  go_wp2_with fail
  go_loopw [0, 7] (fun x i wr => ∃ j r : Nat, j + r = s ∧ i = .int .i64 ((r : Int) - 1) ∧ Own wr base 5 1 x (n + j) (u8s (zs ++ bytf k s j)) ∧ Below base w wr) (fun _ i _ => (1 + intOf i).toNat)
  case atStart => exact ⟨0, s, by omega, by rfl, by simpa [bytf] using hv, Below.refl _ _⟩
  case round =>
    obtain ⟨j, r, hj, hi7, hown, hb⟩ := hrel
    cases r with
    | succ i =>
      rw [show ((i + 1 : Nat) : Int) - 1 = (i : Int) by omega] at hi7
      subst hi7
      have hge : (0 : Int) ≤ (i : Int) := by omega
      have hsh := shr_bytes k i hk
      have sb := hb.size
      have hby := byt_bd k i
      have hnew : Own (wr.alloc (.cells #[.int .u8 (byt k i)] 5)) base 5 1 u0 (n + j) (u8s (zs ++ bytf k s j)) := hown.below ((Below.refl _ _).alloc (Nat.le_refl _) _)
      have HN := Lib.hid hnew
      clear hnew hown
      go_wp2_with (at_builtin; refine wpList_append_either _ rfl (.tmp 14) (.tmp 20) 23 rfl base 5 i0 (.int .u8 0) 1 1 Try.underlying23 hi hz0 hz1 hz2 rfl (by decide) _ _ _ rfl HN.out ⟨wr.heap.size, 0, none⟩ 1 1 [.int .u8 (byt k i)] rfl rfl (by decide) (news_of _ _ _) (by simp [Value.oneCell']) (by unfold maxLen; omega) (by omega) (by simp; omega) ?_; intro v3 w3 hown3 hb3)
      go_roundw
      case rel => exact ⟨j + 1, i, by omega, by rfl, by rw [bytf_succ, show s - 1 - j = i by omega]; refine .inl ?_; simpa [Nat.add_assoc] using hown3, hb.trans ((((Below.refl base wr).alloc (by omega) _)).trans hb3)⟩
      case measure => simp [intOf]; omega
    | zero =>
      subst hi7
      obtain rfl : j = s := by omega
      have hge : ¬ (0 : Int) ≤ ((0 : Nat) : Int) - 1 := by omega
      go_wp2
      go_ret
      rw [bytf_all] at hown
      exact ⟨u0, rfl, by simpa using hown, hb⟩

/-- the number of some bytes -/
def getN (zs : List Int) : Nat := zs.foldl (fun n z => n * 256 + z.toNat) 0
abbrev B8s (zs : List Int) : Prop := ∀ z ∈ zs, 0 ≤ z ∧ z ≤ 255
theorem getN_take {zs : List Int} {k : Nat} (h : k < zs.length) : getN (zs.take (k + 1)) = getN (zs.take k) * 256 + (zs.getD k 0).toNat := by
  rw [List.take_add_one, List.getElem?_eq_getElem h]
  unfold getN
  rw [List.foldl_append]
  simp [List.getD, h]
theorem getN_app (zs ys : List Int) (z : Int) : getN (zs ++ [z]) = getN zs * 256 + z.toNat := by
  unfold getN
  rw [List.foldl_append]
  rfl
theorem u8s_at (zs : List Int) (j : Nat) (h : j < zs.length) : (u8s zs)[j]? = some (.int .u8 (zs.getD j 0)) := by simp [u8s, List.getD, h]
theorem getD_b8 {zs : List Int} (hz : B8s zs) (j : Nat) : 0 ≤ zs.getD j 0 ∧ zs.getD j 0 ≤ 255 := by
  by_cases h : j < zs.length
  · have := hz zs[j] (List.getElem_mem _)
    simpa [List.getD, h] using this
  · simp [List.getD, h]
theorem getN_lt : ∀ (k : Nat) {zs : List Int}, B8s zs → k ≤ zs.length → getN (zs.take k) < 256 ^ k
  | 0, zs, _, _ => by simp [getN]
  | k + 1, zs, hz, hk => by
    rw [getN_take (by omega)]
    have h1 := getN_lt k hz (by omega)
    have h2 := getD_b8 hz k
    rw [Nat.pow_succ]
    omega
theorem i64_or_nat (a b : Nat) (ha : a < 36028797018963968) (hb : b < 256) : bits .or .i64 ((a : Int) * 256) (b : Int) = ((a * 256 + b : Nat) : Int) := by
  have e : ((a : Int) * 256) = ((a * 256 : Nat) : Int) := by omega
  have hor : a * 256 ||| b = a * 256 + b := by
    have := Nat.shiftLeft_add_eq_or_of_lt (i := 8) (show b < 2 ^ 8 by omega) a
    rw [Nat.shiftLeft_eq] at this
    exact this.symm
  have o64 : ∀ x : Nat, x < 9223372036854775808 → (BitVec.ofInt 64 (x : Int)).toNat = x := fun x hx => by
    rw [BitVec.ofInt_natCast, BitVec.toNat_ofNat]; exact Nat.mod_eq_of_lt (by omega)
  rw [e]
  show IntKind.i64.wrap ((BitVec.ofInt 64 ((a * 256 : Nat) : Int) ||| BitVec.ofInt 64 (b : Int)).toNat : Int) = _
  rw [BitVec.toNat_or, o64 _ (by omega), o64 _ (by omega), hor]
  have hlt : ((a * 256 + b : Nat) : Int) < 9223372036854775808 := by omega
  have h0 : (0 : Int) ≤ ((a * 256 + b : Nat) : Int) := by omega
  generalize ((a * 256 + b : Nat) : Int) = x at hlt h0 ⊢
  simp only [IntKind.wrap, IntKind.bits, IntKind.signed, Bool.true_and]
  rw [if_neg (by simp; omega)]
  simp
  omega
set_option maxHeartbeats 1000000 in
theorem get_any (a : Option Addr) (len cap : Nat) (zs : List Int) (w : World) (hr : Reads w 1 a len (u8s zs)) (hz : B8s zs) (hlen : len ≤ 7) :
    Calls Try.prog 54 #[.slice a len cap] w fun e w' => e = .returned (.int .i64 (getN zs : Nat)) ∧ Below w.heap.size w w' := by
  obtain ⟨hcl, hrd⟩ := hr
  simp only [u8s, List.length_map, Nat.mul_one] at hcl
  have HCL := Lib.hid hcl
  have HRD := Lib.hid hrd
  have HZ := Lib.hid hz
  clear hcl hrd hz
  go_enter Try.func54, Try.ntmps54
  go_wp2_with fail
  go_loopw [3, 8] (fun c i wr => ∃ k : Nat, k ≤ len ∧ i = .int .i64 k ∧ c = .int .i64 (getN (zs.take k) : Nat) ∧ wr = w) (fun _ i _ => len - (intOf i).toNat)
  case atStart => exact ⟨0, Nat.zero_le _, rfl, by simp [getN], rfl⟩
  case round =>
    obtain ⟨k, hk, rfl, rfl, rfl⟩ := hrel
    by_cases hlt : k < len
    · rcases HRD.out with h0 | ⟨ab, ao, rfl, hab, hac⟩
      · omega
      have hln := HCL.out
      have hcell : wr.cell? ⟨ab, ao + k, none⟩ = some (.int .u8 (zs.getD k 0)) := by
        rw [hac k (by simp; omega), u8s_at _ _ (by omega)]
      have hby := getD_b8 HZ.out k
      have hcl : getN (zs.take k) < 281474976710656 := Nat.lt_of_lt_of_le (getN_lt k HZ.out (by omega)) (Nat.le_trans (Nat.pow_le_pow_right (by omega) (show k ≤ 6 by omega)) (by decide))
      have hst := getN_take (zs := zs) (k := k) (by omega)
      generalize zs.getD k 0 = z at hcell hby hst
      generalize getN (zs.take k) = c at hcl hst
      obtain ⟨b, rfl⟩ := Int.eq_ofNat_of_zero_le hby.1
      have hb8 : b < 256 := by omega
      have hlt' : (k : Int) < (len : Int) := by omega
      have HST := Lib.hid hst
      have x8 := i64_or_nat c b (by omega) hb8
      clear hac hln hby hst
      go_wp2
      go_roundw
      case rel => exact ⟨k + 1, by omega, by go_num, by rw [HST.out, Int.toNat_natCast]; first | rfl | go_num, by trivial⟩
      case measure => simp [intOf]; omega
    · obtain rfl : k = len := by omega
      have hln := HCL.out
      rw [List.take_of_length_le (by omega)]
      clear hln
      go_wp2
      go_ret
      exact ⟨rfl, Below.refl _ _⟩
end Go.Proofs.Ytpjbacpchmemeaa.OctB
