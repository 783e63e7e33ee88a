/-
  What the document's own parts answer: numbers as bytes.
-/
import Derived.Test.YtpjbacpchmemeaaOctB
import Derived.Test.YtpjbacpchmemeaaPredC
namespace Go.Proofs.Ytpjbacpchmemeaa.RefA
open Go.RowKit Rd OctA OctB
set_option linter.unusedVariables false
set_option linter.unusedSimpArgs false
set_option maxRecDepth 10000
set_option maxHeartbeats 1000000 in
theorem big_any (k : Int) (s : Nat) (w : World) (hs : s ≤ 100) (hk : -9223372036854775808 ≤ k ∧ k ≤ 9223372036854775807) :
    Calls Try.prog 55 #[.int .i64 k, .int .i64 s] w fun e w' => ∃ v', e = .returned v' ∧ w'.ownsRow w.heap.size 5 1 v' s (u8s (byts k s)) ∧ Below w.heap.size w w' := by
  obtain ⟨i0, hi, hz0, hz1, hz2⟩ := info_parts info_u8
  go_enter Try.func55, Try.ntmps55
  go_wp2_with fail
  go_loopw [5, 6] (fun x i wr => ∃ j r : Nat, j + r = s ∧ i = .int .i64 ((r : Int) - 1) ∧ wr.ownsRow w.heap.size 5 1 x j (u8s (bytf k s j)) ∧ Below w.heap.size w wr) (fun _ i _ => (1 + intOf i).toNat)
  case atStart => exact ⟨0, s, by omega, by rfl, World.ownsRow_nil _ _ _ _, Below.refl _ _⟩
  case round =>
    obtain ⟨j, r, hj, hi7, hown, hb⟩ := hrel
    cases r with
    | succ i =>
      rw [show ((i + 1 : Nat) : Int) - 1 = (i : Int) by omega] at hi7
      subst hi7
      have hge : (0 : Int) ≤ (i : Int) := by omega
      have hsh := shr_bytes k i hk
      have sb := hb.size
      have hby := byt_bd k i
      have HN := Lib.hid (hown.alloc (.cells #[.int .u8 (byt k i)] 5))
      clear hown
      go_wp2_with (at_builtin; refine wpList_append_either _ rfl (.tmp 13) (.tmp 19) 23 rfl w.heap.size 5 i0 (.int .u8 0) 1 1 Try.underlying23 hi hz0 hz1 hz2 rfl (by decide) _ _ _ rfl (.inl HN.out) ⟨wr.heap.size, 0, none⟩ 1 1 [.int .u8 (byt k i)] rfl rfl (by decide) (news_of _ _ _) (by simp [Value.oneCell']) (by unfold maxLen; omega) (by omega) (by simp; omega) ?_; intro v3 w3 hown3 hb3)
      go_roundw
      case rel => exact ⟨j + 1, i, by omega, by rfl, by rw [bytf_succ, show s - 1 - j = i by omega]; simpa [Nat.add_assoc] using hown3, hb.trans ((((Below.refl w.heap.size wr).alloc (by omega) _)).trans hb3)⟩
      case measure => simp [intOf]; omega
    | zero =>
      subst hi7
      obtain rfl : j = s := by omega
      have hge : ¬ (0 : Int) ≤ ((0 : Nat) : Int) - 1 := by omega
      go_wp2
      go_ret
      rw [bytf_all] at hown
      exact ⟨_, rfl, by simpa using hown, hb⟩
set_option maxHeartbeats 1000000 in
theorem num_any (a : Option Addr) (len cap : Nat) (zs : List Int) (w : World) (hr : Reads w 1 a len (u8s zs)) (hz : B8s zs) (hlen : len ≤ 7) :
    Calls Try.prog 38 #[.slice a len cap] w fun e w' => e = .returned (.int .i64 (getN zs : Nat)) ∧ Below w.heap.size w w' := by
  obtain ⟨hcl, hrd⟩ := hr
  simp only [u8s, List.length_map, Nat.mul_one] at hcl
  have HCL := Lib.hid hcl
  have HRD := Lib.hid hrd
  have HZ := Lib.hid hz
  clear hcl hrd hz
  go_enter Try.func38, Try.ntmps38
  go_wp2_with fail
  go_loopw [3, 4] (fun c i wr => ∃ k : Nat, k ≤ len ∧ i = .int .i64 k ∧ c = .int .i64 (getN (zs.take k) : Nat) ∧ Below w.heap.size w wr) (fun _ i _ => len - (intOf i).toNat)
  case atStart => exact ⟨0, Nat.zero_le _, rfl, by simp [getN], Below.refl _ _⟩
  case round =>
    obtain ⟨k, hk, rfl, rfl, hb⟩ := hrel
    by_cases hlt : k < len
    · rcases HRD.out with h0 | ⟨ab, ao, rfl, hab, hac⟩
      · omega
      have hln := HCL.out
      have hcell : wr.cell? ⟨ab, ao + k, none⟩ = some (.int .u8 (zs.getD k 0)) := by
        rw [hb.cell (p := ⟨ab, ao + k, none⟩) hab, hac k (by simp; omega), u8s_at _ _ (by omega)]
      have hby := getD_b8 HZ.out k
      have hcl : getN (zs.take k) < 281474976710656 := Nat.lt_of_lt_of_le (getN_lt k HZ.out (by omega)) (Nat.le_trans (Nat.pow_le_pow_right (by omega) (show k ≤ 6 by omega)) (by decide))
      have hst := getN_take (zs := zs) (k := k) (by omega)
      generalize zs.getD k 0 = z at hcell hby hst
      generalize getN (zs.take k) = c at hcl hst
      obtain ⟨b, rfl⟩ := Int.eq_ofNat_of_zero_le hby.1
      have hb8 : b < 256 := by omega
      have hlt' : (k : Int) < (len : Int) := by omega
      have HST := Lib.hid hst
      have x8 := i64_or_nat c b (by omega) hb8
      clear hac hln hby hst
      go_wp2
      go_roundw
      case rel => exact ⟨k + 1, by omega, by go_num, by rw [HST.out, Int.toNat_natCast]; first | rfl | go_num, by repeat' (first | (with_reducible exact Below.refl _ _) | (with_reducible refine Rd.below_step ?_ (by assumption)) | (with_reducible refine Rd.below_alloc ?_ _) | (with_reducible refine Rd.below_drewN ?_ _) | (with_reducible refine Below.drew ?_) | (with_reducible refine Below.setCell ?_ ?_ _) | (with_reducible refine Rd.below_setRow ?_ ?_ _) | go_size | (simp only [World.size_alloc]; omega) | omega)⟩
      case measure => simp [intOf]; omega
    · obtain rfl : k = len := by omega
      have hln := HCL.out
      rw [List.take_of_length_le (by omega)]
      clear hln
      go_wp2
      go_ret
      exact ⟨rfl, hb⟩
theorem news_own {w : World} {g n : Nat} {xs : List Value} (hl : xs.length = n * 1) (hc : ∀ i, i < n * 1 → w.cell? ⟨g, i, none⟩ = xs[i]?) : ∀ j u, xs[j]? = some u → w.cell? ((⟨g, 0, none⟩ : Addr).add j) = some u := by
  intro j u hj
  have hlt : j < xs.length := by
    rcases Nat.lt_or_ge j xs.length with h | h
    · exact h
    · rw [List.getElem?_eq_none h] at hj; cases hj
  rw [Addr.add_lit, Nat.zero_add, hc j (by omega)]
  exact hj
theorem rb_own {w w' : World} {e : TypeId} {n : Nat} {v : Value} {k : Int} {G : Option Nat} (h : w'.ownsRow w.heap.size e 1 v n (u8s (byts k n))) (hn : 0 < n) (hG : ∀ g, G = some g → g < w.heap.size) : PredC.Rb (byts k n) e v w' G := by
  rcases h.2 with ⟨rfl, h0⟩ | ⟨g, cap, cur, rfl, hb, hg, h1, h2, h3, h4⟩
  · omega
  · refine ⟨g, cap, cur, _, by rw [byts_len], fun e2 => ?_, hg, ?_⟩
    · have := hG g e2.symm; omega
    · rw [byts_len]; rw [Nat.mul_one] at h4; exact h4
def wN (n a m : Int) : Bool := decide (a ≤ n) && decide (n ≤ m)
theorem within_any (n a m : Int) (w : World) : Calls Try.prog 33 #[.int .i64 n, .int .i64 a, .int .i64 m] w fun e w' => e = .returned (.bool (wN n a m)) ∧ w = w' := by
  by_cases h0 : a ≤ n
  · by_cases h1 : n ≤ m
    · have hw : wN n a m = true := by simp [wN, h0, h1]
      go_enter Try.func33, Try.ntmps33
      go_wp2
      go_ret
      exact ⟨by simp [hw], by trivial⟩
    · have hw : wN n a m = false := by simp [wN, h0, h1]
      go_enter Try.func33, Try.ntmps33
      go_wp2
      go_ret
      exact ⟨by simp [hw], by trivial⟩
  · have hw : wN n a m = false := by simp [wN, h0]
    go_enter Try.func33, Try.ntmps33
    go_wp2
    go_ret
    exact ⟨by simp [hw], by trivial⟩
end Go.Proofs.Ytpjbacpchmemeaa.RefA
