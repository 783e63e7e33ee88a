/-
  The document's town: numbers by their places, exactly.
-/
import Derived.Test.YtkklppjimnkibaaInts
import Derived.Test.YtkklppjimnkibaaAlike
import Derived.Test.YtkklppjimnkibaaEq
import Derived.Test.YtkklppjimnkibaaRow
import Derived.Test.YtkklppjimnkibaaNum
import Derived.Test.YtkklppjimnkibaaReg
import Derived.BigQuiet
namespace Go.Proofs.Ytkklppjimnkibaa.TwA
open Go.RowKit Rd Go.Proofs.Ytkklppjimnkibaa.Row
open Ints (i64s In64)
set_option linter.unusedVariables false
set_option linter.unusedSimpArgs false
set_option maxRecDepth 10000
/-- the i-th of some numbers -/
def atX (zs : List Int) (i : Nat) (n : Int) : Int := if zs.length = 0 then 0 else wrap64 (zs.getD (i % zs.length) 0 + ((i / zs.length : Nat) : Int)) % n
theorem atX_bd (zs : List Int) (i : Nat) {n : Int} (hn : 1 ≤ n) : 0 ≤ atX zs i n ∧ atX zs i n < n := by
  unfold atX
  split
  · omega
  · exact ⟨Int.emod_nonneg _ (by omega), Int.emod_lt_of_pos _ (by omega)⟩
theorem tmod_w (k n : Int) (hn : 1 ≤ n ∧ n ≤ 1099511627776) : (k.tmod n + n) % n = k % n := by
  have t1 := Int.tmod_lt_of_pos k (b := n) (by omega)
  have t2 : -n < k.tmod n := by
    have := Int.tmod_lt_of_pos (-k) (b := n) (by omega)
    rw [Int.neg_tmod] at this; omega
  rw [Int.add_emod_right]
  have : k.tmod n % n = k % n := by
    have h := Int.tmod_add_mul_tdiv k n
    conv => rhs; rw [← h]
    rw [Int.add_mul_emod_self_left]
  exact this
theorem round_x (k n : Int) (w : World) (h1 : -9223372036854775808 ≤ k) (h2 : k ≤ 9223372036854775807) (hn : 1 ≤ n) (hn2 : n ≤ 1099511627776) :
    Calls Try.prog 50 #[.int .i64 k, .int .i64 n] w fun e w' => e = .returned (.int .i64 (k % n)) ∧ w = w' := by
  have t1 := Int.tmod_lt_of_pos k (b := n) (by omega)
  have t2 : -n < k.tmod n := by
    have := Int.tmod_lt_of_pos (-k) (b := n) (by omega)
    rw [Int.neg_tmod] at this; omega
  have E := Lib.hid (tmod_w k n ⟨hn, hn2⟩)
  go_enter Try.func50, Try.ntmps50
  go_wp2
  go_ret
  exact ⟨Alk.ret_int E.out, rfl⟩
theorem wrap_bd (x : Int) : -9223372036854775808 ≤ wrap64 x ∧ wrap64 x ≤ 9223372036854775807 := by go_arith
set_option maxHeartbeats 8000000 in
theorem at_x (a : Option Addr) (len cap i : Nat) (n : Int) (zs : List Int) (w : World) (hr : Reads w 1 a len (i64s zs)) (hz : ∀ z ∈ zs, In64 z) (hl : len ≤ 1000000) (hi : i ≤ 1000000) (hn : 1 ≤ n) (hn2 : n ≤ 1099511627776) :
    Calls Try.prog 51 #[.slice a len cap, .int .i64 i, .int .i64 n] w fun e w' => e = .returned (.int .i64 (atX zs i n)) ∧ Below w.heap.size w w' := by
  have hzl : zs.length = len := by have := hr.1; simpa [i64s] using this
  by_cases h0 : len = 0
  · have E := Lib.hid (show atX zs i n = 0 by unfold atX; rw [if_pos (by omega)])
    subst h0
    clear hr hzl
    go_enter Try.func51, Try.ntmps51
    go_wp2
    go_ret
    exact ⟨by rw [E.out]; rfl, by repeat' (first | (with_reducible exact Below.refl _ _) | (with_reducible refine Rd.below_step ?_ (by assumption)) | (with_reducible refine Rd.below_alloc ?_ _) | (with_reducible refine Rd.below_drewN ?_ _) | (with_reducible refine Below.drew ?_) | (with_reducible refine Below.setCell ?_ ?_ _) | (with_reducible refine Rd.below_setRow ?_ ?_ _) | go_size | (simp only [World.size_alloc]; omega) | omega)⟩
  · have E0 : atX zs i n = wrap64 (zs.getD (i % len) 0 + ((i / len : Nat) : Int)) % n := by unfold atX; rw [if_neg (by omega), hzl]
    obtain ⟨res, er⟩ : ∃ r, atX zs i n = r := ⟨_, rfl⟩
    rw [er] at E0 ⊢
    obtain ⟨k, hk⟩ : ∃ k, k = i % len := ⟨_, rfl⟩
    have hkl : k < len := by rw [hk]; exact Nat.mod_lt _ (by omega)
    obtain ⟨ab, ao, rfl, hab, hcl⟩ := Ints.cell_of hr (k := k) (by omega) h0
    have hc := hcl k (by omega)
    obtain ⟨z, hz0⟩ : ∃ z, z = zs.getD k 0 := ⟨_, rfl⟩
    have hzb : In64 z := by rw [hz0]; exact Ints.getD_in hz k
    obtain ⟨hzb1, hzb2⟩ := hzb
    rw [← hz0] at hc
    obtain ⟨q, hq⟩ : ∃ q, q = i / len := ⟨_, rfl⟩
    rw [← hk, ← hz0, ← hq] at E0
    have E := Lib.hid E0
    have e3 : ((i : Int)) % (len : Int) = (k : Int) := by rw [hk]; simp
    have e4 : ((i : Int)) / (len : Int) = (q : Int) := by rw [hq]; simp
    have hq2 : q ≤ 1000000 := by rw [hq]; exact Nat.le_trans (Nat.div_le_self _ _) hi
    have h0' : ¬ (len : Int) = 0 := by omega
    have hp : (0 : Int) < (len : Int) := by omega
    have hkl' : (k : Int) < (len : Int) := by omega
    have g1 := Go.cell_regrown hc
    have hwb := wrap_bd (z + (q : Int))
    have CR := Lib.hid (fun X => round_x (wrap64 (z + (q : Int))) n X hwb.1 hwb.2 hn hn2)
    rw [← E0] at CR
    clear hk hq hz0 hcl hzl h0 hr er E0 E
    go_enter Try.func51, Try.ntmps51
    go_wp2_with fail
    (refine wp_region_quiet_below (by kernel_rfl) (by kernel_rfl) ?_; (repeat (go_big_quiet_step ((first | (with_reducible exact Calls.regrown_of ((CR.out _).mono fun e w' h => ⟨h.1, h.2 ▸ Below.refl _ _⟩)))))); refine wpQuiet_nil ?_)
    intro w3 hU
    have KU := Rd.below_of_regrown hU
    go_wp2
    go_ret
    exact ⟨rfl, by repeat' (first | (with_reducible exact Below.refl _ _) | (with_reducible refine Rd.below_step ?_ (by assumption)) | (with_reducible refine Rd.below_alloc ?_ _) | (with_reducible refine Rd.below_drewN ?_ _) | (with_reducible refine Below.drew ?_) | (with_reducible refine Below.setCell ?_ ?_ _) | (with_reducible refine Rd.below_setRow ?_ ?_ _) | go_size | (simp only [World.size_alloc]; omega) | omega)⟩
end Go.Proofs.Ytkklppjimnkibaa.TwA
