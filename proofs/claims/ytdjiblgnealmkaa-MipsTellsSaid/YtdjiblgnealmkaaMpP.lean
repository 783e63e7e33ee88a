/-
  wainscotref17: Round, at, Shade.
-/
import Derived.Test.YtdjiblgnealmkaaMpG
import Derived.Test.YtdjiblgnealmkaaInts
namespace Go.Proofs.Ytdjiblgnealmkaa.MpP
open Go.RowKit Rd Go.Proofs.Ytdjiblgnealmkaa.Row Mid DkM HueA MpM MpA MpB MpC MpD MpE MpF MpG
open Ints (i64s In64)
set_option linter.unusedVariables false
set_option linter.unusedSimpArgs false
set_option maxRecDepth 10000
theorem round17 (k n : Int) (w : World) (h1 : -9223372036854775808 ≤ k) (h2 : k ≤ 9223372036854775807) (hn : 1 ≤ n) (hn2 : n ≤ 1099511627776) :
    Calls Try.prog 25 #[.int .i64 k, .int .i64 n] w fun e w' => e = .returned (.int .i64 (k % n)) ∧ w = w' := by
  have t1 := Int.tmod_lt_of_pos k (b := n) (by omega)
  have t2 : -n < k.tmod n := by
    have := Int.tmod_lt_of_pos (-k) (b := n) (by omega)
    rw [Int.neg_tmod] at this; omega
  have E := Lib.hid (tmod_wrap k n (by omega))
  go_enter Try.func25, Try.ntmps25
  go_wp2
  go_ret
  exact ⟨Alk.ret_int E.out, rfl⟩
theorem wrap_bd (x : Int) : -9223372036854775808 ≤ wrap64 x ∧ wrap64 x ≤ 9223372036854775807 := by go_arith
set_option maxHeartbeats 8000000 in
theorem at17 (a : Option Addr) (len cap i : Nat) (n : Int) (zs : List Int) (w : World) (hr : Reads w 1 a len (i64s zs)) (hz : ∀ z ∈ zs, In64 z) (hl : len ≤ 1000000) (hi : i ≤ 1000000) (hn : 1 ≤ n) (hn2 : n ≤ 1099511627776) :
    Calls Try.prog 39 #[.slice a len cap, .int .i64 i, .int .i64 n] w fun e w' => (∃ r, e = .returned (.int .i64 r) ∧ 0 ≤ r ∧ r < n) ∧ Below w.heap.size w w' := by
  by_cases h0 : len = 0
  · subst h0
    clear hr
    go_enter Try.func39, Try.ntmps39
    go_wp2
    go_ret
    exact ⟨⟨0, rfl, by omega, by omega⟩, by repeat' (first | (with_reducible exact Below.refl _ _) | (with_reducible refine Rd.below_step ?_ (by assumption)) | (with_reducible refine Rd.below_alloc ?_ _) | (with_reducible refine Rd.below_drewN ?_ _) | (with_reducible refine Below.drew ?_) | (with_reducible refine Below.setCell ?_ ?_ _) | (with_reducible refine Rd.below_setRow ?_ ?_ _) | go_size | (simp only [World.size_alloc]; omega) | omega)⟩
  · have hzl : zs.length = len := by have := hr.1; simpa [i64s] using this
    obtain ⟨k, hk⟩ : ∃ k, k = i % len := ⟨_, rfl⟩
    have hkl : k < len := by rw [hk]; exact Nat.mod_lt _ (by omega)
    obtain ⟨ab, ao, rfl, hab, hcl⟩ := Ints.cell_of hr (k := k) (by omega) h0
    have hc := hcl k (by omega)
    obtain ⟨z, hz0⟩ : ∃ z, z = zs.getD k 0 := ⟨_, rfl⟩
    have hzb : In64 z := by rw [hz0]; exact Ints.getD_in hz k
    obtain ⟨hzb1, hzb2⟩ := hzb
    rw [← hz0] at hc
    obtain ⟨q, hq⟩ : ∃ q, q = i / len := ⟨_, rfl⟩
    have e3 : ((i : Int)) % (len : Int) = (k : Int) := by rw [hk]; simp
    have e4 : ((i : Int)) / (len : Int) = (q : Int) := by rw [hq]; simp
    have hq2 : q ≤ 1000000 := by rw [hq]; exact Nat.le_trans (Nat.div_le_self _ _) hi
    have h0' : ¬ (len : Int) = 0 := by omega
    have hp : (0 : Int) < (len : Int) := by omega
    have hkl' : (k : Int) < (len : Int) := by omega
    have g1 := Go.cell_regrown hc
    have hwb := wrap_bd (z + (q : Int))
    clear hk hq hz0 hcl hzl h0 hr
    go_enter Try.func39, Try.ntmps39
    go_wp2_with fail
    (refine wp_region_quiet_below (by kernel_rfl) (by kernel_rfl) ?_; (repeat (go_big_quiet_step ((exact reg_of_eq (round17 _ n _ hwb.1 hwb.2 hn hn2))))); refine wpQuiet_nil ?_)
    intro w3 hU
    have KU := Rd.below_of_regrown hU
    go_wp2
    go_ret
    exact ⟨⟨_, rfl, Int.emod_nonneg _ (by omega), Int.emod_lt_of_pos _ (by omega)⟩, by repeat' (first | (with_reducible exact Below.refl _ _) | (with_reducible refine Rd.below_step ?_ (by assumption)) | (with_reducible refine Rd.below_alloc ?_ _) | (with_reducible refine Rd.below_drewN ?_ _) | (with_reducible refine Below.drew ?_) | (with_reducible refine Below.setCell ?_ ?_ _) | (with_reducible refine Rd.below_setRow ?_ ?_ _) | go_size | (simp only [World.size_alloc]; omega) | omega)⟩
attribute [local go_sem ↓] load_col store_col alloc_col
attribute [local go_sem] run_alloc_col run_store_col rowStore_eq blk_alloc_at blk_alloc_old blk_drew blk_drewN blk_grow setRow_alloc_at setRow_alloc_old setRow_drew setRow_drewN Px.c_size Px.c_all c_all4 one_int
theorem u8_bd (x : Int) : B8 (IntKind.u8.wrap x) := by
  have := IntKind.wrap_u8 x
  unfold B8
  omega
set_option maxHeartbeats 8000000 in
theorem shade (n : Int) (w : World) (h1 : -9223372036854775808 ≤ n) (h2 : n ≤ 9223372036854775807) :
    Calls Try.prog 40 #[.int .i64 n] w fun e w' => (∃ p : Px, e = .returned p.v ∧ p.B) ∧ Below w.heap.size w w' := by
  have C := Lib.hid fun X => round17 n 16777216 X h1 h2 (by omega) (by omega)
  have k1 := Int.emod_nonneg n (b := 16777216) (by omega)
  have k2 := Int.emod_lt_of_pos n (b := 16777216) (by omega)
  obtain ⟨k, hk⟩ : ∃ k : Nat, n % 16777216 = k := ⟨(n % 16777216).toNat, by omega⟩
  have hk1 : k < 16777216 := by omega
  rw [hk] at C
  obtain ⟨q, hq⟩ : ∃ q, k * k = q := ⟨_, rfl⟩
  have hq1 : (k : Int) * (k : Int) = (q : Int) := by exact_mod_cast hq
  have hq2 : q ≤ 16777216 * 16777216 := by rw [← hq]; exact Nat.mul_le_mul (by omega) (by omega)
  clear hk k1 k2 hq
  go_enter Try.func40, Try.ntmps40
  go_wp2_with fail
  refine (C.out _).mono ?_
  rintro e _ ⟨rfl, rfl⟩
  go_wp2_with fail
  exact ret_px rfl w.heap.size ⟨(k : Int) * 37 % 256, ((k : Int) * 11 + 5) % 256, (q : Int) % 256, 255 - (k : Int) % 3⟩ rfl (blk_alloc_at _ _ _ rfl) rfl ⟨⟨_, rfl, by unfold Px.B B8; simp only; omega⟩, by repeat' (first | (with_reducible exact Below.refl _ _) | (with_reducible refine Rd.below_step ?_ (by assumption)) | (with_reducible refine Rd.below_alloc ?_ _) | (with_reducible refine Rd.below_drewN ?_ _) | (with_reducible refine Below.drew ?_) | (with_reducible refine Below.setCell ?_ ?_ _) | (with_reducible refine Rd.below_setRow ?_ ?_ _) | go_size | (simp only [World.size_alloc]; omega) | omega)⟩
end Go.Proofs.Ytdjiblgnealmkaa.MpP
