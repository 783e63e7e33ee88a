/-
  What the sums of package crc are, of any bytes.
-/
import Derived.Test.YtnlppgdkimaddaaCrcA
namespace Go.Proofs.Ytnlppgdkimaddaa.CrcB
open Go.RowKit Rd Go.Proofs.Ytnlppgdkimaddaa.Row CrcA
set_option linter.unusedVariables false
set_option linter.unusedSimpArgs false
set_option maxRecDepth 10000
attribute [local go_sem ↓] load_tbl store_tbl alloc_tbl
attribute [local go_sem] run_alloc_tbl run_load_tbl run_store_tbl rowLoad_eq rowStore_eq blk_alloc_at blk_alloc_old blk_drew blk_drewN blk_set_far blk_set_far' blk_grow setRow_alloc_at setRow_alloc_old setRow_drew setRow_drewN all_map one_int

abbrev u8s (zs : List Int) : List Value := zs.map (Value.int .u8)
abbrev B8s (zs : List Int) : Prop := ∀ z ∈ zs, 0 ≤ z ∧ z ≤ 255
def stepN (c b : Nat) : Nat := (c / 256) ^^^ byteN ((c % 256) ^^^ b)
def onF (c : Nat) (zs : List Int) : Nat := zs.foldl (fun c z => stepN c z.toNat) c
def onV (s : Nat) (zs : List Int) : Nat := 4294967295 - onF (4294967295 - s) zs
theorem xor8 {a b : Nat} (ha : a < 256) (hb : b < 256) : a ^^^ b < 256 := Nat.xor_lt_two_pow (n := 8) ha hb
theorem xor32 {a b : Nat} (ha : a < 4294967296) (hb : b < 4294967296) : a ^^^ b < 4294967296 := Nat.xor_lt_two_pow (n := 32) ha hb
theorem byteN_lt {x : Nat} (h : x < 4294967296) : byteN x < 4294967296 := iterB_lt h 8
theorem stepN_lt {c b : Nat} (hc : c < 4294967296) (hb : b < 256) : stepN c b < 4294967296 := xor32 (by omega) (byteN_lt (by have := xor8 (Nat.mod_lt c (by omega : 0 < 256)) hb; omega))
theorem onF_lt : ∀ (zs : List Int) (c : Nat), B8s zs → c < 4294967296 → onF c zs < 4294967296
  | [], c, _, h => h
  | z :: zs, c, hz, h => onF_lt zs _ (fun x hx => hz x (by simp [hx])) (stepN_lt h (by have := hz z (by simp); omega))
theorem onF_take {zs : List Int} {k : Nat} (c : Nat) (h : k < zs.length) : onF c (zs.take (k + 1)) = stepN (onF c (zs.take k)) (zs.getD k 0).toNat := by
  rw [List.take_add_one, List.getElem?_eq_getElem h]
  unfold onF
  rw [List.foldl_append]
  simp [List.getD, h]
theorem u8s_at (zs : List Int) (j : Nat) (h : j < zs.length) : (u8s zs)[j]? = some (.int .u8 (zs.getD j 0)) := by simp [u8s, List.getD, h]
theorem getD_b8 {zs : List Int} (hz : B8s zs) (j : Nat) : 0 ≤ zs.getD j 0 ∧ zs.getD j 0 ≤ 255 := by
  by_cases h : j < zs.length
  · have := hz zs[j] (List.getElem_mem _)
    simpa [List.getD, h] using this
  · simp [List.getD, h]

theorem xor_ones (s : Nat) (h : s < 4294967296) : 4294967295 ^^^ s = 4294967295 - s := by
  have e1 : (BitVec.allOnes 32 ^^^ BitVec.ofNat 32 s).toNat = (~~~ BitVec.ofNat 32 s).toNat := by rw [BitVec.allOnes_xor]
  rw [BitVec.toNat_xor, BitVec.toNat_not, BitVec.toNat_allOnes, BitVec.toNat_ofNat, Nat.mod_eq_of_lt (by omega)] at e1
  exact e1
theorem not_u32 (s : Nat) (h : s < 4294967296) : bits .xor .u32 IntKind.u32.max (s : Int) = ((4294967295 - s : Nat) : Int) := by
  have := u32_xor_nat 4294967295 s (by omega) h
  rw [xor_ones s h] at this
  exact this

set_option maxHeartbeats 1000000 in
theorem on_any (s : Nat) (a : Option Addr) (len cap : Nat) (zs : List Int) (w : World) (hs : s < 4294967296) (hr : Reads w 1 a len (u8s zs)) (hz : B8s zs) (hlen : len ≤ 1000000) :
    Calls Try.prog 12 #[.agg (cs .u32 tblL), .int .u32 s, .slice a len cap] w fun e w' => e = .returned (.int .u32 (onV s zs : Nat)) ∧ Below w.heap.size w w' := by
  obtain ⟨hcl, hrd⟩ := hr
  simp only [u8s, List.length_map, Nat.mul_one] at hcl
  have HCL := Lib.hid hcl
  have HRD := Lib.hid hrd
  have HZ := Lib.hid hz
  clear hcl hrd hz
  have hn := not_u32 s hs
  go_enter Try.func12, Try.ntmps12
  go_wp2_with fail
  clear hn
  go_loopw [1, 13] (fun c i wr => ∃ k : Nat, k ≤ len ∧ i = .int .i64 k ∧ c = .int .u32 (onF (4294967295 - s) (zs.take k) : Nat) ∧ Below w.heap.size w wr ∧ Hid (blk wr w.heap.size = some (.cells (cs .u32 tblL) 26 (0, 0)))) (fun _ i _ => len - (intOf i).toNat)
  case atStart => exact ⟨0, Nat.zero_le _, rfl, by simp [onF], by repeat' (first | (with_reducible exact Below.refl _ _) | (with_reducible refine Rd.below_step ?_ (by assumption)) | (with_reducible refine Rd.below_alloc ?_ _) | (with_reducible refine Rd.below_drewN ?_ _) | (with_reducible refine Below.drew ?_) | (with_reducible refine Below.setCell ?_ ?_ _) | (with_reducible refine Rd.below_setRow ?_ ?_ _) | go_size | (simp only [World.size_alloc]; omega) | omega), blk_alloc_at _ _ _ rfl⟩
  case round =>
    obtain ⟨k, hk, rfl, rfl, hb, HT⟩ := hrel
    by_cases hlt : k < len
    · rcases HRD.out with h0 | ⟨ab, ao, rfl, hab, hac⟩
      · omega
      have hln := HCL.out
      have hcell : wr.cell? ⟨ab, ao + k, none⟩ = some (.int .u8 (zs.getD k 0)) := by
        rw [hb.cell (p := ⟨ab, ao + k, none⟩) hab, hac k (by simp; omega), u8s_at _ _ (by omega)]
      have hby := getD_b8 HZ.out k
      have hcl := onF_lt (zs.take k) (4294967295 - s) (fun z hz => HZ.out z (List.mem_of_mem_take hz)) (by omega)
      have hst := onF_take (4294967295 - s) (zs := zs) (k := k) (by omega)
      generalize zs.getD k 0 = z at hcell hby hst
      generalize onF (4294967295 - s) (zs.take k) = c at hcl hst
      obtain ⟨b, rfl⟩ := Int.eq_ofNat_of_zero_le hby.1
      have hb8 : b < 256 := by omega
      have hlt' : (k : Int) < (len : Int) := by omega
      have HST := Lib.hid hst
      have x8 : bits .xor .u8 ((c : Int) % 256) (b : Int) = ((c % 256 ^^^ b : Nat) : Int) := u8_xor_nat (c % 256) b (by omega) hb8
      have hJ := xor8 (Nat.mod_lt c (by omega : 0 < 256)) hb8
      have ct : wr.cell? ⟨w.heap.size, c % 256 ^^^ b, none⟩ = some (.int .u32 (tblF (c % 256 ^^^ b))) := by rw [blk_cell HT.out]; exact cs_at (tblL_at _ hJ)
      have ht := byteN_lt (show c % 256 ^^^ b < 4294967296 by omega)
      have HE := Lib.hid (show stepN c b = (c / 256) ^^^ byteN (c % 256 ^^^ b) from rfl)
      unfold tblF at ct
      generalize c % 256 ^^^ b = J at x8 hJ ct ht HE
      generalize byteN J = t at ct ht HE
      have x32 : bits .xor .u32 ((c : Int) / 256) (t : Int) = ((c / 256 ^^^ t : Nat) : Int) := u32_xor_nat (c / 256) t (by omega) ht
      have hJ' : (J : Int) < 256 := by omega
      clear hac hln hby hst
      go_wp2
      go_roundw
      case rel => exact ⟨k + 1, by omega, by go_num, by rw [HST.out, Int.toNat_natCast, HE.out], hb, HT⟩
      case measure => simp [intOf]; omega
    · obtain rfl : k = len := by omega
      have hln := HCL.out
      have hcl := onF_lt zs (4294967295 - s) HZ.out (by omega)
      rw [List.take_of_length_le (by omega)]
      have hn := not_u32 _ hcl
      have HV := Lib.hid (show onV s zs = 4294967295 - onF (4294967295 - s) zs from rfl)
      generalize onF (4294967295 - s) zs = c at hcl hn HV
      clear hln
      go_wp2
      go_ret
      exact ⟨by rw [HV.out]; rfl, hb⟩
end Go.Proofs.Ytnlppgdkimaddaa.CrcB
