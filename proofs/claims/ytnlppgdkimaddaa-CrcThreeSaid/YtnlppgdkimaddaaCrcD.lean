/-
  The other sums: from nought, and the document's own, bit by bit.
-/
import Derived.Test.YtnlppgdkimaddaaCrcC
namespace Go.Proofs.Ytnlppgdkimaddaa.CrcD
open Go.RowKit Rd Go.Proofs.Ytnlppgdkimaddaa.Row CrcA CrcB CrcC
set_option linter.unusedVariables false
set_option linter.unusedSimpArgs false
set_option maxRecDepth 10000
attribute [local go_sem ↓] load_tbl store_tbl alloc_tbl
attribute [local go_sem] run_alloc_tbl run_load_tbl run_store_tbl rowLoad_eq rowStore_eq blk_alloc_at blk_alloc_old blk_drew blk_drewN blk_set_far blk_set_far' blk_grow setRow_alloc_at setRow_alloc_old setRow_drew setRow_drewN all_map one_int

theorem of_any (a : Option Addr) (len cap : Nat) (zs : List Int) (w : World) (hr : Reads w 1 a len (u8s zs)) (hz : B8s zs) (hlen : len ≤ 1000000) :
    Calls Try.prog 10 #[.agg (cs .u32 tblL), .slice a len cap] w fun e w' => e = .returned (.int .u32 (onV 0 zs : Nat)) ∧ Below w.heap.size w w' := by
  have HR := Lib.hid hr
  have HZ := Lib.hid hz
  have hl := tblL_len
  clear hr hz
  go_enter Try.func10, Try.ntmps10
  go_wp2_with fail
  refine (on_any 0 a len cap zs _ (by omega) (HR.out.below ((Below.refl _ _).alloc (Nat.le_refl _) _) (Nat.le_refl _)) HZ.out hlen).mono ?_
  rintro e w1 ⟨rfl, hb⟩
  go_wp2_with fail
  go_ret
  exact ⟨rfl, by repeat' (first | (with_reducible exact Below.refl _ _) | (with_reducible refine Rd.below_step ?_ (by assumption)) | (with_reducible refine Rd.below_alloc ?_ _) | (with_reducible refine Rd.below_drewN ?_ _) | (with_reducible refine Below.drew ?_) | (with_reducible refine Below.setCell ?_ ?_ _) | (with_reducible refine Rd.below_setRow ?_ ?_ _) | go_size | (simp only [World.size_alloc]; omega) | omega)⟩

set_option maxHeartbeats 1000000 in
theorem rcrcOn_any (s : Nat) (a : Option Addr) (len cap : Nat) (zs : List Int) (w : World) (hs : s < 4294967296) (hr : Reads w 1 a len (u8s zs)) (hz : B8s zs) (hlen : len ≤ 1000000) :
    Calls Try.prog 13 #[.int .u32 s, .slice a len cap] w fun e w' => e = .returned (.int .u32 (onV s zs : Nat)) ∧ Below w.heap.size w w' := by
  obtain ⟨hcl, hrd⟩ := hr
  simp only [u8s, List.length_map, Nat.mul_one] at hcl
  have HCL := Lib.hid hcl
  have HRD := Lib.hid hrd
  have HZ := Lib.hid hz
  clear hcl hrd hz
  have hn := not_u32 s hs
  go_enter Try.func13, Try.ntmps13
  go_wp2_with fail
  clear hn
  go_loop [5, 6] (fun c i => ∃ k : Nat, k ≤ len ∧ i = .int .i64 k ∧ c = .int .u32 (onF (4294967295 - s) (zs.take k) : Nat)) (fun _ i => len - (intOf i).toNat)
  case atStart => exact ⟨0, Nat.zero_le _, rfl, by simp [onF]⟩
  case round =>
    obtain ⟨k, hk, rfl, rfl⟩ := hrel
    by_cases hlt : k < len
    · rcases HRD.out with h0 | ⟨ab, ao, rfl, hab, hac⟩
      · omega
      have hln := HCL.out
      have hcell : w.cell? ⟨ab, ao + k, none⟩ = some (.int .u8 (zs.getD k 0)) := by
        rw [hac k (by simp; omega), u8s_at _ _ (by omega)]
      have hby := getD_b8 HZ.out k
      have hcl := onF_lt (zs.take k) (4294967295 - s) (fun z hz => HZ.out z (List.mem_of_mem_take hz)) (by omega)
      have hst := onF_take (4294967295 - s) (zs := zs) (k := k) (by omega)
      generalize zs.getD k 0 = z at hcell hby hst
      generalize onF (4294967295 - s) (zs.take k) = c at hcl hst
      obtain ⟨b, rfl⟩ := Int.eq_ofNat_of_zero_le hby.1
      have hb8 : b < 256 := by omega
      have hlt' : (k : Int) < (len : Int) := by omega
      have HST := Lib.hid hst
      have x32 : bits .xor .u32 (c : Int) (b : Int) = ((c ^^^ b : Nat) : Int) := u32_xor_nat c b hcl (by omega)
      have hx := xor32 hcl (show b < 4294967296 by omega)
      have HE := Lib.hid (step_eq c b)
      generalize hy : c ^^^ b = x at x32 hx HE
      clear hac hln hby hst hy
      go_wp2
      go_loop [5, 7] (fun s i => ∃ j : Nat, j ≤ 8 ∧ i = .int .i64 j ∧ s = .int .u32 (iterB j x : Nat)) (fun _ i => 8 - (intOf i).toNat)
      case atStart => exact ⟨0, by omega, rfl, rfl⟩
      case round =>
        obtain ⟨j, hj, rfl, rfl⟩ := hrel
        have hy := iterB_lt hx j
        by_cases hlj : j < 8
        · have hlj' : (j : Int) < 8 := by omega
          have hs2 : iterB (j + 1) x = bstep (iterB j x) := rfl
          generalize iterB j x = y at hy hs2
          have HS := Lib.hid hs2
          clear hs2
          have hl := low_bit y hy
          have hh := xor_half y hy
          by_cases ho : y % 2 = 1
          · rw [ho] at hl
            have HB := Lib.hid (show bstep y = y / 2 ^^^ 3988292384 by unfold bstep; rw [if_pos ho])
            have hl' : (bits .and .u32 (y : Int) 1 == 1) = true := by rw [hl]; rfl
            clear hl ho
            go_wp2
            exact ⟨⟨j + 1, by omega, by go_num, by rw [HS.out, HB.out]; try rw [hh]⟩, by simp [intOf]; omega⟩
          · have ho' : y % 2 = 0 := by omega
            rw [ho'] at hl
            have HB := Lib.hid (show bstep y = y / 2 by unfold bstep; rw [if_neg ho])
            have hl' : (bits .and .u32 (y : Int) 1 == 1) = false := by rw [hl]; rfl
            clear hl ho ho'
            go_wp2
            exact ⟨⟨j + 1, by omega, by go_num, by rw [HS.out, HB.out]; try go_num⟩, by simp [intOf]; omega⟩
        · obtain rfl : j = 8 := by omega
          go_wp2
          go_round
          case rel => exact ⟨k + 1, by omega, by go_num, by rw [HST.out, Int.toNat_natCast, ← HE.out]; rfl⟩
          case measure => simp [intOf]; omega
    · obtain rfl : k = len := by omega
      have hln := HCL.out
      have hcl := onF_lt zs (4294967295 - s) HZ.out (by omega)
      rw [List.take_of_length_le (by omega)]
      have hn := not_u32 _ hcl
      have HV := Lib.hid (show onV s zs = 4294967295 - onF (4294967295 - s) zs from rfl)
      generalize onF (4294967295 - s) zs = c at hcl hn HV
      clear hln
      go_wp2
      go_ret
      exact ⟨by rw [HV.out]; rfl, Below.refl _ _⟩

theorem rcrc_any (a : Option Addr) (len cap : Nat) (zs : List Int) (w : World) (hr : Reads w 1 a len (u8s zs)) (hz : B8s zs) (hlen : len ≤ 1000000) :
    Calls Try.prog 11 #[.slice a len cap] w fun e w' => e = .returned (.int .u32 (onV 0 zs : Nat)) ∧ Below w.heap.size w w' := by
  have HR := Lib.hid hr
  have HZ := Lib.hid hz
  clear hr hz
  go_enter Try.func11, Try.ntmps11
  go_wp2_with fail
  refine (rcrcOn_any 0 a len cap zs _ (by omega) HR.out HZ.out hlen).mono ?_
  rintro e w1 ⟨rfl, hb⟩
  go_wp2_with fail
  go_ret
  exact ⟨rfl, by repeat' (first | (with_reducible exact Below.refl _ _) | (with_reducible refine Rd.below_step ?_ (by assumption)) | (with_reducible refine Rd.below_alloc ?_ _) | (with_reducible refine Rd.below_drewN ?_ _) | (with_reducible refine Below.drew ?_) | (with_reducible refine Below.setCell ?_ ?_ _) | (with_reducible refine Rd.below_setRow ?_ ?_ _) | go_size | (simp only [World.size_alloc]; omega) | omega)⟩
end Go.Proofs.Ytnlppgdkimaddaa.CrcD
