/-
  The table: each place is the exclusive or of those of its bits.
-/
import Derived.Test.YtnlppgdkimaddaaCrcE
import Derived.Test.YtnlppgdkimaddaaAlike
namespace Go.Proofs.Ytnlppgdkimaddaa.CrcF
open Go.RowKit Rd Go.Proofs.Ytnlppgdkimaddaa.Row CrcA CrcB CrcC CrcD CrcE Alk
open Go.Proofs.Ytnlppgdkimaddaa.Pred (Is is_stab Stab)
set_option linter.unusedVariables false
set_option linter.unusedSimpArgs false
set_option maxRecDepth 100000
attribute [local go_sem ↓] load_tbl store_tbl alloc_tbl
attribute [local go_sem] run_alloc_tbl run_load_tbl run_store_tbl rowLoad_eq rowStore_eq blk_alloc_at blk_alloc_old blk_drew blk_drewN blk_set_far blk_set_far' blk_grow setRow_alloc_at setRow_alloc_old setRow_drew setRow_drewN all_map one_int


theorem ofInt_i64 (a : Nat) (ha : a < 9223372036854775808) : (BitVec.ofInt 64 (a : Int)).toNat = a := by
  rw [BitVec.ofInt_natCast, BitVec.toNat_ofNat]; exact Nat.mod_eq_of_lt (by omega)
theorem low_i64 (a : Nat) (ha : a < 1000000) : bits .and .i64 (a : Int) 1 = ((a % 2 : Nat) : Int) := by
  rw [← Nat.and_one_is_mod]
  have hx : a &&& 1 < 2 ^ 63 := Nat.and_lt_two_pow _ (by omega)
  show IntKind.i64.wrap ((BitVec.ofInt 64 (a : Int) &&& BitVec.ofInt 64 ((1 : Nat) : Int)).toNat : Int) = _
  rw [BitVec.toNat_and, ofInt_i64 a (by omega), ofInt_i64 1 (by omega), IntKind.wrap_i64]
  omega
theorem bit_step (K j : Nat) : byteN (K % 2 ^ (j + 1)) = byteN (K % 2 ^ j) ^^^ (if K / 2 ^ j % 2 = 1 then byteN (2 ^ j) else 0) := by
  have e : K % 2 ^ (j + 1) = K % 2 ^ j ^^^ (if K / 2 ^ j % 2 = 1 then 2 ^ j else 0) := by
    apply Nat.eq_of_testBit_eq
    intro i
    rw [Nat.testBit_xor, Nat.testBit_mod_two_pow, Nat.testBit_mod_two_pow]
    have hb : K.testBit j = decide (K / 2 ^ j % 2 = 1) := by
      rw [show K.testBit j = (K / 2 ^ j).testBit 0 by rw [Nat.testBit_div_two_pow, Nat.zero_add] , Nat.testBit_zero]
    by_cases hij : i = j
    · subst hij
      simp [hb]
      split <;> simp_all
    · have h0 : (if K / 2 ^ j % 2 = 1 then 2 ^ j else 0).testBit i = false := by
        split
        · rw [Nat.testBit_two_pow]; simp; omega
        · simp
      rw [h0]
      by_cases h1 : i < j
      · simp [h1, show i < j + 1 by omega]
      · simp [h1, show ¬ i < j + 1 by omega]
  rw [e, byteN_xor]
  congr 1
  split
  · rfl
  · decide

set_option maxHeartbeats 4000000 in
theorem CrcTable_walk (a0 : Int) (w : World) (w0 : (Lit.int .i64 a0).wf = true) :
    Calls Try.prog 5 #[.int .i64 a0] w fun e w' => e = .returned (.bool true) ∧ Below w.heap.size w w' := by
  have hwf : -9223372036854775808 ≤ a0 ∧ a0 ≤ 9223372036854775807 := by
    have h2 : (decide (IntKind.i64.min ≤ a0) && decide (a0 ≤ IntKind.i64.max)) = true := w0
    have e1 : IntKind.i64.min = -9223372036854775808 := by decide
    have e2 : IntKind.i64.max = 9223372036854775807 := by decide
    rw [e1, e2] at h2
    simpa using h2
  obtain ⟨K, hK⟩ := Int.eq_ofNat_of_zero_le (show 0 ≤ a0 % 256 by omega)
  have hK2 : K < 256 := by omega
  have HK := Lib.hid hK
  clear hK w0
  have hl := tblL_len
  go_enter Try.func5, Try.ntmps5
  go_wp2_with fail
  refine (make_any _).mono ?_
  rintro e w1 ⟨rfl, hb1⟩
  have s1 := hb1.size
  go_wp2_with fail
  refine (round_any a0 256 _ hwf.1 hwf.2 (by omega) (by omega)).mono ?_
  rintro e w2 ⟨rfl, rfl⟩
  rw [HK.out]
  clear hwf
  go_upto_region 3 with (fail)
  refine Rd.name_world ?_
  intro W hW
  have T0 : blk W w1.heap.size = some (.cells (cs .u32 tblL) 26 (0, 0)) := by rw [hW]; exact blk_alloc_at _ _ _ rfl
  have L1 : Below w.heap.size w W := by rw [hW]; repeat' (first | (with_reducible exact Below.refl _ _) | (with_reducible refine Rd.below_step ?_ (by assumption)) | (with_reducible refine Rd.below_alloc ?_ _) | (with_reducible refine Rd.below_drewN ?_ _) | (with_reducible refine Below.drew ?_) | (with_reducible refine Below.setCell ?_ ?_ _) | (with_reducible refine Rd.below_setRow ?_ ?_ _) | go_size | (simp only [World.size_alloc]; omega) | omega)
  clear hW hb1
  go_wp2
  go_loop [5, 6] (fun x i => ∃ j : Nat, j ≤ 8 ∧ i = .int .i64 j ∧ x = .int .u32 (byteN (K % 2 ^ j) : Nat)) (fun _ i => 8 - (intOf i).toNat)
  case atStart => exact ⟨0, by omega, rfl, by rw [Nat.pow_zero, Nat.mod_one]; rfl⟩
  case round =>
    obtain ⟨j, hj, rfl, rfl⟩ := hrel
    by_cases hlt : j < 8
    · have ej : j = 0 ∨ j = 1 ∨ j = 2 ∨ j = 3 ∨ j = 4 ∨ j = 5 ∨ j = 6 ∨ j = 7 := by omega
      have hs := Lib.hid (bit_step K j)
      have hx := byteN_lt (show K % 2 ^ j < 4294967296 from Nat.lt_of_le_of_lt (Nat.mod_le _ _) (by omega))
      rcases ej with rfl | rfl | rfl | rfl | rfl | rfl | rfl | rfl
      · have hl := low_i64 K (by omega)
        have hc : W.cell? ⟨w1.heap.size, 1, none⟩ = some (.int .u32 (byteN 1 : Nat)) := by rw [blk_cell T0]; exact cs_at (tblL_at 1 (by omega))
        have hq : ((K : Nat) : Int) = (K : Int) := by first | rfl | (push_cast; rfl)
        rw [hq] at hl
        have hst := hs.out
        simp only [Nat.reducePow, Nat.reduceAdd, Nat.div_one] at hst hx ⊢
        have hb2 := byteN_lt (show 1 < 4294967296 by omega)
        have x32 := u32_xor_nat _ _ hx hb2
        generalize byteN (K % 1) = x at hst hx x32
        generalize byteN 1 = t at hc hst hb2 x32
        clear T0
        by_cases ho : K % 2 = 1
        · rw [ho] at hl
          have hl' : (bits .and .i64 (K : Int) 1 == 1) = true := by rw [hl]; rfl
          rw [if_pos ho] at hst
          have HST := Lib.hid hst
          clear hl ho hst hq
          go_wp2
          exact ⟨⟨1, by omega, by go_num, by rw [show (2 : Nat) ^ 1 = 2 from rfl, HST.out]; try rw [x32]⟩, by simp [intOf]⟩
        · have ho' : K % 2 = 0 := by omega
          rw [ho'] at hl
          have hl' : (bits .and .i64 (K : Int) 1 == 1) = false := by rw [hl]; rfl
          rw [if_neg ho, Nat.xor_zero] at hst
          have HST := Lib.hid hst
          clear hl ho ho' hst hq
          go_wp2
          exact ⟨⟨1, by omega, by go_num, by rw [show (2 : Nat) ^ 1 = 2 from rfl, HST.out]⟩, by simp [intOf]⟩
      · have hl := low_i64 (K / 2) (by omega)
        have hc : W.cell? ⟨w1.heap.size, 2, none⟩ = some (.int .u32 (byteN 2 : Nat)) := by rw [blk_cell T0]; exact cs_at (tblL_at 2 (by omega))
        have hq : (((K / 2) : Nat) : Int) = ((K : Int) / 2) := by first | rfl | (push_cast; rfl)
        rw [hq] at hl
        have hst := hs.out
        simp only [Nat.reducePow, Nat.reduceAdd, Nat.div_one] at hst hx ⊢
        have hb2 := byteN_lt (show 2 < 4294967296 by omega)
        have x32 := u32_xor_nat _ _ hx hb2
        generalize byteN (K % 2) = x at hst hx x32
        generalize byteN 2 = t at hc hst hb2 x32
        clear T0
        by_cases ho : (K / 2) % 2 = 1
        · rw [ho] at hl
          have hl' : (bits .and .i64 ((K : Int) / 2) 1 == 1) = true := by rw [hl]; rfl
          rw [if_pos ho] at hst
          have HST := Lib.hid hst
          clear hl ho hst hq
          go_wp2
          exact ⟨⟨2, by omega, by go_num, by rw [show (2 : Nat) ^ 2 = 4 from rfl, HST.out]; try rw [x32]⟩, by simp [intOf]⟩
        · have ho' : (K / 2) % 2 = 0 := by omega
          rw [ho'] at hl
          have hl' : (bits .and .i64 ((K : Int) / 2) 1 == 1) = false := by rw [hl]; rfl
          rw [if_neg ho, Nat.xor_zero] at hst
          have HST := Lib.hid hst
          clear hl ho ho' hst hq
          go_wp2
          exact ⟨⟨2, by omega, by go_num, by rw [show (2 : Nat) ^ 2 = 4 from rfl, HST.out]⟩, by simp [intOf]⟩
      · have hl := low_i64 (K / 4) (by omega)
        have hc : W.cell? ⟨w1.heap.size, 4, none⟩ = some (.int .u32 (byteN 4 : Nat)) := by rw [blk_cell T0]; exact cs_at (tblL_at 4 (by omega))
        have hq : (((K / 4) : Nat) : Int) = ((K : Int) / 4) := by first | rfl | (push_cast; rfl)
        rw [hq] at hl
        have hst := hs.out
        simp only [Nat.reducePow, Nat.reduceAdd, Nat.div_one] at hst hx ⊢
        have hb2 := byteN_lt (show 4 < 4294967296 by omega)
        have x32 := u32_xor_nat _ _ hx hb2
        generalize byteN (K % 4) = x at hst hx x32
        generalize byteN 4 = t at hc hst hb2 x32
        clear T0
        by_cases ho : (K / 4) % 2 = 1
        · rw [ho] at hl
          have hl' : (bits .and .i64 ((K : Int) / 4) 1 == 1) = true := by rw [hl]; rfl
          rw [if_pos ho] at hst
          have HST := Lib.hid hst
          clear hl ho hst hq
          go_wp2
          exact ⟨⟨3, by omega, by go_num, by rw [show (2 : Nat) ^ 3 = 8 from rfl, HST.out]; try rw [x32]⟩, by simp [intOf]⟩
        · have ho' : (K / 4) % 2 = 0 := by omega
          rw [ho'] at hl
          have hl' : (bits .and .i64 ((K : Int) / 4) 1 == 1) = false := by rw [hl]; rfl
          rw [if_neg ho, Nat.xor_zero] at hst
          have HST := Lib.hid hst
          clear hl ho ho' hst hq
          go_wp2
          exact ⟨⟨3, by omega, by go_num, by rw [show (2 : Nat) ^ 3 = 8 from rfl, HST.out]⟩, by simp [intOf]⟩
      · have hl := low_i64 (K / 8) (by omega)
        have hc : W.cell? ⟨w1.heap.size, 8, none⟩ = some (.int .u32 (byteN 8 : Nat)) := by rw [blk_cell T0]; exact cs_at (tblL_at 8 (by omega))
        have hq : (((K / 8) : Nat) : Int) = ((K : Int) / 8) := by first | rfl | (push_cast; rfl)
        rw [hq] at hl
        have hst := hs.out
        simp only [Nat.reducePow, Nat.reduceAdd, Nat.div_one] at hst hx ⊢
        have hb2 := byteN_lt (show 8 < 4294967296 by omega)
        have x32 := u32_xor_nat _ _ hx hb2
        generalize byteN (K % 8) = x at hst hx x32
        generalize byteN 8 = t at hc hst hb2 x32
        clear T0
        by_cases ho : (K / 8) % 2 = 1
        · rw [ho] at hl
          have hl' : (bits .and .i64 ((K : Int) / 8) 1 == 1) = true := by rw [hl]; rfl
          rw [if_pos ho] at hst
          have HST := Lib.hid hst
          clear hl ho hst hq
          go_wp2
          exact ⟨⟨4, by omega, by go_num, by rw [show (2 : Nat) ^ 4 = 16 from rfl, HST.out]; try rw [x32]⟩, by simp [intOf]⟩
        · have ho' : (K / 8) % 2 = 0 := by omega
          rw [ho'] at hl
          have hl' : (bits .and .i64 ((K : Int) / 8) 1 == 1) = false := by rw [hl]; rfl
          rw [if_neg ho, Nat.xor_zero] at hst
          have HST := Lib.hid hst
          clear hl ho ho' hst hq
          go_wp2
          exact ⟨⟨4, by omega, by go_num, by rw [show (2 : Nat) ^ 4 = 16 from rfl, HST.out]⟩, by simp [intOf]⟩
      · have hl := low_i64 (K / 16) (by omega)
        have hc : W.cell? ⟨w1.heap.size, 16, none⟩ = some (.int .u32 (byteN 16 : Nat)) := by rw [blk_cell T0]; exact cs_at (tblL_at 16 (by omega))
        have hq : (((K / 16) : Nat) : Int) = ((K : Int) / 16) := by first | rfl | (push_cast; rfl)
        rw [hq] at hl
        have hst := hs.out
        simp only [Nat.reducePow, Nat.reduceAdd, Nat.div_one] at hst hx ⊢
        have hb2 := byteN_lt (show 16 < 4294967296 by omega)
        have x32 := u32_xor_nat _ _ hx hb2
        generalize byteN (K % 16) = x at hst hx x32
        generalize byteN 16 = t at hc hst hb2 x32
        clear T0
        by_cases ho : (K / 16) % 2 = 1
        · rw [ho] at hl
          have hl' : (bits .and .i64 ((K : Int) / 16) 1 == 1) = true := by rw [hl]; rfl
          rw [if_pos ho] at hst
          have HST := Lib.hid hst
          clear hl ho hst hq
          go_wp2
          exact ⟨⟨5, by omega, by go_num, by rw [show (2 : Nat) ^ 5 = 32 from rfl, HST.out]; try rw [x32]⟩, by simp [intOf]⟩
        · have ho' : (K / 16) % 2 = 0 := by omega
          rw [ho'] at hl
          have hl' : (bits .and .i64 ((K : Int) / 16) 1 == 1) = false := by rw [hl]; rfl
          rw [if_neg ho, Nat.xor_zero] at hst
          have HST := Lib.hid hst
          clear hl ho ho' hst hq
          go_wp2
          exact ⟨⟨5, by omega, by go_num, by rw [show (2 : Nat) ^ 5 = 32 from rfl, HST.out]⟩, by simp [intOf]⟩
      · have hl := low_i64 (K / 32) (by omega)
        have hc : W.cell? ⟨w1.heap.size, 32, none⟩ = some (.int .u32 (byteN 32 : Nat)) := by rw [blk_cell T0]; exact cs_at (tblL_at 32 (by omega))
        have hq : (((K / 32) : Nat) : Int) = ((K : Int) / 32) := by first | rfl | (push_cast; rfl)
        rw [hq] at hl
        have hst := hs.out
        simp only [Nat.reducePow, Nat.reduceAdd, Nat.div_one] at hst hx ⊢
        have hb2 := byteN_lt (show 32 < 4294967296 by omega)
        have x32 := u32_xor_nat _ _ hx hb2
        generalize byteN (K % 32) = x at hst hx x32
        generalize byteN 32 = t at hc hst hb2 x32
        clear T0
        by_cases ho : (K / 32) % 2 = 1
        · rw [ho] at hl
          have hl' : (bits .and .i64 ((K : Int) / 32) 1 == 1) = true := by rw [hl]; rfl
          rw [if_pos ho] at hst
          have HST := Lib.hid hst
          clear hl ho hst hq
          go_wp2
          exact ⟨⟨6, by omega, by go_num, by rw [show (2 : Nat) ^ 6 = 64 from rfl, HST.out]; try rw [x32]⟩, by simp [intOf]⟩
        · have ho' : (K / 32) % 2 = 0 := by omega
          rw [ho'] at hl
          have hl' : (bits .and .i64 ((K : Int) / 32) 1 == 1) = false := by rw [hl]; rfl
          rw [if_neg ho, Nat.xor_zero] at hst
          have HST := Lib.hid hst
          clear hl ho ho' hst hq
          go_wp2
          exact ⟨⟨6, by omega, by go_num, by rw [show (2 : Nat) ^ 6 = 64 from rfl, HST.out]⟩, by simp [intOf]⟩
      · have hl := low_i64 (K / 64) (by omega)
        have hc : W.cell? ⟨w1.heap.size, 64, none⟩ = some (.int .u32 (byteN 64 : Nat)) := by rw [blk_cell T0]; exact cs_at (tblL_at 64 (by omega))
        have hq : (((K / 64) : Nat) : Int) = ((K : Int) / 64) := by first | rfl | (push_cast; rfl)
        rw [hq] at hl
        have hst := hs.out
        simp only [Nat.reducePow, Nat.reduceAdd, Nat.div_one] at hst hx ⊢
        have hb2 := byteN_lt (show 64 < 4294967296 by omega)
        have x32 := u32_xor_nat _ _ hx hb2
        generalize byteN (K % 64) = x at hst hx x32
        generalize byteN 64 = t at hc hst hb2 x32
        clear T0
        by_cases ho : (K / 64) % 2 = 1
        · rw [ho] at hl
          have hl' : (bits .and .i64 ((K : Int) / 64) 1 == 1) = true := by rw [hl]; rfl
          rw [if_pos ho] at hst
          have HST := Lib.hid hst
          clear hl ho hst hq
          go_wp2
          exact ⟨⟨7, by omega, by go_num, by rw [show (2 : Nat) ^ 7 = 128 from rfl, HST.out]; try rw [x32]⟩, by simp [intOf]⟩
        · have ho' : (K / 64) % 2 = 0 := by omega
          rw [ho'] at hl
          have hl' : (bits .and .i64 ((K : Int) / 64) 1 == 1) = false := by rw [hl]; rfl
          rw [if_neg ho, Nat.xor_zero] at hst
          have HST := Lib.hid hst
          clear hl ho ho' hst hq
          go_wp2
          exact ⟨⟨7, by omega, by go_num, by rw [show (2 : Nat) ^ 7 = 128 from rfl, HST.out]⟩, by simp [intOf]⟩
      · have hl := low_i64 (K / 128) (by omega)
        have hc : W.cell? ⟨w1.heap.size, 128, none⟩ = some (.int .u32 (byteN 128 : Nat)) := by rw [blk_cell T0]; exact cs_at (tblL_at 128 (by omega))
        have hq : (((K / 128) : Nat) : Int) = ((K : Int) / 128) := by first | rfl | (push_cast; rfl)
        rw [hq] at hl
        have hst := hs.out
        simp only [Nat.reducePow, Nat.reduceAdd, Nat.div_one] at hst hx ⊢
        have hb2 := byteN_lt (show 128 < 4294967296 by omega)
        have x32 := u32_xor_nat _ _ hx hb2
        generalize byteN (K % 128) = x at hst hx x32
        generalize byteN 128 = t at hc hst hb2 x32
        clear T0
        by_cases ho : (K / 128) % 2 = 1
        · rw [ho] at hl
          have hl' : (bits .and .i64 ((K : Int) / 128) 1 == 1) = true := by rw [hl]; rfl
          rw [if_pos ho] at hst
          have HST := Lib.hid hst
          clear hl ho hst hq
          go_wp2
          exact ⟨⟨8, by omega, by go_num, by rw [show (2 : Nat) ^ 8 = 256 from rfl, HST.out]; try rw [x32]⟩, by simp [intOf]⟩
        · have ho' : (K / 128) % 2 = 0 := by omega
          rw [ho'] at hl
          have hl' : (bits .and .i64 ((K : Int) / 128) 1 == 1) = false := by rw [hl]; rfl
          rw [if_neg ho, Nat.xor_zero] at hst
          have HST := Lib.hid hst
          clear hl ho ho' hst hq
          go_wp2
          exact ⟨⟨8, by omega, by go_num, by rw [show (2 : Nat) ^ 8 = 256 from rfl, HST.out]⟩, by simp [intOf]⟩
    · obtain rfl : j = 8 := by omega
      have hT : W.cell? ⟨w1.heap.size, K, none⟩ = some (.int .u32 (byteN K : Nat)) := by rw [blk_cell T0]; exact cs_at (tblL_at K hK2)
      have hT0 : W.cell? ⟨w1.heap.size, 0, none⟩ = some (.int .u32 0) := by rw [blk_cell T0]; exact cs_at (tblL_at 0 (by omega))
      have hK3 : (K : Int) < 256 := by omega
      rw [show K % 2 ^ 8 = K from Nat.mod_eq_of_lt hK2]
      generalize byteN K = x at hT
      clear T0
      go_wp2_with (go_at_call 7; refine (awake_any _).mono ?_; rintro e w3 ⟨rfl, hb⟩)
      go_ret
      exact ⟨rfl, by repeat' (first | (with_reducible exact Below.refl _ _) | (with_reducible refine Rd.below_step ?_ (by assumption)) | (with_reducible refine Rd.below_alloc ?_ _) | (with_reducible refine Rd.below_drewN ?_ _) | (with_reducible refine Below.drew ?_) | (with_reducible refine Below.setCell ?_ ?_ _) | (with_reducible refine Rd.below_setRow ?_ ?_ _) | go_size | (simp only [World.size_alloc]; omega) | omega)⟩
end Go.Proofs.Ytnlppgdkimaddaa.CrcF
