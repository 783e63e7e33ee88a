/-
  What the functions of package crc answer, and those of the document's own answer: sums.
-/
import Derived.Test.YtnlppgdkimaddaaRow
namespace Go.Proofs.Ytnlppgdkimaddaa.CrcA
open Go.RowKit Rd Go.Proofs.Ytnlppgdkimaddaa.Row
set_option linter.unusedVariables false
set_option linter.unusedSimpArgs false
set_option maxRecDepth 10000

def bstep (x : Nat) : Nat := if x % 2 = 1 then (x / 2) ^^^ 3988292384 else x / 2
def iterB : Nat → Nat → Nat
  | 0, x => x
  | k + 1, x => bstep (iterB k x)
def byteN (x : Nat) : Nat := iterB 8 x
theorem bstep_lt {x : Nat} (h : x < 4294967296) : bstep x < 4294967296 := by
  unfold bstep
  split
  · exact Nat.xor_lt_two_pow (n := 32) (by omega) (by omega)
  · omega
theorem iterB_lt {x : Nat} (h : x < 4294967296) : ∀ k, iterB k x < 4294967296
  | 0 => h
  | k + 1 => bstep_lt (iterB_lt h k)

theorem low_bit (y : Nat) (h : y < 4294967296) : bits .and .u32 (y : Int) 1 = ((y % 2 : Nat) : Int) := by
  have := u32_and_nat y 1 h (by omega)
  rw [Nat.and_one_is_mod] at this
  exact this
theorem xor_half (y : Nat) (h : y < 4294967296) : bits .xor .u32 ((y : Int) / 2) 3988292384 = ((y / 2 ^^^ 3988292384 : Nat) : Int) := u32_xor_nat (y / 2) 3988292384 (by omega) (by omega)

theorem ofByte_any (x : Nat) (w : World) (hx : x < 4294967296) :
    Calls Try.prog 14 #[.int .u32 x] w fun e w' => e = .returned (.int .u32 (byteN x : Nat)) ∧ w = w' := by
  go_enter Try.func14, Try.ntmps14
  go_wp2
  go_loop [0, 4] (fun s i => ∃ k : Nat, k ≤ 8 ∧ i = .int .i64 k ∧ s = .int .u32 (iterB k x : Nat)) (fun _ i => 8 - (intOf i).toNat)
  case atStart => exact ⟨0, by omega, rfl, rfl⟩
  case round =>
    obtain ⟨k, hk, rfl, rfl⟩ := hrel
    have hy := iterB_lt hx k
    by_cases hlt : k < 8
    · have hlt' : (k : Int) < 8 := by omega
      have hs : iterB (k + 1) x = bstep (iterB k x) := rfl
      generalize iterB k x = y at hy hs
      have HS := Lib.hid hs
      clear hs
      have hl := low_bit y hy
      have hh := xor_half y hy
      by_cases ho : y % 2 = 1
      · rw [ho] at hl
        have HB := Lib.hid (show bstep y = y / 2 ^^^ 3988292384 by unfold bstep; rw [if_pos ho])
        have hl' : (bits .and .u32 (y : Int) 1 == 1) = true := by rw [hl]; rfl
        clear hl ho
        go_wp2
        exact ⟨⟨k + 1, by omega, by go_num, by rw [HS.out, HB.out]; try rw [hh]⟩, by simp [intOf]; omega⟩
      · have ho' : y % 2 = 0 := by omega
        rw [ho'] at hl
        have HB := Lib.hid (show bstep y = y / 2 by unfold bstep; rw [if_neg ho])
        have hl' : (bits .and .u32 (y : Int) 1 == 1) = false := by rw [hl]; rfl
        clear hl ho ho'
        go_wp2
        exact ⟨⟨k + 1, by omega, by go_num, by rw [HS.out, HB.out]; try go_num⟩, by simp [intOf]; omega⟩
    · obtain rfl : k = 8 := by omega
      go_wp2
      go_ret
      exact ⟨rfl, rfl⟩

def tblF (i : Nat) : Int := (byteN i : Nat)
def tblL : List Int := (List.range 256).map tblF
theorem tblL_len : tblL.length = 256 := by simp [tblL]
theorem tblL_at (i : Nat) (h : i < 256) : tblL[i]? = some (tblF i) := by simp [tblL, h]

theorem alloc_tbl : Instr.alloc 26 true (.tuple #[]) = allocRow 26 := rfl
theorem run_alloc_tbl (w : World) : (allocRow 26).run Try.prog w = .ok (.pointer (some ⟨w.heap.size, 0, none⟩)) (w.alloc (.cells (cs .u32 (List.replicate 256 0)) 26)) := by kernel_rfl
theorem load_tbl (x : Value) : Instr.loadAt 26 x = loadRow 26 x := rfl
theorem store_tbl (x v : Value) : Instr.storeAt 26 x v = storeRow 26 x v := rfl
theorem run_load_tbl (g o : Nat) (W : World) : (loadRow 26 (.pointer (some ⟨g, o, none⟩))).run Try.prog W = rowLoad Try.prog 26 256 g o W := run_loadRow Try.underlying26 rfl (by kernel_rfl) g o W
theorem run_store_tbl (g o : Nat) (c : Array Value) (W : World) : (storeRow 26 (.pointer (some ⟨g, o, none⟩)) (.agg c)).run Try.prog W = rowStore Try.prog 26 256 g o c W := run_storeRow (by kernel_rfl) g o c W
attribute [local go_sem ↓] load_tbl store_tbl alloc_tbl
attribute [local go_sem] run_alloc_tbl run_load_tbl run_store_tbl rowLoad_eq rowStore_eq blk_alloc_at blk_alloc_old blk_drew blk_drewN blk_set_far blk_set_far' blk_grow setRow_alloc_at setRow_alloc_old setRow_drew setRow_drewN all_map one_int
theorem info_tbl : (Try.prog.info? 26).map (·.size) = some 256 := by kernel_rfl

theorem make_any (w : World) :
    Calls Try.prog 8 #[] w fun e w' => e = .returned (.agg (cs .u32 tblL)) ∧ Below w.heap.size w w' := by
  go_enter Try.func8, Try.ntmps8
  go_wp2_with fail
  go_loopw [3] (fun i wr => ∃ k : Nat, k ≤ 256 ∧ i = .int .i64 k ∧ Hid (blk wr w.heap.size = some (.cells (cs .u32 (List.replicate 256 0)) 26 (0, 0)) ∧ blk wr (w.heap.size + 1) = some (.cells (cs .u32 (fillK 256 tblF k)) 26 (0, 0)) ∧ Below w.heap.size w wr)) (fun i _ => 256 - (intOf i).toNat)
  case atStart => exact ⟨0, by omega, rfl, blk2_0 _ _ _, by rw [fillK_0]; exact blk2_1 _ _ _, by repeat' (first | (with_reducible exact Below.refl _ _) | (with_reducible refine Rd.below_step ?_ (by assumption)) | (with_reducible refine Rd.below_alloc ?_ _) | (with_reducible refine Rd.below_drewN ?_ _) | (with_reducible refine Below.drew ?_) | (with_reducible refine Below.setCell ?_ ?_ _) | (with_reducible refine Rd.below_setRow ?_ ?_ _) | go_size | (simp only [World.size_alloc]; omega) | omega)⟩
  case round =>
    obtain ⟨k, hk, rfl, HB⟩ := hrel
    obtain ⟨z1, t1, L1⟩ := HB.out
    clear HB
    by_cases hlt : k < 256
    · have hlt' : (k : Int) < 256 := by omega
      have c0 : wr.cell? ⟨w.heap.size + 1, k, none⟩ = some (.int .u32 ((fillK 256 tblF k).getD k 0)) := by
        rw [blk_cell t1]; exact cs_at (at_of (by rw [fillK_len]; omega))
      have f0 : wr.frozen? ⟨w.heap.size + 1, k, none⟩ = false := blk_frozen t1 _
      have Z1 := Lib.hid z1
      have T1 := Lib.hid t1
      clear z1 t1
      go_wp2_with (go_at_call 14; refine (ofByte_any k _ (by omega)).mono ?_; rintro e w' ⟨rfl, rfl⟩)
      refine ⟨⟨k + 1, by omega, by go_num, ?_, ?_, ?_⟩, by simp [intOf]; omega⟩
      · exact (blk_set_far _ _ _ _ (by show _ < w.heap.size + 1; omega)).trans Z1.out
      · have e := blk_set wr (w.heap.size + 1) k (.int .u32 (tblF k)) _ _ T1.out
        rw [set_cs, fillK_set _ _ _ (by omega)] at e
        exact e
      · repeat' (first | (with_reducible exact Below.refl _ _) | (with_reducible refine Rd.below_step ?_ (by assumption)) | (with_reducible refine Rd.below_alloc ?_ _) | (with_reducible refine Rd.below_drewN ?_ _) | (with_reducible refine Below.drew ?_) | (with_reducible refine Below.setCell ?_ ?_ _) | (with_reducible refine Rd.below_setRow ?_ ?_ _) | go_size | (simp only [World.size_alloc]; omega) | omega)
    · obtain rfl : k = 256 := by omega
      rw [fillK_all] at t1
      have HL := Lib.hid tblL_len
      have hl := HL.out
      have t1' : blk wr (w.heap.size + 1) = some (.cells (cs .u32 tblL) 26 (0, 0)) := t1
      clear t1
      go_wp2
      exact bodyPost_ret (results_row1 rfl _ _ w.heap.size _ _ _ _ rfl (blk_setRow_of z1 _) Try.underlying26 rfl (by rw [info_tbl]; simp [tblL])) rfl ⟨rfl, by repeat' (first | (with_reducible exact Below.refl _ _) | (with_reducible refine Rd.below_step ?_ (by assumption)) | (with_reducible refine Rd.below_alloc ?_ _) | (with_reducible refine Rd.below_drewN ?_ _) | (with_reducible refine Below.drew ?_) | (with_reducible refine Below.setCell ?_ ?_ _) | (with_reducible refine Rd.below_setRow ?_ ?_ _) | go_size | (simp only [World.size_alloc]; omega) | omega)⟩
end Go.Proofs.Ytnlppgdkimaddaa.CrcA
