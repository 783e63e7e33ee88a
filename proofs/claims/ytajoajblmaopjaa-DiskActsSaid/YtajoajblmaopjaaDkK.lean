/-
  A sector of any number.
-/
import Derived.Test.YtajoajblmaopjaaDkH
namespace Go.Proofs.Ytajoajblmaopjaa.DkK
open Go.RowKit Rd
open Go.Proofs.Ytajoajblmaopjaa.Row hiding cs blk3_0 blk3_1 blk3_2
open Mid DkM DkA DkB DkC DkD DkE DkF DkH
set_option linter.unusedVariables false
set_option linter.unusedSimpArgs false
set_option maxRecDepth 10000
theorem w8 (x : Int) : (IntKind.i64.wrap x) % 256 = x % 256 := by rw [IntKind.wrap_i64]; omega
def secQ (m : Int) (k : Nat) : List Int := (List.range 32).map fun (i : Nat) => if i < k then (m * 7 + (i : Int)) % 256 else 0
def secI (m : Int) : List Int := (List.range 32).map fun (i : Nat) => (m * 7 + (i : Int)) % 256
theorem secI_bd (m : Int) : Bd (secI m) := ⟨by simp [secI], fun z hz => by
  unfold secI at hz
  obtain ⟨i, -, rfl⟩ := List.mem_map.1 hz
  omega⟩
theorem secQ_len (m : Int) (k : Nat) : (secQ m k).length = 32 := by simp [secQ]
theorem secQ_zero (m : Int) : secQ m 0 = z32 := by
  unfold secQ z32
  simp
  rfl
theorem secQ_all (m : Int) : secQ m 32 = secI m := by
  unfold secQ secI
  apply List.map_congr_left
  intro i hi
  rw [if_pos (List.mem_range.1 hi)]
theorem secQ_step (m : Int) (k : Nat) (hk : k < 32) : (secQ m k).set k ((m * 7 + (k : Int)) % 256) = secQ m (k + 1) := by
  apply List.ext_getElem
  · simp [secQ]
  · intro i h1 h2
    have hi : i < 32 := by rw [secQ_len] at h2; exact h2
    have h3 : i < (secQ m k).length := by rw [secQ_len]; exact hi
    have e0 : (secQ m (k + 1))[i] = if i < k + 1 then (m * 7 + (i : Int)) % 256 else 0 := by simp [secQ]
    have e1 : (secQ m k)[i] = if i < k then (m * 7 + (i : Int)) % 256 else 0 := by simp [secQ]
    refine (List.getElem_set ..).trans (Eq.trans ?_ e0.symm)
    by_cases e : k = i
    · subst e
      rw [if_pos rfl, if_pos (by omega)]
    · rw [if_neg e]
      refine e1.trans ?_
      by_cases e2 : i < k
      · rw [if_pos e2, if_pos (by omega)]
      · rw [if_neg e2, if_neg (by omega)]
attribute [local go_sem ↓] run_make_32
set_option maxHeartbeats 1000000 in
theorem sector_int (m : Int) (w : World) :
    Calls Try.prog 10 #[.int .i64 m] w fun e w' => e = .returned (.slice (some ⟨w.heap.size, 0, none⟩) 32 32) ∧ blk w' w.heap.size = some (.cells (us (secI m)).toArray 5 (0, 0)) ∧ Below w.heap.size w w' := by
  go_enter Try.func10, Try.ntmps10
  go_upto_region 2 with (fail)
  refine Rd.name_world ?_
  intro w1 hw
  have bB : blk w1 w.heap.size = some (.cells (us (secQ m 0)).toArray 5 (0, 0)) := by rw [hw, secQ_zero]; exact blk_alloc_at _ _ _ rfl
  have L1 : Below w.heap.size w w1 := by
    rw [hw]
    repeat' (first | (with_reducible exact Below.refl _ _) | (with_reducible refine Rd.below_step ?_ (by assumption)) | (with_reducible refine Rd.below_alloc ?_ _) | (with_reducible refine Rd.below_drewN ?_ _) | (with_reducible refine Below.drew ?_) | (with_reducible refine Below.setCell ?_ ?_ _) | (with_reducible refine Rd.below_setRow ?_ ?_ _) | go_size | (simp only [World.size_alloc]; omega) | omega)
  have HB := Lib.hid bB
  have HL := Lib.hid L1
  clear hw bB L1
  go_wp2_with fail
  go_loopw [4] (fun i X => ∃ k : Nat, k ≤ 32 ∧ i = .int .i64 k ∧ Hid (blk X w.heap.size = some (.cells (us (secQ m k)).toArray 5 (0, 0))) ∧ Hid (Below w.heap.size w X)) (fun i _ => 32 - (intOf i).toNat)
  case atStart => exact ⟨0, by omega, rfl, HB, HL⟩
  case round =>
    clear HB HL
    obtain ⟨k, hk, rfl, HB, HL⟩ := hrel
    rename World => X
    by_cases hlt : k < 32
    · have hlt' : (k : Int) < 32 := by omega
      have hc : X.cell? ⟨w.heap.size, k, none⟩ = some (.int .u8 ((secQ m k).getD k 0)) := by
        rw [blk_cell HB.out]
        simp [us, List.getD, secQ_len, hlt]
      have hf := blk_frozen HB.out k
      obtain ⟨A, hA⟩ : ∃ A, IntKind.i64.wrap (m * 7) = A := ⟨_, rfl⟩
      obtain ⟨C, hC⟩ : ∃ C, IntKind.i64.wrap (A + (k : Int)) = C := ⟨_, rfl⟩
      have hw1 := w8 (m * 7)
      have hw2 := w8 (A + (k : Int))
      rw [hA] at hw1
      rw [hC] at hw2
      obtain ⟨v, hv9⟩ : ∃ v, (m * 7 + (k : Int)) % 256 = v := ⟨_, rfl⟩
      have e1 : C % 256 = v := by omega
      have hv11 : 0 ≤ v ∧ v < 256 := by omega
      clear hw1 hw2
      have hstep := secQ_step m k hlt
      rw [hv9] at hstep
      have HST := Lib.hid hstep
      clear hstep hv9
      go_wp2
      refine ⟨⟨k + 1, by omega, by go_num, Lib.hid ?_, Lib.hid (Below.setCell HL.out (Nat.le_refl _) _)⟩, by simp [intOf]; omega⟩
      have := blk_set X w.heap.size k (.int .u8 v) _ _ HB.out
      refine this.trans ?_
      rw [← HST.out]
      simp [us, List.map_set]
    · obtain rfl : k = 32 := by omega
      have HE : Hid (blk X w.heap.size = some (.cells (us (secI m)).toArray 5 (0, 0))) := Lib.hid (by rw [← secQ_all]; exact HB.out)
      go_wp2
      go_ret
      exact ⟨rfl, HE.out, HL.out⟩
end Go.Proofs.Ytajoajblmaopjaa.DkK
