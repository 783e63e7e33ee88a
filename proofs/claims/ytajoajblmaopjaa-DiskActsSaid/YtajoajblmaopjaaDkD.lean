/-
  New; a sector of a number; bytes as a string.
-/
import Derived.Test.YtajoajblmaopjaaDkC
namespace Go.Proofs.Ytajoajblmaopjaa.DkD
open Go.RowKit Rd Go.Proofs.Ytajoajblmaopjaa.Row Mid DkM DkA DkB DkC
set_option linter.unusedVariables false
set_option linter.unusedSimpArgs false
set_option maxRecDepth 10000
variable {X Y : World} {b kg hg n : Nat} {s : DS}
theorem made_fl (z : List Value) (hz : 0 < z.length) (n : Nat) : madeCells z.toArray (n * z.length) = (fl (List.replicate n z)).toArray := by
  have hu : ∀ l ∈ List.replicate n z, l.length = z.length := fun l hl => by rw [List.eq_of_mem_replicate hl]
  have hL := fl_len hu
  rw [List.length_replicate] at hL
  apply Array.ext
  · simp [madeCells, hL]
  · intro i h1 h2
    have hi : i < n * z.length := by simpa [madeCells] using h1
    have hd : i / z.length < n := Nat.div_lt_of_lt_mul (by rw [Nat.mul_comm]; exact hi)
    have hm := Nat.mod_lt i hz
    have h3 := fl_at hu (i := i / z.length) (j := i % z.length) (by simpa using hd) hm
    rw [Nat.div_add_mod' i z.length] at h3
    have h4 : (fl (List.replicate n z))[i]? = some (z[i % z.length]) := by
      rw [h3, List.getElem_replicate, List.getElem?_eq_getElem hm]
    have h5 : (fl (List.replicate n z)).toArray[i] = z[i % z.length] := by
      have := List.getElem?_eq_some_iff.1 h4
      obtain ⟨_, e⟩ := this
      simpa using e
    rw [h5]
    simp only [madeCells, Array.getElem_map, Array.getElem_range, List.size_toArray]
    simp [hm]
theorem info_sec : (Try.prog.info? 66).map (fun i => (i.zero, i.size, i.bytes)) = some (some (secV z32), 32, 32) := by kernel_rfl
theorem info_hld : (Try.prog.info? 68).map (fun i => (i.zero, i.size, i.bytes)) = some (some (heldV (false, z32)), 33, 33) := by kernel_rfl
theorem run_make_sec (n : Nat) (hn : n ≤ 2048) (w : World) :
    (Instr.makeSlice 60 (.int .i64 (n : Int)) (.int .i64 (n : Int))).run Try.prog w = .ok (.slice (some ⟨w.heap.size, 0, none⟩) n n) (w.alloc (.cells (fl ((List.replicate n z32).map us)).toArray 66)) := by
  obtain ⟨i, hi, hz, hs, hb⟩ := info_parts info_sec
  have hr := run_make (P := Try.prog) w 60 66 i (secV z32) Try.underlying60 hi hz .i64 .i64 (n : Int) (n : Int) (by omega) (by omega) (by rw [hb]; omega) (by omega)
  simp only [Int.toNat_natCast, hs] at hr
  rw [hr, List.map_replicate]
  have := made_fl (us z32) (by rw [us_len]; decide) n
  rw [show (us z32).length = 32 from rfl] at this
  rw [← this]
  rfl
theorem run_make_hld (n : Nat) (hn : n ≤ 2048) (w : World) :
    (Instr.makeSlice 61 (.int .i64 (n : Int)) (.int .i64 (n : Int))).run Try.prog w = .ok (.slice (some ⟨w.heap.size, 0, none⟩) n n) (w.alloc (.cells (fl ((List.replicate n (false, z32)).map hv)).toArray 68)) := by
  obtain ⟨i, hi, hz, hs, hb⟩ := info_parts info_hld
  have hr := run_make (P := Try.prog) w 61 68 i (heldV (false, z32)) Try.underlying61 hi hz .i64 .i64 (n : Int) (n : Int) (by omega) (by omega) (by rw [hb]; omega) (by omega)
  simp only [Int.toNat_natCast, hs] at hr
  rw [hr, List.map_replicate]
  have := made_fl (hv (false, z32)) (by rw [hv_len]; decide) n
  rw [show (hv (false, z32)).length = 33 from rfl] at this
  rw [← this]
  rfl
theorem blk3_2 (w : World) (a b c : Obj) : blk (((w.alloc a).alloc b).alloc c) (w.heap.size + 1 + 1) = some c := by
  exact blk_alloc_at _ _ _ (by simp)
theorem blk3_1 (w : World) (a b c : Obj) : blk (((w.alloc a).alloc b).alloc c) (w.heap.size + 1) = some b :=
  (blk_alloc_old _ _ _ (by simp)).trans (blk_alloc_at _ _ _ (by simp))
theorem blk3_0 (w : World) (a b c : Obj) : blk (((w.alloc a).alloc b).alloc c) w.heap.size = some a :=
  (blk_alloc_old _ _ _ (by simp; omega)).trans ((blk_alloc_old _ _ _ (by simp)).trans (blk_alloc_at _ _ _ rfl))
def newS (n : Nat) : DS := ⟨List.replicate n z32, List.replicate n (false, z32), -1, 0, false, 0⟩
theorem new_no (m : Int) (hm : ¬ (1 ≤ m ∧ m ≤ 2048)) (w : World) :
    Calls Try.prog 8 #[.int .i64 m] w fun e w' => e = .returned (.tuple #[.pointer none, .int .i64 1]) ∧ w = w' := by
  by_cases h0 : m < 1
  · have d0 : decide (m < 1) = true := decide_eq_true h0
    go_enter Try.func8, Try.ntmps8
    go_wp2
    go_ret2
    exact ⟨rfl, rfl⟩
  · have d0 : decide (m < 1) = false := decide_eq_false h0
    have d1 : decide (2048 < m) = true := decide_eq_true (by omega)
    clear hm
    go_enter Try.func8, Try.ntmps8
    go_wp2
    go_ret2
    exact ⟨rfl, rfl⟩
attribute [local go_sem ↓] run_make_sec run_make_hld
set_option maxHeartbeats 2000000 in
theorem new_any (n : Nat) (hn : 1 ≤ n ∧ n ≤ 2048) (w : World) :
    Calls Try.prog 8 #[.int .i64 n] w fun e w' => (∃ b kg hg, e = .returned (.tuple #[.pointer (some ⟨b, 0, none⟩), .int .i64 0]) ∧ w.heap.size ≤ b ∧ w.heap.size ≤ kg ∧ w.heap.size ≤ hg ∧ Dk w' b kg hg n (newS n)) ∧ Below w.heap.size w w' := by
  have d0 : decide ((n : Int) < 1) = false := decide_eq_false (by omega)
  have d1 : decide ((2048 : Int) < n) = false := decide_eq_false (by omega)
  have hn3 : n ≤ 2048 := hn.2
  have HN := Lib.hid hn
  clear hn
  have kl : (newS n).K.length = n ∧ ∀ l ∈ (newS n).K, l.length = 32 := ⟨by simp [newS], fun l hl => by rw [List.eq_of_mem_replicate hl]; rfl⟩
  have hl : (newS n).H.length = n ∧ ∀ h ∈ (newS n).H, h.2.length = 32 := ⟨by simp [newS], fun l hl => by rw [List.eq_of_mem_replicate hl]; rfl⟩
  have eK : (newS n).K.map us = List.replicate n (us z32) := by simp [newS]
  have eH : (newS n).H.map hv = List.replicate n (hv (false, z32)) := by simp [newS]
  have HKL := Lib.hid kl
  have HHL := Lib.hid hl
  clear kl hl
  go_enter Try.func8, Try.ntmps8
  go_upto_region 3 with (fail)
  go_region
  all_goals go_wp2
  all_goals go_ret2
  · refine ⟨⟨w.heap.size + 1 + 1, w.heap.size, w.heap.size + 1, rfl, by omega, by omega, by omega, ⟨?_, ?_, ?_, HKL.out, HHL.out, HN.out, by omega, by omega, by omega⟩⟩, by repeat' (first | (with_reducible exact Below.refl _ _) | (with_reducible refine Rd.below_step ?_ (by assumption)) | (with_reducible refine Rd.below_alloc ?_ _) | (with_reducible refine Rd.below_drewN ?_ _) | (with_reducible refine Below.drew ?_) | (with_reducible refine Below.setCell ?_ ?_ _) | (with_reducible refine Rd.below_setRow ?_ ?_ _) | go_size | (simp only [World.size_alloc]; omega) | omega)⟩
    · exact blk3_2 _ _ _ _
    · rw [eK]; exact blk3_0 _ _ _ _
    · rw [eH]; exact blk3_1 _ _ _ _
  · refine ⟨⟨w.heap.size + 1 + 1, w.heap.size + 1, w.heap.size, rfl, by omega, by omega, by omega, ⟨?_, ?_, ?_, HKL.out, HHL.out, HN.out, by omega, by omega, by omega⟩⟩, by repeat' (first | (with_reducible exact Below.refl _ _) | (with_reducible refine Rd.below_step ?_ (by assumption)) | (with_reducible refine Rd.below_alloc ?_ _) | (with_reducible refine Rd.below_drewN ?_ _) | (with_reducible refine Below.drew ?_) | (with_reducible refine Below.setCell ?_ ?_ _) | (with_reducible refine Rd.below_setRow ?_ ?_ _) | go_size | (simp only [World.size_alloc]; omega) | omega)⟩
    · exact blk3_2 _ _ _ _
    · rw [eK]; exact blk3_1 _ _ _ _
    · rw [eH]; exact blk3_0 _ _ _ _
/-! a sector of a number -/
def secP (m k : Nat) : List Int := (List.range 32).map fun i => if i < k then (((m * 7 + i) % 256 : Nat) : Int) else 0
def secL (m : Nat) : List Int := (List.range 32).map fun i => (((m * 7 + i) % 256 : Nat) : Int)
theorem secP_len (m k : Nat) : (secP m k).length = 32 := by simp [secP]
theorem secL_len (m : Nat) : (secL m).length = 32 := by simp [secL]
theorem secP_zero (m : Nat) : secP m 0 = z32 := by
  unfold secP z32
  simp
  rfl
theorem secP_all (m : Nat) : secP m 32 = secL m := by
  unfold secP secL
  apply List.map_congr_left
  intro i hi
  rw [if_pos (List.mem_range.1 hi)]
theorem secP_step (m k : Nat) (hk : k < 32) : (secP m k).set k (((m * 7 + k) % 256 : Nat) : Int) = secP m (k + 1) := by
  apply List.ext_getElem
  · simp [secP]
  · intro i h1 h2
    have hi : i < 32 := by rw [secP_len] at h2; exact h2
    have h3 : i < (secP m k).length := by rw [secP_len]; exact hi
    have e0 : (secP m (k + 1))[i] = if i < k + 1 then (((m * 7 + i) % 256 : Nat) : Int) else 0 := by simp [secP]
    have e1 : (secP m k)[i] = if i < k then (((m * 7 + i) % 256 : Nat) : Int) else 0 := by simp [secP]
    refine (List.getElem_set ..).trans (Eq.trans ?_ e0.symm)
    by_cases e : k = i
    · subst e
      rw [if_pos rfl, if_pos (by omega)]
    · rw [if_neg e]
      refine e1.trans ?_
      by_cases e2 : i < k
      · rw [if_pos e2, if_pos (by omega)]
      · rw [if_neg e2, if_neg (by omega)]
theorem run_make_32 (w : World) : (Instr.makeSlice 32 (.int .i64 32) (.int .i64 32)).run Try.prog w = .ok (.slice (some ⟨w.heap.size, 0, none⟩) 32 32) (w.alloc (.cells (us z32).toArray 5)) := by kernel_rfl
attribute [local go_sem ↓] run_make_32
set_option maxHeartbeats 1000000 in
theorem sector_any (m : Nat) (hm : m ≤ 1000) (w : World) :
    Calls Try.prog 10 #[.int .i64 m] w fun e w' => e = .returned (.slice (some ⟨w.heap.size, 0, none⟩) 32 32) ∧ blk w' w.heap.size = some (.cells (us (secL m)).toArray 5 (0, 0)) ∧ Below w.heap.size w w' := by
  go_enter Try.func10, Try.ntmps10
  go_upto_region 2 with (fail)
  refine Rd.name_world ?_
  intro w1 hw
  have bB : blk w1 w.heap.size = some (.cells (us (secP m 0)).toArray 5 (0, 0)) := by rw [hw, secP_zero]; exact blk_alloc_at _ _ _ rfl
  have L1 : Below w.heap.size w w1 := by
    rw [hw]
    repeat' (first | (with_reducible exact Below.refl _ _) | (with_reducible refine Rd.below_step ?_ (by assumption)) | (with_reducible refine Rd.below_alloc ?_ _) | (with_reducible refine Rd.below_drewN ?_ _) | (with_reducible refine Below.drew ?_) | (with_reducible refine Below.setCell ?_ ?_ _) | (with_reducible refine Rd.below_setRow ?_ ?_ _) | go_size | (simp only [World.size_alloc]; omega) | omega)
  have HB := Lib.hid bB
  have HL := Lib.hid L1
  clear hw bB L1
  go_wp2_with fail
  go_loopw [4] (fun i X => ∃ k : Nat, k ≤ 32 ∧ i = .int .i64 k ∧ Hid (blk X w.heap.size = some (.cells (us (secP m k)).toArray 5 (0, 0))) ∧ Hid (Below w.heap.size w X)) (fun i _ => 32 - (intOf i).toNat)
  case atStart => exact ⟨0, by omega, rfl, HB, HL⟩
  case round =>
    clear HB HL
    obtain ⟨k, hk, rfl, HB, HL⟩ := hrel
    rename World => X
    by_cases hlt : k < 32
    · have hlt' : (k : Int) < 32 := by omega
      have hc : X.cell? ⟨w.heap.size, k, none⟩ = some (.int .u8 ((secP m k).getD k 0)) := by
        rw [blk_cell HB.out]
        simp [us, List.getD, secP_len, hlt]
      have hf := blk_frozen HB.out k
      have e1 : ((m : Int) * 7 + (k : Int)) % 256 = (((m * 7 + k) % 256 : Nat) : Int) := by omega
      obtain ⟨v, hv9⟩ : ∃ v, (m * 7 + k) % 256 = v := ⟨_, rfl⟩
      rw [hv9] at e1
      have hstep := secP_step m k hlt
      rw [hv9] at hstep
      have HST := Lib.hid hstep
      have hv10 : v < 256 := by omega
      clear hstep hv9
      go_wp2
      refine ⟨⟨k + 1, by omega, by go_num, Lib.hid ?_, Lib.hid (Below.setCell HL.out (Nat.le_refl _) _)⟩, by simp [intOf]; omega⟩
      have := blk_set X w.heap.size k (.int .u8 v) _ _ HB.out
      refine this.trans ?_
      rw [← HST.out]
      simp [us, List.map_set]
    · obtain rfl : k = 32 := by omega
      have HE : Hid (blk X w.heap.size = some (.cells (us (secL m)).toArray 5 (0, 0))) := Lib.hid (by rw [← secP_all]; exact HB.out)
      go_wp2
      go_ret
      exact ⟨rfl, HE.out, HL.out⟩
/-! as a string -/
theorem str_of {W : World} {g : Nat} {l : List Int} {t : TypeId} {c : Nat} (h : blk W g = some (.cells (us l).toArray t (0, 0))) (hl : l.length = 32) (hb : ∀ z ∈ l, 0 ≤ z ∧ z ≤ 255) :
    (convert 32 9 (.slice (some ⟨g, 0, none⟩) 32 c)).run Try.prog W = .ok (.string (bytesOf l)) W := by
  refine Rd.conv_reads Try.underlying32 Try.underlying5 Try.underlying9 ⟨by simpa using hl, Or.inr ⟨g, 0, rfl, blk_lt h, fun i hi => ?_⟩⟩ hb
  rw [Nat.zero_add, blk_cell h, List.getElem?_toArray]
  rfl
theorem secL_bd (m : Nat) : ∀ z ∈ secL m, 0 ≤ z ∧ z ≤ 255 := fun z hz => by
  obtain ⟨i, -, rfl⟩ := List.mem_map.1 hz
  omega
theorem z32_bd : ∀ z ∈ z32, 0 ≤ z ∧ z ≤ 255 := fun z hz => by rw [List.eq_of_mem_replicate hz]; decide
end Go.Proofs.Ytajoajblmaopjaa.DkD
