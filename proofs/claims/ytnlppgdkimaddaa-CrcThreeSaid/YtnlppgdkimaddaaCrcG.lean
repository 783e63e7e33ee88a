/-
  Of any bytes the sum is the document's; in two parts it goes on.
-/
import Derived.Test.YtnlppgdkimaddaaCrcE
import Derived.Test.YtnlppgdkimaddaaAlike
import Derived.Test.YtnlppgdkimaddaaBytes
namespace Go.Proofs.Ytnlppgdkimaddaa.CrcG
open Go.RowKit Rd Go.Proofs.Ytnlppgdkimaddaa.Row CrcA CrcB CrcC CrcD CrcE Alk
open Go.Proofs.Ytnlppgdkimaddaa.Pred (Is is_stab Stab)
set_option linter.unusedVariables false
set_option linter.unusedSimpArgs false
set_option maxRecDepth 100000
attribute [local go_sem ↓] load_tbl store_tbl alloc_tbl
attribute [local go_sem] run_alloc_tbl run_load_tbl run_store_tbl rowLoad_eq rowStore_eq blk_alloc_at blk_alloc_old blk_drew blk_drewN blk_set_far blk_set_far' blk_grow setRow_alloc_at setRow_alloc_old setRow_drew setRow_drewN all_map one_int


theorem onF_append (c : Nat) (xs ys : List Int) : onF c (xs ++ ys) = onF (onF c xs) ys := by unfold onF; rw [List.foldl_append]
theorem onV_lt {zs : List Int} (s : Nat) (h : B8s zs) (hs : s < 4294967296) : onV s zs < 4294967296 := by
  unfold onV
  omega
theorem onV_parts {zs : List Int} (k s : Nat) (h : B8s zs) (hs : s < 4294967296) : onV (onV s (zs.take k)) (zs.drop k) = onV s zs := by
  have h1 := onF_lt (zs.take k) (4294967295 - s) (fun z hz => h z (List.mem_of_mem_take hz)) (by omega)
  conv => rhs; unfold onV; rw [← List.take_append_drop k zs, onF_append]
  unfold onV
  rw [show 4294967295 - (4294967295 - onF (4294967295 - s) (zs.take k)) = onF (4294967295 - s) (zs.take k) by omega]

set_option maxHeartbeats 4000000 in
theorem CrcTells_walk (a0 : Option Addr) (len0 cap0 : Nat) (x0 : List (List Value)) (a1 : Int) (a2 : Int) (w : World) (w0 : Flat.IsRows [some .u8] w a0 len0 cap0 x0) (w1 : (Lit.int .i64 a1).wf = true) (w2 : (Lit.int .u32 a2).wf = true) :
    Calls Try.prog 3 #[.slice a0 len0 cap0, .int .i64 a1, .int .u32 a2] w fun e w' => e = .returned (.bool true) ∧ Below w.heap.size w w' := by
  obtain ⟨zs, hzl, hz, hR, hlc, hcm, hcase⟩ := Bytes.rows_bytes w0
  clear w0
  unfold maxLen at hcm
  by_cases hbig : 2000 < len0
  · have hbig' : (2000 : Int) < (len0 : Int) := by omega
    clear hzl
    go_enter Try.func3, Try.ntmps3
    go_wp2_with (go_at_call 7; refine (awake_any _).mono ?_; rintro e w3 ⟨rfl, hb⟩)
    go_ret
    exact ⟨rfl, by repeat' (first | (with_reducible exact Below.refl _ _) | (with_reducible refine Rd.below_step ?_ (by assumption)) | (with_reducible refine Rd.below_alloc ?_ _) | (with_reducible refine Rd.below_drewN ?_ _) | (with_reducible refine Below.drew ?_) | (with_reducible refine Below.setCell ?_ ?_ _) | (with_reducible refine Rd.below_setRow ?_ ?_ _) | go_size | (simp only [World.size_alloc]; omega) | omega)⟩
  have hsm : ¬ (2000 : Int) < (len0 : Int) := by omega
  have hwf := bounds_i64 w1
  obtain ⟨s, hs0⟩ := Int.eq_ofNat_of_zero_le (bounds_u32 w2).1
  have hs : s < 4294967296 := by have := (bounds_u32 w2).2; omega
  subst hs0
  obtain ⟨K, hK⟩ := Int.eq_ofNat_of_zero_le (show 0 ≤ a1 % ((len0 : Int) + 1) from Int.emod_nonneg _ (by omega))
  have hK2 : K ≤ len0 := by have := Int.emod_lt_of_pos a1 (show 0 < (len0 : Int) + 1 by omega); omega
  have HK := Lib.hid hK
  have HZL := Lib.hid hzl
  have HZ := Lib.hid hz
  have HR := Lib.hid hR
  have HP := Lib.hid (onV_parts K 0 hz (by omega))
  have hZt : B8s (zs.take K) := fun z hz' => hz z (List.mem_of_mem_take hz')
  have hZd : B8s (zs.drop K) := fun z hz' => hz z (List.mem_of_mem_drop hz')
  have HZt := Lib.hid hZt
  have HZd := Lib.hid hZd
  have hlt := onV_lt 0 hZt (by omega)
  clear hK hzl hz hR w1 w2 hZt hZd
  have hl := tblL_len
  go_enter Try.func3, Try.ntmps3
  go_wp2_with fail
  refine (make_any _).mono ?_
  rintro e w1 ⟨rfl, hb1⟩
  have s1 := hb1.size
  go_wp2_with fail
  refine (round_any a1 ((len0 : Int) + 1) _ (by omega) (by omega) (by omega) (by omega)).mono ?_
  rintro e w2 ⟨rfl, rfl⟩
  rw [HK.out]
  clear hwf
  go_upto_region 5 with (fail)
  refine Rd.name_world ?_
  intro W hW
  have T0 : blk W w1.heap.size = some (.cells (cs .u32 tblL) 26 (0, 0)) := by rw [hW]; exact blk_alloc_at _ _ _ rfl
  have lT := blk_lt T0
  have L1 : Below w.heap.size w W := by rw [hW]; repeat' (first | (with_reducible exact Below.refl _ _) | (with_reducible refine Rd.below_step ?_ (by assumption)) | (with_reducible refine Rd.below_alloc ?_ _) | (with_reducible refine Rd.below_drewN ?_ _) | (with_reducible refine Below.drew ?_) | (with_reducible refine Below.setCell ?_ ?_ _) | (with_reducible refine Rd.below_setRow ?_ ?_ _) | go_size | (simp only [World.size_alloc]; omega) | omega)
  clear hW hb1
  have RW : ∀ X, Below W.heap.size W X → Reads X 1 a0 len0 (u8s zs) := fun X hX => HR.out.below (L1.trans (hX.mono L1.size)) (Nat.le_refl _)
  have RWH := Lib.hid RW
  clear RW
  have hK3 : (K : Int) ≤ (cap0 : Int) := by omega
  have hK4 : (K : Int) ≤ (len0 : Int) := by omega
  have hP := HP.out
  rcases hcase with ⟨rfl, rfl⟩ | ⟨b, off, rfl, hb⟩
  · obtain rfl : K = 0 := by omega
    obtain rfl : zs = [] := List.eq_nil_of_length_eq_zero HZL.out
    simp only [List.take_nil, List.drop_nil] at HZt HZd hlt hP
    refine wp_region_quiet_below (by kernel_rfl) (by kernel_rfl) ?_
    (try simp only [List.append_eq, List.cons_append, List.nil_append])
    repeat (go_big_quiet_step ((first
      | (go_at_call 10; exact Calls.regrown_of (of_any _ _ _ [] _ (RWH.out _ (below_regrown _ _ _)) HZ.out (by omega)))
      | (go_at_call 11; exact Calls.regrown_of (rcrc_any _ _ _ [] _ (RWH.out _ (below_regrown _ _ _)) HZ.out (by omega)))
      | (go_at_call 10; exact Calls.regrown_of (of_any _ _ _ [] _ (RWH.out _ (below_regrown _ _ _)) HZ.out (by omega)))
      | (go_at_call 12; exact Calls.regrown_of (on_any _ _ _ _ [] _ hlt ⟨rfl, .inl rfl⟩ HZ.out (by omega)))
      | (go_at_call 12; exact Calls.regrown_of (on_any _ _ _ _ [] _ hs (RWH.out _ (below_regrown _ _ _)) HZ.out (by omega)))
      | (go_at_call 13; exact Calls.regrown_of (rcrcOn_any _ _ _ _ [] _ hs (RWH.out _ (below_regrown _ _ _)) HZ.out (by omega)))
      | (go_at_call 7; exact Calls.regrown_of (awake_any _)))))
    refine wpQuiet_nil ?_
    intro U hU
    have hb4 := Rd.below_of_regrown hU
    clear hU
    go_wp2_with fail
    go_ret
    exact ⟨rfl, by repeat' (first | (with_reducible exact Below.refl _ _) | (with_reducible refine Rd.below_step ?_ (by assumption)) | (with_reducible refine Rd.below_alloc ?_ _) | (with_reducible refine Rd.below_drewN ?_ _) | (with_reducible refine Below.drew ?_) | (with_reducible refine Below.setCell ?_ ?_ _) | (with_reducible refine Rd.below_setRow ?_ ?_ _) | go_size | (simp only [World.size_alloc]; omega) | omega)⟩

  · by_cases hcK : cap0 = K
    · subst hcK
      obtain rfl : len0 = cap0 := by omega
      rw [show zs.drop len0 = [] by have := HZL.out; exact List.drop_eq_nil_of_le (by omega), show zs.take len0 = zs by have := HZL.out; exact List.take_of_length_le (by omega)] at hP
      rw [show zs.take len0 = zs by have := HZL.out; exact List.take_of_length_le (by omega)] at hlt
      have HN : B8s [] := fun z hz => by cases hz
      refine wp_region_quiet_below (by kernel_rfl) (by kernel_rfl) ?_
      (try simp only [List.append_eq, List.cons_append, List.nil_append])
      repeat (go_big_quiet_step ((first
        | (go_at_call 10; exact Calls.regrown_of (of_any _ _ _ zs _ (RWH.out _ (below_regrown _ _ _)) HZ.out (by omega)))
        | (go_at_call 11; exact Calls.regrown_of (rcrc_any _ _ _ zs _ (RWH.out _ (below_regrown _ _ _)) HZ.out (by omega)))
        | (go_at_call 10; exact Calls.regrown_of (of_any _ _ _ (zs.take K) _ (Bytes.Reads.take (RWH.out _ (below_regrown _ _ _)) hK2) HZt.out (by omega)))
        | (go_at_call 12; exact Calls.regrown_of (on_any _ _ _ _ [] _ hlt ⟨rfl, .inl rfl⟩ HN (by omega)))
        | (go_at_call 12; exact Calls.regrown_of (on_any _ _ _ _ zs _ hs (RWH.out _ (below_regrown _ _ _)) HZ.out (by omega)))
        | (go_at_call 13; exact Calls.regrown_of (rcrcOn_any _ _ _ _ zs _ hs (RWH.out _ (below_regrown _ _ _)) HZ.out (by omega)))
        | (go_at_call 7; exact Calls.regrown_of (awake_any _)))))
      refine wpQuiet_nil ?_
      intro U hU
      have hb4 := Rd.below_of_regrown hU
      clear hU
      go_wp2_with fail
      go_ret
      exact ⟨rfl, by repeat' (first | (with_reducible exact Below.refl _ _) | (with_reducible refine Rd.below_step ?_ (by assumption)) | (with_reducible refine Rd.below_alloc ?_ _) | (with_reducible refine Rd.below_drewN ?_ _) | (with_reducible refine Below.drew ?_) | (with_reducible refine Below.setCell ?_ ?_ _) | (with_reducible refine Rd.below_setRow ?_ ?_ _) | go_size | (simp only [World.size_alloc]; omega) | omega)⟩

    · have hcK2 : K < cap0 := by omega
      refine wp_region_quiet_below (by kernel_rfl) (by kernel_rfl) ?_
      (try simp only [List.append_eq, List.cons_append, List.nil_append])
      repeat (go_big_quiet_step ((first
        | (with_reducible exact Calls.regrown_of (of_any _ _ _ zs _ (RWH.out _ (below_regrown _ _ _)) HZ.out (by omega)))
        | (with_reducible exact Calls.regrown_of (rcrc_any _ _ _ zs _ (RWH.out _ (below_regrown _ _ _)) HZ.out (by omega)))
        | (with_reducible exact Calls.regrown_of (of_any _ _ _ (zs.take K) _ (Bytes.Reads.take (RWH.out _ (below_regrown _ _ _)) hK2) HZt.out (by omega)))
        | (with_reducible exact Calls.regrown_of (on_any _ _ _ _ (zs.drop K) _ hlt (Bytes.Reads.drop (RWH.out _ (below_regrown _ _ _)) hK2) HZd.out (by omega)))
        | (with_reducible exact Calls.regrown_of (on_any _ _ _ _ zs _ hs (RWH.out _ (below_regrown _ _ _)) HZ.out (by omega)))
        | (with_reducible exact Calls.regrown_of (rcrcOn_any _ _ _ _ zs _ hs (RWH.out _ (below_regrown _ _ _)) HZ.out (by omega)))
        | (go_at_call 7; exact Calls.regrown_of (awake_any _)))))
      refine wpQuiet_nil ?_
      intro U hU
      have hb4 := Rd.below_of_regrown hU
      clear hU
      go_wp2_with fail
      go_ret
      exact ⟨rfl, by repeat' (first | (with_reducible exact Below.refl _ _) | (with_reducible refine Rd.below_step ?_ (by assumption)) | (with_reducible refine Rd.below_alloc ?_ _) | (with_reducible refine Rd.below_drewN ?_ _) | (with_reducible refine Below.drew ?_) | (with_reducible refine Below.setCell ?_ ?_ _) | (with_reducible refine Rd.below_setRow ?_ ?_ _) | go_size | (simp only [World.size_alloc]; omega) | omega)⟩
end Go.Proofs.Ytnlppgdkimaddaa.CrcG
