/-
  The document's own queue: who is ahead.
-/
import Derived.Test.YtpbdgkjlmijipaaQuL
namespace Go.Proofs.Ytpbdgkjlmijipaa.QuM
open Go.RowKit Go.Shelf Rd Go.Proofs.Ytpbdgkjlmijipaa.Row Mid PgM PgA PgB PgC QuA QuB QuC QuD QuE QuF QuG QuH QuI QuJ QuK QuL
open Go.Proofs.Ytpbdgkjlmijipaa.Num (ret_int ret_bool)
set_option linter.unusedVariables false
set_option linter.unusedSimpArgs false
set_option maxRecDepth 10000
attribute [local go_sem ↓] load_pg store_pg load_w store_w eq_pg3 eq_w4
attribute [local go_sem] one_int pc3 pc4 pc43 run_load_pg run_store_pg run_load_w run_store_w midLoad_eq rowLoad_eq rowStore_eq blk_alloc_at blk_alloc_old blk_drew blk_drewN blk_set_far blk_set_far' blk_grow setRow_alloc_at setRow_alloc_old setRow_drew setRow_drewN
set_option maxHeartbeats 4000000 in
theorem rahead_any (t most d c : Nat) (ad : Option Addr) (r : PgM.Row) (a0 a1 a2 a3 b0 b1 b2 b3 : Int) (w : World) (hq : Rq w t most d ad c r) :
    Calls Try.prog 29 #[.pointer (some ⟨t, 0, none⟩), .agg #[.int .i64 a0, .int .i64 a1, .int .i64 a2, .int .i64 a3], .agg #[.int .i64 b0, .int .i64 b1, .int .i64 b2, .int .i64 b3]] w fun e w' =>
      e = .returned (.bool (aheadB d [a0, a1, a2, a3] [b0, b1, b2, b3])) ∧ Below w.heap.size w w' := by
  have CA := Lib.hid (fun W => rkey_any d a0 a1 a2 W)
  have CB := Lib.hid (fun W => rkey_any d b0 b1 b2 W)
  have ev : aheadB d [a0, a1, a2, a3] [b0, b1, b2, b3] = if a3 = b3 then decide (keyV d a0 a1 a2 < keyV d b0 b1 b2) else decide (b3 < a3) := rfl
  rw [ev]
  obtain ⟨x, ex⟩ : ∃ z, keyV d a0 a1 a2 = z := ⟨_, rfl⟩
  obtain ⟨y, ey⟩ : ∃ z, keyV d b0 b1 b2 = z := ⟨_, rfl⟩
  rw [ex] at CA ⊢
  rw [ey] at CB ⊢
  clear ex ey ev
  have HQ := Lib.hid hq
  clear hq
  by_cases h3 : a3 = b3
  · subst h3
    rw [if_pos rfl]
    have h1 : decide (a3 < a3) = false := by simp
    have h2 : (a3 == a3) = true := by simp
    go_enter Try.func29, Try.ntmps29
    go_upto_region 1 with (fail)
    refine Rd.name_world ?_
    intro w1 hw
    have bA : blk w1 w.heap.size = some (.cells #[.int .i64 a0, .int .i64 a1, .int .i64 a2, .int .i64 a3] 36 (0, 0)) := by rw [hw]; exact blk2_0 _ _ _
    have bB : blk w1 (w.heap.size + 1) = some (.cells #[.int .i64 b0, .int .i64 b1, .int .i64 b2, .int .i64 a3] 36 (0, 0)) := by rw [hw]; exact blk2_1 _ _ _
    have L1 : Below w.heap.size w w1 := by
      rw [hw]
      repeat' (first | (with_reducible exact Below.refl _ _) | (with_reducible refine Rd.below_step ?_ (by assumption)) | (with_reducible refine Rd.below_alloc ?_ _) | (with_reducible refine Rd.below_drewN ?_ _) | (with_reducible refine Below.drew ?_) | (with_reducible refine Below.setCell ?_ ?_ _) | (with_reducible refine Rd.below_setRow ?_ ?_ _) | go_size | (simp only [World.size_alloc]; omega) | omega)
    clear hw
    have g1 := Go.cell_regrown (show w1.cell? ⟨t, 1, none⟩ = some (.int .i64 d) by rw [blk_cell (HQ.out.bel L1).t]; rfl)
    have gA := Go.cell_regrown (show w1.cell? ⟨w.heap.size, 3, none⟩ = some (.int .i64 a3) by rw [blk_cell bA]; rfl)
    have gB := Go.cell_regrown (show w1.cell? ⟨w.heap.size + 1, 3, none⟩ = some (.int .i64 a3) by rw [blk_cell bB]; rfl)
    have l1 := blk_lt bA
    have l2 := blk_lt bB
    (refine wp_region_quiet_below (by kernel_rfl) (by kernel_rfl) ?_; (repeat (go_big_quiet_step ((first | (with_reducible exact Calls.regrown_of (CA.out _)) | (with_reducible exact Calls.regrown_of (CB.out _)))))); refine wpQuiet_nil ?_)
    intro w2 hU
    have KU := Rd.below_of_regrown hU
    have L2 : Below w.heap.size w w2 := by repeat' (first | (with_reducible exact Below.refl _ _) | (with_reducible refine Rd.below_step ?_ (by assumption)) | (with_reducible refine Rd.below_alloc ?_ _) | (with_reducible refine Rd.below_drewN ?_ _) | (with_reducible refine Below.drew ?_) | (with_reducible refine Below.setCell ?_ ?_ _) | (with_reducible refine Rd.below_setRow ?_ ?_ _) | go_size | (simp only [World.size_alloc]; omega) | omega)
    clear hU KU
    go_wp2
    go_ret
    exact ⟨rfl, L2⟩
  · rw [if_neg h3]
    have h2 : (a3 == b3) = false := by simp [h3]
    have h4 : decide (a3 = b3) = false := by simp [h3]
    by_cases h5 : b3 < a3
    · have h6 : decide (b3 < a3) = true := decide_eq_true h5
      rw [h6]
      go_enter Try.func29, Try.ntmps29
      go_upto_region 1 with (fail)
      refine Rd.name_world ?_
      intro w1 hw
      have bA : blk w1 w.heap.size = some (.cells #[.int .i64 a0, .int .i64 a1, .int .i64 a2, .int .i64 a3] 36 (0, 0)) := by rw [hw]; exact blk2_0 _ _ _
      have bB : blk w1 (w.heap.size + 1) = some (.cells #[.int .i64 b0, .int .i64 b1, .int .i64 b2, .int .i64 b3] 36 (0, 0)) := by rw [hw]; exact blk2_1 _ _ _
      have L1 : Below w.heap.size w w1 := by
        rw [hw]
        repeat' (first | (with_reducible exact Below.refl _ _) | (with_reducible refine Rd.below_step ?_ (by assumption)) | (with_reducible refine Rd.below_alloc ?_ _) | (with_reducible refine Rd.below_drewN ?_ _) | (with_reducible refine Below.drew ?_) | (with_reducible refine Below.setCell ?_ ?_ _) | (with_reducible refine Rd.below_setRow ?_ ?_ _) | go_size | (simp only [World.size_alloc]; omega) | omega)
      clear hw
      have g1 := Go.cell_regrown (show w1.cell? ⟨t, 1, none⟩ = some (.int .i64 d) by rw [blk_cell (HQ.out.bel L1).t]; rfl)
      have gA := Go.cell_regrown (show w1.cell? ⟨w.heap.size, 3, none⟩ = some (.int .i64 a3) by rw [blk_cell bA]; rfl)
      have gB := Go.cell_regrown (show w1.cell? ⟨w.heap.size + 1, 3, none⟩ = some (.int .i64 b3) by rw [blk_cell bB]; rfl)
      have l1 := blk_lt bA
      have l2 := blk_lt bB
      (refine wp_region_quiet_below (by kernel_rfl) (by kernel_rfl) ?_; (repeat (go_big_quiet_step ((first | (with_reducible exact Calls.regrown_of (CA.out _)) | (with_reducible exact Calls.regrown_of (CB.out _)))))); refine wpQuiet_nil ?_)
      intro w2 hU
      have KU := Rd.below_of_regrown hU
      have L2 : Below w.heap.size w w2 := by repeat' (first | (with_reducible exact Below.refl _ _) | (with_reducible refine Rd.below_step ?_ (by assumption)) | (with_reducible refine Rd.below_alloc ?_ _) | (with_reducible refine Rd.below_drewN ?_ _) | (with_reducible refine Below.drew ?_) | (with_reducible refine Below.setCell ?_ ?_ _) | (with_reducible refine Rd.below_setRow ?_ ?_ _) | go_size | (simp only [World.size_alloc]; omega) | omega)
      clear hU KU
      go_wp2
      go_ret
      exact ⟨rfl, L2⟩
    · have h6 : decide (b3 < a3) = false := decide_eq_false h5
      rw [h6]
      go_enter Try.func29, Try.ntmps29
      go_upto_region 1 with (fail)
      refine Rd.name_world ?_
      intro w1 hw
      have bA : blk w1 w.heap.size = some (.cells #[.int .i64 a0, .int .i64 a1, .int .i64 a2, .int .i64 a3] 36 (0, 0)) := by rw [hw]; exact blk2_0 _ _ _
      have bB : blk w1 (w.heap.size + 1) = some (.cells #[.int .i64 b0, .int .i64 b1, .int .i64 b2, .int .i64 b3] 36 (0, 0)) := by rw [hw]; exact blk2_1 _ _ _
      have L1 : Below w.heap.size w w1 := by
        rw [hw]
        repeat' (first | (with_reducible exact Below.refl _ _) | (with_reducible refine Rd.below_step ?_ (by assumption)) | (with_reducible refine Rd.below_alloc ?_ _) | (with_reducible refine Rd.below_drewN ?_ _) | (with_reducible refine Below.drew ?_) | (with_reducible refine Below.setCell ?_ ?_ _) | (with_reducible refine Rd.below_setRow ?_ ?_ _) | go_size | (simp only [World.size_alloc]; omega) | omega)
      clear hw
      have g1 := Go.cell_regrown (show w1.cell? ⟨t, 1, none⟩ = some (.int .i64 d) by rw [blk_cell (HQ.out.bel L1).t]; rfl)
      have gA := Go.cell_regrown (show w1.cell? ⟨w.heap.size, 3, none⟩ = some (.int .i64 a3) by rw [blk_cell bA]; rfl)
      have gB := Go.cell_regrown (show w1.cell? ⟨w.heap.size + 1, 3, none⟩ = some (.int .i64 b3) by rw [blk_cell bB]; rfl)
      have l1 := blk_lt bA
      have l2 := blk_lt bB
      (refine wp_region_quiet_below (by kernel_rfl) (by kernel_rfl) ?_; (repeat (go_big_quiet_step ((first | (with_reducible exact Calls.regrown_of (CA.out _)) | (with_reducible exact Calls.regrown_of (CB.out _)))))); refine wpQuiet_nil ?_)
      intro w2 hU
      have KU := Rd.below_of_regrown hU
      have L2 : Below w.heap.size w w2 := by repeat' (first | (with_reducible exact Below.refl _ _) | (with_reducible refine Rd.below_step ?_ (by assumption)) | (with_reducible refine Rd.below_alloc ?_ _) | (with_reducible refine Rd.below_drewN ?_ _) | (with_reducible refine Below.drew ?_) | (with_reducible refine Below.setCell ?_ ?_ _) | (with_reducible refine Rd.below_setRow ?_ ?_ _) | go_size | (simp only [World.size_alloc]; omega) | omega)
      clear hU KU
      go_wp2
      go_ret
      exact ⟨rfl, L2⟩
end Go.Proofs.Ytpbdgkjlmijipaa.QuM
