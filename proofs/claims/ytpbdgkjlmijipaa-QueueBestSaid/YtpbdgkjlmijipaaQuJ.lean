/-
  The queue: a new one; what is refused; Pop.
-/
import Derived.Test.YtpbdgkjlmijipaaQuI
namespace Go.Proofs.Ytpbdgkjlmijipaa.QuJ
open Go.RowKit Go.Shelf Rd Go.Proofs.Ytpbdgkjlmijipaa.Row Mid PgM PgA PgB PgC QuA QuB QuC QuD QuE QuF QuG QuH QuI
open Go.Proofs.Ytpbdgkjlmijipaa.Num (ret_int ret_bool)
set_option linter.unusedVariables false
set_option linter.unusedSimpArgs false
set_option maxRecDepth 10000
attribute [local go_sem high] run_maxT
attribute [local go_sem ↓] load_pg store_pg load_w store_w eq_pg3 eq_w4
attribute [local go_sem] one_int pc3 pc4 pc43 run_load_pg run_store_pg run_load_w run_store_w midLoad_eq rowLoad_eq rowStore_eq blk_alloc_at blk_alloc_old blk_drew blk_drewN blk_set_far blk_set_far' blk_grow setRow_alloc_at setRow_alloc_old setRow_drew setRow_drewN
/-! New -/
theorem count_no {d : Int} (h : ¬ (0 ≤ d ∧ d ≤ 3)) : countV d = 0 := by unfold countV; rw [if_neg]; intro e; exact h (depth_yes e)
theorem count_yes {d : Int} (h : 0 ≤ d ∧ d ≤ 3) : countV d ≠ 0 := by
  have : d = 0 ∨ d = 1 ∨ d = 2 ∨ d = 3 := by omega
  rcases this with rfl | rfl | rfl | rfl <;> decide +kernel
theorem new_any (m d : Nat) (hm : 1 ≤ m ∧ m ≤ 128) (hd : d ≤ 3) (w : World) :
    Calls Try.prog 7 #[.int .i64 m, .int .i64 d] w fun e w' => (∃ t, e = .returned (.tuple #[.pointer (some ⟨t, 0, none⟩), .int .i64 0]) ∧ w.heap.size ≤ t ∧ Qu w' t 0 m d (.slice none 0 0) []) ∧ Below w.heap.size w w' := by
  have hc := count_yes (d := (d : Int)) ⟨by omega, by omega⟩
  have CN : Hid (∀ X : World, Calls Try.prog 19 #[.int .i64 d] X fun e w' => e = .returned (.int .i64 (countV d)) ∧ Below X.heap.size X w') := fun X => count_any d X
  obtain ⟨z, ez⟩ : ∃ z, countV (d : Int) = z := ⟨_, rfl⟩
  rw [ez] at hc CN
  clear ez
  have h1 : ¬ ((m : Int) < 1) := by omega
  have h2 : ¬ ((128 : Int) < m) := by omega
  have h1n : decide (m < 1) = false := by simp; omega
  have h2n : decide (128 < m) = false := by simp; omega
  have hz : (z == 0) = false := by simp [hc]
  have hz2 : decide (z = 0) = false := by simp [hc]
  go_enter Try.func7, Try.ntmps7
  go_wp2_with fail
  refine (CN.out _).mono ?_
  rintro e w1 ⟨rfl, hb1⟩
  go_wp2
  go_ret2
  refine ⟨⟨w1.heap.size, rfl, hb1.size, blk_alloc_at _ _ _ rfl, World.ownsRow_nil _ _ _ _, fun v hv => absurd hv (by simp)⟩, hb1.alloc hb1.size _⟩
theorem new_no (m d : Int) (hm : ¬ (1 ≤ m ∧ m ≤ 128 ∧ 0 ≤ d ∧ d ≤ 3)) (w : World) :
    Calls Try.prog 7 #[.int .i64 m, .int .i64 d] w fun e w' => e = .returned (.tuple #[.pointer none, .int .i64 1]) ∧ Below w.heap.size w w' := by
  by_cases h1 : m < 1
  · have h1b : decide (m < 1) = true := decide_eq_true h1
    go_enter Try.func7, Try.ntmps7
    go_wp2
    go_ret2
    exact ⟨rfl, Below.refl _ _⟩
  · by_cases h2 : 128 < m
    · have h1b : decide (m < 1) = false := decide_eq_false h1
      have h2b : decide (128 < m) = true := decide_eq_true h2
      go_enter Try.func7, Try.ntmps7
      go_wp2
      go_ret2
      exact ⟨rfl, Below.refl _ _⟩
    · have h1b : decide (m < 1) = false := decide_eq_false h1
      have h2b : decide (128 < m) = false := decide_eq_false h2
      have CN : Hid (∀ X : World, Calls Try.prog 19 #[.int .i64 d] X fun e w' => e = .returned (.int .i64 0) ∧ Below X.heap.size X w') := fun X => by
        have := count_any d X
        rw [count_no (d := d) (fun h => hm ⟨by omega, by omega, h.1, h.2⟩)] at this
        exact this
      go_enter Try.func7, Try.ntmps7
      go_wp2_with fail
      refine (CN.out _).mono ?_
      rintro e w1 ⟨rfl, hb1⟩
      go_wp2
      go_ret2
      exact ⟨rfl, hb1⟩
/-! Add, refused -/
set_option maxHeartbeats 2000000 in
theorem add_no (t most d : Nat) (v : Value) (r : PgM.Row) (L X0 Y0 n : Int) (w : World) (hq : Qu w t 0 most d v r) (hv : ¬ (validB d L X0 Y0 = true ∧ 1 ≤ n)) :
    Calls Try.prog 12 #[.pointer (some ⟨t, 0, none⟩), .agg #[.int .i64 L, .int .i64 X0, .int .i64 Y0], .int .i64 n] w fun e w' => e = .returned (.tuple #[.slice none 0 0, .int .i64 1]) ∧ Below w.heap.size w w' := by
  obtain ⟨q, eq⟩ : ∃ q, validB d L X0 Y0 = q := ⟨_, rfl⟩
  have CV : Hid (∀ X : World, Calls Try.prog 24 #[.int .i64 d, .agg #[.int .i64 L, .int .i64 X0, .int .i64 Y0]] X fun e w' => e = .returned (.bool q) ∧ Below X.heap.size X w') := fun X => by
    have := valid_any d L X0 Y0 X
    rw [eq] at this
    exact this
  have hn : q = true → n < 1 := fun e => Classical.byContradiction fun h => hv ⟨eq.trans e, by omega⟩
  clear eq hv
  have HQ := Lib.hid hq
  clear hq
  go_enter Try.func12, Try.ntmps12
  go_upto_region 1 with (fail)
  refine Rd.name_world ?_
  intro w1 hw
  have bP : blk w1 w.heap.size = some (.cells #[.int .i64 L, .int .i64 X0, .int .i64 Y0] 24 (0, 0)) := by rw [hw]; exact blk_alloc_at _ _ _ rfl
  have L1 : Below w.heap.size w w1 := by
    rw [hw]
    repeat' (first | (with_reducible exact Below.refl _ _) | (with_reducible refine Rd.below_step ?_ (by assumption)) | (with_reducible refine Rd.below_alloc ?_ _) | (with_reducible refine Rd.below_drewN ?_ _) | (with_reducible refine Below.drew ?_) | (with_reducible refine Below.setCell ?_ ?_ _) | (with_reducible refine Rd.below_setRow ?_ ?_ _) | go_size | (simp only [World.size_alloc]; omega) | omega)
  clear hw
  have lP := blk_lt bP
  have g1 := Go.cell_regrown (HQ.out.bel L1).c1
  cases q
  case false =>
    clear hn
    (refine wp_region_quiet_below (by kernel_rfl) (by kernel_rfl) ?_; (repeat (go_big_quiet_step ((with_reducible exact Calls.regrown_of (CV.out _))))); refine wpQuiet_nil ?_)
    intro w2 hU
    have KU := Rd.below_of_regrown hU
    have L2 : Below w.heap.size w w2 := by repeat' (first | (with_reducible exact Below.refl _ _) | (with_reducible refine Rd.below_step ?_ (by assumption)) | (with_reducible refine Rd.below_alloc ?_ _) | (with_reducible refine Rd.below_drewN ?_ _) | (with_reducible refine Below.drew ?_) | (with_reducible refine Below.setCell ?_ ?_ _) | (with_reducible refine Rd.below_setRow ?_ ?_ _) | go_size | (simp only [World.size_alloc]; omega) | omega)
    clear hU KU g1 L1 bP lP CV
    go_wp2
    go_ret2
    exact ⟨rfl, L2⟩
  case true =>
    have hn0 := hn rfl
    have hn1 : decide (n < 1) = true := decide_eq_true hn0
    clear hn
    (refine wp_region_quiet_below (by kernel_rfl) (by kernel_rfl) ?_; (repeat (go_big_quiet_step ((with_reducible exact Calls.regrown_of (CV.out _))))); refine wpQuiet_nil ?_)
    intro w2 hU
    have KU := Rd.below_of_regrown hU
    have L2 : Below w.heap.size w w2 := by repeat' (first | (with_reducible exact Below.refl _ _) | (with_reducible refine Rd.below_step ?_ (by assumption)) | (with_reducible refine Rd.below_alloc ?_ _) | (with_reducible refine Rd.below_drewN ?_ _) | (with_reducible refine Below.drew ?_) | (with_reducible refine Below.setCell ?_ ?_ _) | (with_reducible refine Rd.below_setRow ?_ ?_ _) | go_size | (simp only [World.size_alloc]; omega) | omega)
    clear hU KU g1 L1 bP lP CV
    go_wp2
    go_ret2
    exact ⟨rfl, L2⟩
end Go.Proofs.Ytpbdgkjlmijipaa.QuJ
