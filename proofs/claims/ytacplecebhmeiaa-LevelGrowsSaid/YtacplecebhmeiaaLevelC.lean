/-
  The walks of the laws of package level.
-/
import Derived.Test.YtacplecebhmeiaaLevelB
import Derived.Test.YtacplecebhmeiaaFlat
namespace Go.Proofs.Ytacplecebhmeiaa.LevelC
open Go.RowKit Rd Alk Log Level LevelB
set_option linter.unusedVariables false
set_option linter.unusedSimpArgs false
set_option maxRecDepth 10000

theorem LevelPowers_walk (a0 : Int) (w : World) (w0 : (Lit.int .i64 a0).wf = true) :
    Calls Try.prog 4 #[.int .i64 a0] w fun e w' => e = .returned (.bool true) ∧ Below w.heap.size w w' := by
  obtain ⟨k1, k2⟩ := wf_bd w0
  have hk : a0 % 4 = 0 ∨ a0 % 4 = 1 ∨ a0 % 4 = 2 ∨ a0 % 4 = 3 := by omega
  rcases hk with hk | hk | hk | hk
  · have e1 : ofR 3 (topV 65536 0 0 0) = (0, 0) := by decide
    have e2 : ofR 3 (topV 65535 0 0 0) = (0, 0) := by decide
    go_enter Try.func4, Try.ntmps4
    go_wp2_with fail
    refine (round_any a0 4 _ k1 k2 (by omega) (by omega)).mono ?_
    rintro e w' ⟨rfl, rfl⟩
    try rw [hk]
    go_wp2_with fail
    refine (of_any 3 65536 0 0 0 _ (by decide) (by decide) (by decide) (by decide) (by decide)).mono ?_
    rintro e w1 ⟨rfl, h1⟩
    go_wp2_with fail
    refine (of_any 3 65535 0 0 0 _ (by decide) (by decide) (by decide) (by decide) (by decide)).mono ?_
    rintro e w2 ⟨rfl, h2⟩
    have s2 := h2.size
    simp only [World.size_alloc] at s2
    have n1 : w1.heap.size < w2.heap.size := by omega
    have pa0 : w2.cell? ⟨w1.heap.size, 0, none⟩ = some (.int .i64 0) := by rw [h2.cell (p := ⟨w1.heap.size, 0, none⟩) (by simp)]; go_cell
    have pa1 : w2.cell? ⟨w1.heap.size, 1, none⟩ = some (.int .i64 0) := by rw [h2.cell (p := ⟨w1.heap.size, 1, none⟩) (by simp)]; go_cell
    go_wp2_with (go_at_call 7; refine (awake_any _).mono ?_; rintro e w3 ⟨rfl, h3⟩)
    go_ret
    exact ⟨rfl, by repeat' (first | (with_reducible exact Below.refl _ _) | (with_reducible refine Rd.below_step ?_ (by assumption)) | (with_reducible refine Rd.below_alloc ?_ _) | (with_reducible refine Rd.below_drewN ?_ _) | (with_reducible refine Below.drew ?_) | (with_reducible refine Below.setCell ?_ ?_ _) | go_size)⟩
  · have e1 : ofR 3 (topV 131072 0 0 0) = (1, 0) := by decide
    have e2 : ofR 3 (topV 131071 0 0 0) = (0, 255) := by decide
    go_enter Try.func4, Try.ntmps4
    go_wp2_with fail
    refine (round_any a0 4 _ k1 k2 (by omega) (by omega)).mono ?_
    rintro e w' ⟨rfl, rfl⟩
    try rw [hk]
    go_wp2_with fail
    refine (of_any 3 131072 0 0 0 _ (by decide) (by decide) (by decide) (by decide) (by decide)).mono ?_
    rintro e w1 ⟨rfl, h1⟩
    go_wp2_with fail
    refine (of_any 3 131071 0 0 0 _ (by decide) (by decide) (by decide) (by decide) (by decide)).mono ?_
    rintro e w2 ⟨rfl, h2⟩
    have s2 := h2.size
    simp only [World.size_alloc] at s2
    have n1 : w1.heap.size < w2.heap.size := by omega
    have pa0 : w2.cell? ⟨w1.heap.size, 0, none⟩ = some (.int .i64 1) := by rw [h2.cell (p := ⟨w1.heap.size, 0, none⟩) (by simp)]; go_cell
    have pa1 : w2.cell? ⟨w1.heap.size, 1, none⟩ = some (.int .i64 0) := by rw [h2.cell (p := ⟨w1.heap.size, 1, none⟩) (by simp)]; go_cell
    go_wp2_with (go_at_call 7; refine (awake_any _).mono ?_; rintro e w3 ⟨rfl, h3⟩)
    go_ret
    exact ⟨rfl, by repeat' (first | (with_reducible exact Below.refl _ _) | (with_reducible refine Rd.below_step ?_ (by assumption)) | (with_reducible refine Rd.below_alloc ?_ _) | (with_reducible refine Rd.below_drewN ?_ _) | (with_reducible refine Below.drew ?_) | (with_reducible refine Below.setCell ?_ ?_ _) | go_size)⟩
  · have e1 : ofR 3 (topV 262144 0 0 0) = (2, 0) := by decide
    have e2 : ofR 3 (topV 262143 0 0 0) = (1, 255) := by decide
    go_enter Try.func4, Try.ntmps4
    go_wp2_with fail
    refine (round_any a0 4 _ k1 k2 (by omega) (by omega)).mono ?_
    rintro e w' ⟨rfl, rfl⟩
    try rw [hk]
    go_wp2_with fail
    refine (of_any 3 262144 0 0 0 _ (by decide) (by decide) (by decide) (by decide) (by decide)).mono ?_
    rintro e w1 ⟨rfl, h1⟩
    go_wp2_with fail
    refine (of_any 3 262143 0 0 0 _ (by decide) (by decide) (by decide) (by decide) (by decide)).mono ?_
    rintro e w2 ⟨rfl, h2⟩
    have s2 := h2.size
    simp only [World.size_alloc] at s2
    have n1 : w1.heap.size < w2.heap.size := by omega
    have pa0 : w2.cell? ⟨w1.heap.size, 0, none⟩ = some (.int .i64 2) := by rw [h2.cell (p := ⟨w1.heap.size, 0, none⟩) (by simp)]; go_cell
    have pa1 : w2.cell? ⟨w1.heap.size, 1, none⟩ = some (.int .i64 0) := by rw [h2.cell (p := ⟨w1.heap.size, 1, none⟩) (by simp)]; go_cell
    go_wp2_with (go_at_call 7; refine (awake_any _).mono ?_; rintro e w3 ⟨rfl, h3⟩)
    go_ret
    exact ⟨rfl, by repeat' (first | (with_reducible exact Below.refl _ _) | (with_reducible refine Rd.below_step ?_ (by assumption)) | (with_reducible refine Rd.below_alloc ?_ _) | (with_reducible refine Rd.below_drewN ?_ _) | (with_reducible refine Below.drew ?_) | (with_reducible refine Below.setCell ?_ ?_ _) | go_size)⟩
  · have e1 : ofR 3 (topV 524288 0 0 0) = (3, 0) := by decide
    have e2 : ofR 3 (topV 524287 0 0 0) = (2, 255) := by decide
    go_enter Try.func4, Try.ntmps4
    go_wp2_with fail
    refine (round_any a0 4 _ k1 k2 (by omega) (by omega)).mono ?_
    rintro e w' ⟨rfl, rfl⟩
    try rw [hk]
    go_wp2_with fail
    refine (of_any 3 524288 0 0 0 _ (by decide) (by decide) (by decide) (by decide) (by decide)).mono ?_
    rintro e w1 ⟨rfl, h1⟩
    go_wp2_with fail
    refine (of_any 3 524287 0 0 0 _ (by decide) (by decide) (by decide) (by decide) (by decide)).mono ?_
    rintro e w2 ⟨rfl, h2⟩
    have s2 := h2.size
    simp only [World.size_alloc] at s2
    have n1 : w1.heap.size < w2.heap.size := by omega
    have pa0 : w2.cell? ⟨w1.heap.size, 0, none⟩ = some (.int .i64 3) := by rw [h2.cell (p := ⟨w1.heap.size, 0, none⟩) (by simp)]; go_cell
    have pa1 : w2.cell? ⟨w1.heap.size, 1, none⟩ = some (.int .i64 0) := by rw [h2.cell (p := ⟨w1.heap.size, 1, none⟩) (by simp)]; go_cell
    go_wp2_with (go_at_call 7; refine (awake_any _).mono ?_; rintro e w3 ⟨rfl, h3⟩)
    go_ret
    exact ⟨rfl, by repeat' (first | (with_reducible exact Below.refl _ _) | (with_reducible refine Rd.below_step ?_ (by assumption)) | (with_reducible refine Rd.below_alloc ?_ _) | (with_reducible refine Rd.below_drewN ?_ _) | (with_reducible refine Below.drew ?_) | (with_reducible refine Below.setCell ?_ ?_ _) | go_size)⟩

end Go.Proofs.Ytacplecebhmeiaa.LevelC
