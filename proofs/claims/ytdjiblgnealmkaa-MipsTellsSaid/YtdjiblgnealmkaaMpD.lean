/-
  May: of both.
-/
import Derived.Test.YtdjiblgnealmkaaMpC
namespace Go.Proofs.Ytdjiblgnealmkaa.MpD
open Go.RowKit Rd Go.Proofs.Ytdjiblgnealmkaa.Row Mid DkM HueA MpM MpA MpB MpC
set_option linter.unusedVariables false
set_option linter.unusedSimpArgs false
set_option maxRecDepth 10000
/-- a texture of this depth may have so many texels -/
def mayT (D : Int) (n : Nat) : Bool := decide (0 ≤ D ∧ D ≤ 3 ∧ n = sd D.toNat * sd D.toNat)
theorem sd_mul {D : Nat} (h : D ≤ 3) : (sd D : Int) * (sd D : Int) = ((sd D * sd D : Nat) : Int) := by push_cast; rfl
set_option maxHeartbeats 8000000 in
theorem May_any (D : Int) (wr : Bool) (ad : Option Addr) (n c : Nat) (w : World) :
    Calls Try.prog 14 #[.agg #[.int .i64 D, .bool wr, .slice ad n c]] w fun e w' => e = .returned (.bool (mayT D n)) ∧ Below w.heap.size w w' := by
  obtain ⟨R, hR⟩ : ∃ R, mayT D n = R := ⟨_, rfl⟩
  rw [hR]
  by_cases h0 : D < 0
  · have hr : R = false := by rw [← hR]; exact decide_eq_false (by omega)
    subst hr
    have d0 : decide (0 ≤ D) = false := decide_eq_false (by omega)
    clear hR
    go_enter Try.func14, Try.ntmps14
    go_upto_region 1 with (fail)
    refine Rd.name_world ?_
    intro W hW
    have L : Below w.heap.size w W := by rw [hW]; repeat' (first | (with_reducible exact Below.refl _ _) | (with_reducible refine Rd.below_step ?_ (by assumption)) | (with_reducible refine Rd.below_alloc ?_ _) | (with_reducible refine Rd.below_drewN ?_ _) | (with_reducible refine Below.drew ?_) | (with_reducible refine Below.setCell ?_ ?_ _) | (with_reducible refine Rd.below_setRow ?_ ?_ _) | go_size | (simp only [World.size_alloc]; omega) | omega)
    have c0 := Go.cell_regrown (w := W) (a := ⟨w.heap.size, 0, none⟩) (v := .int .i64 D) (by rw [hW]; first | (rw [blk_cell (blk_alloc_at _ _ _ rfl)]; rfl) | simp)
    clear hW
    (refine wp_region_quiet_below (by kernel_rfl) (by kernel_rfl) ?_; (repeat (go_big_quiet_step ((fail)))); refine wpQuiet_nil ?_)
    rintro w3 hU
    have KU := Rd.below_of_regrown hU
    go_wp2
    go_ret
    exact ⟨rfl, by repeat' (first | (with_reducible exact Below.refl _ _) | (with_reducible refine Rd.below_step ?_ (by assumption)) | (with_reducible refine Rd.below_alloc ?_ _) | (with_reducible refine Rd.below_drewN ?_ _) | (with_reducible refine Below.drew ?_) | (with_reducible refine Below.setCell ?_ ?_ _) | (with_reducible refine Rd.below_setRow ?_ ?_ _) | go_size | (simp only [World.size_alloc]; omega) | omega)⟩
  · obtain ⟨d, rfl⟩ : ∃ d : Nat, D = d := ⟨D.toNat, by omega⟩
    have hd0 : (0 : Int) ≤ (d : Int) := by omega
    by_cases h1 : (3 : Int) < d
    · have hr : R = false := by rw [← hR]; exact decide_eq_false (by omega)
      subst hr
      have d1 : decide ((d : Int) ≤ 3) = false := decide_eq_false (by omega)
      clear hR
      go_enter Try.func14, Try.ntmps14
      go_upto_region 1 with (fail)
      refine Rd.name_world ?_
      intro W hW
      have L : Below w.heap.size w W := by rw [hW]; repeat' (first | (with_reducible exact Below.refl _ _) | (with_reducible refine Rd.below_step ?_ (by assumption)) | (with_reducible refine Rd.below_alloc ?_ _) | (with_reducible refine Rd.below_drewN ?_ _) | (with_reducible refine Below.drew ?_) | (with_reducible refine Below.setCell ?_ ?_ _) | (with_reducible refine Rd.below_setRow ?_ ?_ _) | go_size | (simp only [World.size_alloc]; omega) | omega)
      have c0 := Go.cell_regrown (w := W) (a := ⟨w.heap.size, 0, none⟩) (v := .int .i64 d) (by rw [hW]; first | (rw [blk_cell (blk_alloc_at _ _ _ rfl)]; rfl) | simp)
      clear hW
      (refine wp_region_quiet_below (by kernel_rfl) (by kernel_rfl) ?_; (repeat (go_big_quiet_step ((fail)))); refine wpQuiet_nil ?_)
      rintro w3 hU
      have KU := Rd.below_of_regrown hU
      go_wp2
      go_ret
      exact ⟨rfl, by repeat' (first | (with_reducible exact Below.refl _ _) | (with_reducible refine Rd.below_step ?_ (by assumption)) | (with_reducible refine Rd.below_alloc ?_ _) | (with_reducible refine Rd.below_drewN ?_ _) | (with_reducible refine Below.drew ?_) | (with_reducible refine Below.setCell ?_ ?_ _) | (with_reducible refine Rd.below_setRow ?_ ?_ _) | go_size | (simp only [World.size_alloc]; omega) | omega)⟩
    · have hd3 : d ≤ 3 := by omega
      have d1 : decide ((d : Int) ≤ 3) = true := decide_eq_true (by omega)
      obtain ⟨s, hs⟩ : ∃ s, sd d = s := ⟨_, rfl⟩
      have hs2 : s ≤ 32 := by rw [← hs]; exact sd_le hd3
      have CS : ∀ X : World, Calls Try.prog 44 #[.int .i64 d] X fun e w' => e = .returned (.int .i64 s) ∧ X = w' := fun X => by rw [← hs]; exact size_any d X hd3
      have CH := Lib.hid CS
      obtain ⟨q, hq⟩ : ∃ q, s * s = q := ⟨_, rfl⟩
      have hq1 : (s : Int) * (s : Int) = (q : Int) := by exact_mod_cast hq
      have hq2 : q ≤ 1024 := by rw [← hq]; exact sq_le hs2
      have hr : R = decide ((n : Int) = q) := by
        rw [← hR]
        unfold mayT
        rw [Int.toNat_natCast, hs, hq]
        exact decide_eq_decide.2 ⟨fun h => by omega, fun h => by omega⟩
      have HR := Lib.hid hr
      clear hR hr hs hq CS h0 h1
      go_enter Try.func14, Try.ntmps14
      go_upto_region 1 with (fail)
      refine Rd.name_world ?_
      intro W hW
      have L : Below w.heap.size w W := by rw [hW]; repeat' (first | (with_reducible exact Below.refl _ _) | (with_reducible refine Rd.below_step ?_ (by assumption)) | (with_reducible refine Rd.below_alloc ?_ _) | (with_reducible refine Rd.below_drewN ?_ _) | (with_reducible refine Below.drew ?_) | (with_reducible refine Below.setCell ?_ ?_ _) | (with_reducible refine Rd.below_setRow ?_ ?_ _) | go_size | (simp only [World.size_alloc]; omega) | omega)
      have c0 := Go.cell_regrown (w := W) (a := ⟨w.heap.size, 0, none⟩) (v := .int .i64 d) (by rw [hW]; first | (rw [blk_cell (blk_alloc_at _ _ _ rfl)]; rfl) | simp)
      have c2 := Go.cell_regrown (w := W) (a := ⟨w.heap.size, 2, none⟩) (v := .slice ad n c) (by rw [hW]; first | (rw [blk_cell (blk_alloc_at _ _ _ rfl)]; rfl) | simp)
      clear hW
      (refine wp_region_quiet_below (by kernel_rfl) (by kernel_rfl) ?_; (repeat (go_big_quiet_step ((exact reg_of_eq (CH.out _))))); refine wpQuiet_nil ?_)
      rintro w3 hU
      have KU := Rd.below_of_regrown hU
      go_wp2
      go_ret
      exact ⟨by rw [HR.out]; first | rfl | (simp; done) | (congr 2; exact decide_eq_decide.2 ⟨fun h => by omega, fun h => by omega⟩), by repeat' (first | (with_reducible exact Below.refl _ _) | (with_reducible refine Rd.below_step ?_ (by assumption)) | (with_reducible refine Rd.below_alloc ?_ _) | (with_reducible refine Rd.below_drewN ?_ _) | (with_reducible refine Below.drew ?_) | (with_reducible refine Below.setCell ?_ ?_ _) | (with_reducible refine Rd.below_setRow ?_ ?_ _) | go_size | (simp only [World.size_alloc]; omega) | omega)⟩
end Go.Proofs.Ytdjiblgnealmkaa.MpD
