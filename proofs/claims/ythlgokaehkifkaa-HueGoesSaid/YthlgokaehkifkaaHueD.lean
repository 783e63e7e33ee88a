/-
  The walks of the laws of package hue.
-/
import Derived.Test.YthlgokaehkifkaaHueC
import Derived.Test.YthlgokaehkifkaaEq
import Derived.Lib.ConvBytes
namespace Go.Proofs.Ythlgokaehkifkaa.HueD
open Go.RowKit HueA Rd HueB HueC
set_option linter.unusedVariables false
set_option linter.unusedSimpArgs false
set_option maxRecDepth 4000

attribute [local go_sem] Eq.eq_col

theorem awake_any (w : World) :
    Calls Try.prog 8 #[] w fun e w' => e = .returned (.bool true) ∧ Below w.heap.size w w' := by
  go_enter Try.func8, Try.ntmps8
  go_wp2_with fail
  refine (from_yes (some ⟨w.heap.size, 0, none⟩) 4 4 1 [1, 2, 3, 4] (w.alloc (.cells #[.int .u8 1, .int .u8 2, .int .u8 3, .int .u8 4] 5)) (reads_new w #[.int .u8 1, .int .u8 2, .int .u8 3, .int .u8 4] _ 1 4 rfl) (by omega) (by omega) (by omega) (by decide)).mono ?_
  rintro e w1 ⟨v, rfl, hown, hb⟩
  obtain ⟨g, cap, rfl, hg1, hg2, hg3, hg4, hcell⟩ := owns_pos hown (by omega)
  have c0 := hcell 0 (by omega)
  have c1 := hcell 1 (by omega)
  have c2 := hcell 2 (by omega)
  have c3 := hcell 3 (by omega)
  clear hcell
  simp only [List.map_cons, List.getElem?_cons_zero, List.getElem?_cons_succ] at c0 c1 c2 c3
  have B0 := hb.size
  simp only [World.size_alloc] at B0 hg1 hg2
  go_wp2_with fail
  refine (from_no _ 1 1 _ (by omega) (by omega)).mono ?_
  rintro e w2 ⟨rfl, rfl⟩
  have e1 : mixB (clamp 128) 0 255 = 128 := by decide
  have e2 : mixB (clamp 128) 0 1 = 1 := by decide
  have e3 : mixB (clamp 128) 0 0 = 0 := by decide
  have e4 : meanB 1 2 2 2 = 2 := by decide
  have e5 : meanB 0 0 0 0 = 0 := by decide
  have e6 : timesB 255 255 = 255 := by decide
  have e7 : timesB 128 128 = 64 := by decide
  have e8 : timesB 3 100 = 1 := by decide
  have e9 : timesB 0 9 = 0 := by decide
  go_wp2_with fail
  refine (lerp_any 0 0 0 0 255 1 0 255 128 _ (by decide) (by decide) (by decide) (by decide) (by decide) (by decide) (by decide) (by decide) (by decide)).mono ?_
  rintro e w2 ⟨rfl, hb2⟩
  have K2 : Below w1.heap.size w1 w2 := ((Below.refl _ _).alloc (Nat.le_refl _) _).trans (hb2.mono (by simp))
  have B2 := K2.size
  go_wp2_with fail
  refine (mean_any 1 0 0 0 2 0 0 0 2 0 0 0 2 0 0 0 _ (by decide) (by decide) (by decide) (by decide) (by decide) (by decide) (by decide) (by decide) (by decide) (by decide) (by decide) (by decide) (by decide) (by decide) (by decide) (by decide)).mono ?_
  rintro e w3 ⟨rfl, hb3⟩
  have K3 := K2.trans (hb3.mono B2)
  have B3 := K3.size
  go_wp2_with fail
  refine (times_any 255 128 3 0 255 128 100 9 _ (by decide) (by decide) (by decide) (by decide) (by decide) (by decide) (by decide) (by decide)).mono ?_
  rintro e w4 ⟨rfl, hb4⟩
  have K4 := K3.trans (hb4.mono B3)
  have B4 := K4.size
  have d0 : w4.cell? ⟨g, 0, none⟩ = _ := (K4.cell (p := ⟨g, 0, none⟩) hg2).trans c0
  have d1 : w4.cell? ⟨g, 1, none⟩ = _ := (K4.cell (p := ⟨g, 1, none⟩) hg2).trans c1
  have d2 : w4.cell? ⟨g, 2, none⟩ = _ := (K4.cell (p := ⟨g, 2, none⟩) hg2).trans c2
  have d3 : w4.cell? ⟨g, 3, none⟩ = _ := (K4.cell (p := ⟨g, 3, none⟩) hg2).trans c3
  go_wp2_with fail
  have R4 : Reads w4 4 (some ⟨g, 0, none⟩) 1 (u8s [1, 2, 3, 4]) := (Reads.of_owns hown).below K4 (Nat.le_refl _)
  refine (bytes_any _ 1 cap [1, 2, 3, 4] _ R4 (by omega)).mono ?_
  rintro e w5 ⟨v5, rfl, hown5, hb5⟩
  obtain ⟨a5, cap5, rfl, h53, h54⟩ := owns_val hown5
  have hconv := conv_reads (P := Try.prog) (src := 24) (dst := 9) (cap := cap5) Try.underlying24 Try.underlying5 Try.underlying9 (Reads.of_owns hown5) (by decide)
  have hbo : bytesOf [1, 2, 3, 4] = ⟨#[1, 2, 3, 4]⟩ := by decide
  rw [hbo] at hconv
  have K5 := K4.trans (hb5.mono B4)
  have L1 : Below w.heap.size w w1 := ((Below.refl _ _).alloc (Nat.le_refl _) _).trans (hb.mono (by simp))
  go_wp2_with fail
  go_ret
  exact ⟨rfl, L1.trans (K5.mono L1.size)⟩
end Go.Proofs.Ythlgokaehkifkaa.HueD
