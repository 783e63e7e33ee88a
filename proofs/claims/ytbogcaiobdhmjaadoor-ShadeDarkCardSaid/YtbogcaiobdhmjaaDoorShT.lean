/-
  What the table of shaders holds, out of the row's condition.
-/
import Derived.Test.YtbogcaiobdhmjaaDoorRows
import Derived.Test.YtbogcaiobdhmjaaDoorShA
import Derived.ProofKit
import Derived.LaidMore
import Derived.OpenShut
import Derived.MakeChecks
namespace Go.Proofs.YtbogcaiobdhmjaaDoor.ShT
open Go.RowKit ShA
set_option linter.unusedVariables false
set_option linter.unusedSimpArgs false
theorem gRows : Tryd.prog.globalNamed "wainscot/shade.rows" = some 0 := by kernel_rfl
theorem tRows : (Tryd.prog.globals[0]?).map (·.type) = some 38 := by kernel_rfl
theorem cells_row : Tryd.prog.cellsOf 37 = 4 := by kernel_rfl
theorem cells_tab : Tryd.prog.cellsOf 38 = 20 := by kernel_rfl
theorem cells_bool : Tryd.prog.cellsOf 4 = 1 := by kernel_rfl
abbrev laidL : List (String × DataW Unit) := [("wainscot/shade.rows", Rows.laid_wainscot_shade_rows)]
def rowD {H : Type} (b0 b1 b2 b3 : Bool) : DataW H := .agg [.lit (.bool b0), .lit (.bool b1), .lit (.bool b2), .lit (.bool b3)]

theorem bool_of {H : Type} {enc : TypeId × Value → H} {w : World} {base : Nat} {spare : Nat → Bool} {held : Bool} {m : Nat} {l : List Value} {x : DataW H × List MemPlace} {b : Bool} (h : DataW.trod enc Tryd.prog w base spare held m 4 l = some x) (hx : x.1 = .lit (.bool b)) : l = [.bool b] := by
  obtain ⟨b', rfl, rfl⟩ := DataW.trod_bool Tryd.underlying4 h
  simp only [DataW.lit.injEq, Lit.bool.injEq] at hx
  rw [hx]
theorem four_of {l : List Value} {a b c d : Value} (hl : l.length = 4) (h0 : (l.drop 0).take 1 = [a]) (h1 : (l.drop 1).take 1 = [b]) (h2 : (l.drop 2).take 1 = [c]) (h3 : (l.drop 3).take 1 = [d]) : l = [a, b, c, d] := by
  match l, hl with
  | [x0, x1, x2, x3], _ => simp at h0 h1 h2 h3; rw [h0, h1, h2, h3]
theorem row_of {H : Type} {enc : TypeId × Value → H} {w : World} {base : Nat} {spare : Nat → Bool} {held : Bool} {m : Nat} {l : List Value} {x : DataW H × List MemPlace} {b0 b1 b2 b3 : Bool} (h : DataW.trod enc Tryd.prog w base spare held m 37 l = some x) (hx : x.1 = rowD b0 b1 b2 b3) : l = [.bool b0, .bool b1, .bool b2, .bool b3] := by
  obtain ⟨xs, n, rfl, rfl, hl, hn, hel⟩ := DataW.trod_struct Tryd.underlying37 h
  rw [cells_row] at hl
  match xs, hn with
  | [x0, x1, x2, x3], _ =>
    simp only [rowD, List.map_cons, List.map_nil, DataW.agg.injEq, List.cons.injEq, and_true] at hx
    obtain ⟨e0, e1, e2, e3⟩ := hx
    have f0 := hel 0 _ rfl
    have f1 := hel 1 _ rfl
    have f2 := hel 2 _ rfl
    have f3 := hel 3 _ rfl
    have g0 := bool_of f0 e0
    change (l.drop 0).take (Tryd.prog.cellsOf 4) = _ at g0
    rw [cells_bool] at g0
    have g1 := bool_of f1 e1
    change (l.drop 1).take (Tryd.prog.cellsOf 4) = _ at g1
    rw [cells_bool] at g1
    have g2 := bool_of f2 e2
    change (l.drop 2).take (Tryd.prog.cellsOf 4) = _ at g2
    rw [cells_bool] at g2
    have g3 := bool_of f3 e3
    change (l.drop 3).take (Tryd.prog.cellsOf 4) = _ at g3
    rw [cells_bool] at g3
    exact four_of hl g0 g1 g2 g3
theorem tab_of {l : List Value} {r0 r1 r2 r3 r4 : List Value} (hl : l.length = 20) (h0 : (l.drop (0 * 4)).take 4 = r0) (h1 : (l.drop (1 * 4)).take 4 = r1) (h2 : (l.drop (2 * 4)).take 4 = r2) (h3 : (l.drop (3 * 4)).take 4 = r3) (h4 : (l.drop (4 * 4)).take 4 = r4) : l = r0 ++ r1 ++ r2 ++ r3 ++ r4 := by
  subst h0 h1 h2 h3 h4
  apply List.ext_getElem?
  intro i
  match l, hl with
  | [x0, x1, x2, x3, x4, x5, x6, x7, x8, x9, x10, x11, x12, x13, x14, x15, x16, x17, x18, x19], _ => rfl
theorem of_laid {W : World} (h : laidMetH Tryd.prog laidL W) : TB W := by
  rw [MakeChecks.laidMetH_plain _ _ _ (by kernel_rfl)] at h
  obtain ⟨ps, ⟨g0, t0, cs0, f0, p0, q0, hg0, ht0, hv0, hd0, -, -⟩, -, -⟩ := h
  obtain rfl := Option.some.inj (gRows.symm.trans hg0)
  obtain rfl := Option.some.inj (tRows.symm.trans ht0)
  obtain ⟨xs, m, rfl, hx, hl, hn, hel⟩ := DataW.trod_array Tryd.underlying38 hd0
  rw [cells_tab] at hl
  match xs, hn with
  | [x0, x1, x2, x3, x4], _ =>
    simp only [Prod.mk.injEq, Rows.laid_wainscot_shade_rows, List.map_cons, List.map_nil, DataW.agg.injEq, List.cons.injEq, and_true] at hx
    obtain ⟨⟨e0, e1, e2, e3, e4⟩, -⟩ := hx
    have k0 := hel 0 (by decide)
    have k1 := hel 1 (by decide)
    have k2 := hel 2 (by decide)
    have k3 := hel 3 (by decide)
    have k4 := hel 4 (by decide)
    rw [cells_row] at k0 k1 k2 k3 k4
    have key := tab_of hl (row_of (b0 := false) (b1 := false) (b2 := false) (b3 := false) k0 e0.symm) (row_of (b0 := false) (b1 := false) (b2 := true) (b3 := false) k1 e1.symm) (row_of (b0 := true) (b1 := true) (b2 := false) (b3 := false) k2 e2.symm) (row_of (b0 := true) (b1 := true) (b2 := true) (b3 := false) k3 e3.symm) (row_of (b0 := true) (b1 := false) (b2 := true) (b3 := true) k4 e4.symm)
    have hc : ∀ i, i < 20 → W.cell? ⟨0, i, none⟩ = some (.bool (tbL.getD i false)) := fun i hi => by
      rw [World.var?_cell hg0 hv0 i, ← Array.getElem?_toList, key]
      rcases (show i = 0 ∨ i = 1 ∨ i = 2 ∨ i = 3 ∨ i = 4 ∨ i = 5 ∨ i = 6 ∨ i = 7 ∨ i = 8 ∨ i = 9 ∨ i = 10 ∨ i = 11 ∨ i = 12 ∨ i = 13 ∨ i = 14 ∨ i = 15 ∨ i = 16 ∨ i = 17 ∨ i = 18 ∨ i = 19 by omega) with rfl | rfl | rfl | rfl | rfl | rfl | rfl | rfl | rfl | rfl | rfl | rfl | rfl | rfl | rfl | rfl | rfl | rfl | rfl | rfl <;> rfl
    exact ⟨World.block_lt_of_cell? W ⟨0, 0, none⟩ (hc 0 (by omega)), hc⟩
/-- the door's own heap meets the condition -/
theorem door_met (os : Os) (args : Array Value) : laidMetH Tryd.prog laidL ((World.doorLaid Tryd.prog 400 os).forCall (fun _ _ => 0) ⟨#[], args, []⟩).memory :=
  laidMetH_of_parts3 (fuel := 8) (laidMet_of_run' 8 (by kernel_rfl) (by kernel_rfl)) (by kernel_rfl) (by kernel_rfl)
end Go.Proofs.YtbogcaiobdhmjaaDoor.ShT
