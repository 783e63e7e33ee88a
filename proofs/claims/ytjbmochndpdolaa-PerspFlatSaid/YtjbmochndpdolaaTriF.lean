/-
  The document's own At; which spots may be.
-/
import Derived.Test.YtjbmochndpdolaaTriE
namespace Go.Proofs.Ytjbmochndpdolaa.TriF
open Go.RowKit FixA Num Rd Go.Proofs.Ytjbmochndpdolaa.Row TriA TriB TriC TriD TriE
set_option linter.unusedVariables false
set_option linter.unusedSimpArgs false
set_option maxRecDepth 10000
attribute [local go_sem ↓] load_tri store_tri load_w3 store_w3 load_spot load_pl store_pl
attribute [local go_sem] one_int one_bool run_load_pl run_store_pl run_load_spot run_load_tri run_load_w3 run_store_tri run_store_w3 rowLoad_eq rowStore_eq midLoad_eq ext0 ext1 ext2 blk_alloc_at blk_alloc_old blk_drew blk_drewN blk_set_far blk_set_far' blk_grow setRow_alloc_at setRow_alloc_old setRow_drew setRow_drewN
attribute [local go_sem high] run_maxT run_minT
attribute [local go_sem] fold_mid
theorem rnear_z (t : List Int) (h : Tri t) (ha : 1 ≤ area t) (x y : Int) (hx : Pt x) (hy : Pt y) (w : World) :
    Calls Try.prog 23 #[.int .i64 (zS t x y), .int .i64 (max (area t) 1)] w fun e w' => e = .returned (.int .i64 (zN t x y)) ∧ w = w' := by
  have a := zS_bd h hx hy
  have b := area_bd h
  have e : max (area t) 1 = area t := by omega
  rw [e]
  exact rnear_any _ _ w (by omega) (by omega) (by omega) (by omega)
section
attribute [local go_sem] fold_z
set_option maxHeartbeats 2000000 in
theorem rAt_any (t : List Int) (h : Tri t) (ha : 1 ≤ area t) (px py : Int) (hx : P31 px) (hy : P31 py) (w : World) :
    Calls Try.prog 13 #[.agg (cs .i64 t), .int .i64 px, .int .i64 py] w fun e w' => e = .returned (.tuple #[.int .i64 (zV t (mid px) (mid py)), .int .i64 (atU t (mid px) (mid py)), .int .i64 (atW t (mid px) (mid py))]) ∧ Below w.heap.size w w' := by
  have hl := h.len
  have m1 := mid_bd hx.1 hx.2
  have m2 := mid_bd hy.1 hy.2
  have hX : Pt (mid px) := by omega
  have hY : Pt (mid py) := by omega
  obtain ⟨z1, z2, z3⟩ := zP h hX hY
  have z4 := zS_bd h hX hY
  have z5 := zN_bd h ha hX hY
  go_enter Try.func13, Try.ntmps13
  go_wp2_with fail
  refine (redges_any t h (mid px) (mid py) hX hY _).mono ?_
  rintro e w1 ⟨rfl, hb⟩
  have hs := hb.size
  simp only [World.size_alloc] at hs
  have b0 : blk w1 w.heap.size = some (.cells (cs .i64 t) 24 (0, 0)) := (blk_below hb _ (by simp)).trans (by simp [blk_alloc_at])
  have L1 : Below w.heap.size w w1 := by repeat' (first | (with_reducible exact Below.refl _ _) | (with_reducible refine Rd.below_step ?_ (by assumption)) | (with_reducible refine Rd.below_alloc ?_ _) | (with_reducible refine Rd.below_drewN ?_ _) | (with_reducible refine Below.drew ?_) | (with_reducible refine Below.setCell ?_ ?_ _) | (with_reducible refine Rd.below_setRow ?_ ?_ _) | go_size | (simp only [World.size_alloc]; omega) | omega)
  have k0 : w.heap.size < w1.heap.size := by omega
  clear hb
  go_wp2
  refine wp_loop_rounds 4 ?_
  rw [rounds_succ]
  refine Rd.name_world ?_
  intro w2 hw
  have b2 : blk w2 w.heap.size = some (.cells (cs .i64 t) 24 (0, 0)) := by rw [hw, blk_alloc_old _ _ _ k0]; exact b0
  have e2 : blk w2 w1.heap.size = some (.cells (cs .i64 (edL t (mid px) (mid py))) 27 (0, 0)) := by rw [hw, blk_alloc_at _ _ _ rfl]
  have k2 : w1.heap.size < w2.heap.size := by rw [hw]; simp
  have L2 : Below w.heap.size w w2 := by
    rw [hw]
    repeat' (first | (with_reducible exact Below.refl _ _) | (with_reducible refine Rd.below_step ?_ (by assumption)) | (with_reducible refine Rd.below_alloc ?_ _) | (with_reducible refine Rd.below_drewN ?_ _) | (with_reducible refine Below.drew ?_) | (with_reducible refine Below.setCell ?_ ?_ _) | (with_reducible refine Rd.below_setRow ?_ ?_ _) | go_size | (simp only [World.size_alloc]; omega) | omega)
  clear hw b0 L1 hs
  have k3 : w.heap.size < w2.heap.size := by omega
  have g0 : w2.cell? ⟨w.heap.size, 2, none⟩ = some (.int .i64 (g t 2)) := (by rw [blk_cell b2]; exact cs_at (at_of (l := t) (by omega)))
  have g1 : w2.cell? ⟨w.heap.size, 8, none⟩ = some (.int .i64 (g t 8)) := (by rw [blk_cell b2]; exact cs_at (at_of (l := t) (by omega)))
  have g2 : w2.cell? ⟨w.heap.size, 14, none⟩ = some (.int .i64 (g t 14)) := (by rw [blk_cell b2]; exact cs_at (at_of (l := t) (by omega)))
  have g3 : w2.cell? ⟨w1.heap.size, 0, none⟩ = some (.int .i64 (ed0 t (mid px) (mid py))) := (by rw [blk_cell e2]; rfl)
  have g4 : w2.cell? ⟨w1.heap.size, 1, none⟩ = some (.int .i64 (ed1 t (mid px) (mid py))) := (by rw [blk_cell e2]; rfl)
  have g5 : w2.cell? ⟨w1.heap.size, 2, none⟩ = some (.int .i64 (ed2 t (mid px) (mid py))) := (by rw [blk_cell e2]; rfl)
  go_wp2
  go_quiet (fail)
  go_wp2
  iterate 2 (rw [rounds_succ]; go_wp2; go_quiet (fail); go_wp2)
  rw [rounds_succ]
  go_wp2_with fail
  refine (uv_any t h (mid px) (mid py) hX hY _).mono ?_
  rintro e w3 ⟨rfl, hb⟩
  have hs := hb.size
  have b3 : blk w3 w.heap.size = some (.cells (cs .i64 t) 24 (0, 0)) := (blk_below hb _ (by simpa using k3)).trans b2
  have L3 : Below w.heap.size w w3 := by repeat' (first | (with_reducible exact Below.refl _ _) | (with_reducible refine Rd.below_step ?_ (by assumption)) | (with_reducible refine Rd.below_alloc ?_ _) | (with_reducible refine Rd.below_drewN ?_ _) | (with_reducible refine Below.drew ?_) | (with_reducible refine Below.setCell ?_ ?_ _) | (with_reducible refine Rd.below_setRow ?_ ?_ _) | go_size | (simp only [World.size_alloc]; omega) | omega)
  clear hb g0 g1 g2 g3 g4 g5
  go_wp2_with fail
  refine (rarea_any t h _).mono ?_
  rintro e w4 ⟨rfl, hb⟩
  have L4 : Below w.heap.size w w4 := by repeat' (first | (with_reducible exact Below.refl _ _) | (with_reducible refine Rd.below_step ?_ (by assumption)) | (with_reducible refine Rd.below_alloc ?_ _) | (with_reducible refine Rd.below_drewN ?_ _) | (with_reducible refine Below.drew ?_) | (with_reducible refine Below.setCell ?_ ?_ _) | (with_reducible refine Rd.below_setRow ?_ ?_ _) | go_size | (simp only [World.size_alloc]; omega) | omega)
  clear hb L3 b3
  go_wp2_with (first | (go_at_call 23; refine (rnear_z t h ha (mid px) (mid py) hX hY _).mono ?_; rintro e w' ⟨rfl, rfl⟩) | (go_at_call 26; refine (hold_any _ _ _ (by omega) _).mono ?_; rintro e w' ⟨rfl, rfl⟩))
  go_returns
  exact ⟨rfl, by repeat' (first | (with_reducible exact Below.refl _ _) | (with_reducible refine Rd.below_step ?_ (by assumption)) | (with_reducible refine Rd.below_alloc ?_ _) | (with_reducible refine Rd.below_drewN ?_ _) | (with_reducible refine Below.drew ?_) | (with_reducible refine Below.setCell ?_ ?_ _) | (with_reducible refine Rd.below_setRow ?_ ?_ _) | go_size | (simp only [World.size_alloc]; omega) | omega)⟩
end

end Go.Proofs.Ytjbmochndpdolaa.TriF
