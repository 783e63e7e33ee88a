/-
  What is seen of a triangle: the document's own answer.
-/
import Derived.Test.YtimfjogallcgnaaScG
import Derived.Test.YtimfjogallcgnaaVecF
import Derived.Test.YtimfjogallcgnaaClG
import Derived.Test.YtimfjogallcgnaaPredT
namespace Go.Proofs.Ytimfjogallcgnaa.ScH
open Go.RowKit FixA Num Rd Go.Proofs.Ytimfjogallcgnaa.Row Mid ClM ClC ClD ClF ClG ClH ScM ScA ScB ScC ScD ScE ScF ScG
open Go.Proofs.Ytimfjogallcgnaa.VecA (cellB Wf)
open Go.Proofs.Ytimfjogallcgnaa.VecD (applyV outF)
set_option linter.unusedVariables false
set_option linter.unusedSimpArgs false
set_option maxRecDepth 10000
attribute [local go_sem ↓] load_mat store_vec load_vec load_tri load_spot store_spot
attribute [local go_sem] one_int run_load_spot run_store_spot pcS run_load_tri pt_all run_load_mat run_store_vec run_load_vec midStore_eq midLoad_eq pasteL pv0 pv6 pv12 pv4 rowLoad_eq rowStore_eq blk_alloc_at blk_alloc_old blk_drew blk_drewN blk_set_far blk_set_far' blk_grow setRow_alloc_at setRow_alloc_old setRow_drew setRow_drewN
theorem rapply_at {m : List Int} (a0 a1 a2 a3 a4 a5 : Int) (hlm : m.length = 16) (wm : Wf m) (h : mayV [a0, a1, a2, a3, a4, a5] = true) (b0 b1 b2 b3 : Int) (he : applyV m [a0, a1, a2, a3] = ([b0, b1, b2, b3], 0)) (X : World) :
    Calls Try.prog 29 #[.agg (cs .i64 m), .agg #[.int .i64 a0, .int .i64 a1, .int .i64 a2, .int .i64 a3]] X fun e w' => e = .returned (.tuple #[.agg #[.int .i64 b0, .int .i64 b1, .int .i64 b2, .int .i64 b3], .int .i64 0]) ∧ Below X.heap.size X w' := by
  have wv : Wf [a0, a1, a2, a3] := by
    have b := mayV_bd h
    have e : ∀ (a0 a1 a2 a3 a4 a5 : Int), ClM.g [a0, a1, a2, a3, a4, a5] 0 = a0 ∧ ClM.g [a0, a1, a2, a3, a4, a5] 1 = a1 ∧ ClM.g [a0, a1, a2, a3, a4, a5] 2 = a2 ∧ ClM.g [a0, a1, a2, a3, a4, a5] 3 = a3 := fun _ _ _ _ _ _ => ⟨rfl, rfl, rfl, rfl⟩
    simp only [e] at b
    intro x hx
    simp only [List.mem_cons, List.not_mem_nil, or_false] at hx
    rcases hx with rfl | rfl | rfl | rfl <;> exact wf_mk (by omega) (by omega)
  have := VecF.rapply_any m [a0, a1, a2, a3] hlm rfl X wm wv
  rw [he] at this
  exact this
set_option maxHeartbeats 4000000 in
theorem rplace_any (ms : List Int) (t0 t1 t2 t3 t4 t5 t6 t7 t8 t9 t10 t11 t12 t13 t14 t15 t16 t17 t18 c0 c1 c2 c3 : Int) (w h : Int) (W : World) (hm : ms.length = 16) (wm : Wf ms) :
    Calls Try.prog 11 #[.agg (cs .i64 ms), .agg #[.int .i64 t0, .int .i64 t1, .int .i64 t2, .int .i64 t3, .int .i64 t4, .int .i64 t5, .int .i64 t6, .int .i64 t7, .int .i64 t8, .int .i64 t9, .int .i64 t10, .int .i64 t11, .int .i64 t12, .int .i64 t13, .int .i64 t14, .int .i64 t15, .int .i64 t16, .int .i64 t17, .int .i64 t18, .int .u8 c0, .int .u8 c1, .int .u8 c2, .int .u8 c3], .int .i64 w, .int .i64 h] W fun e w' => (∃ ad' c', e = .returned (.tuple #[.slice ad' (placeV ms [t0, t1, t2, t3, t4, t5, t6, t7, t8, t9, t10, t11, t12, t13, t14, t15, t16, t17, t18] w h).1.length c', .int .i64 (placeV ms [t0, t1, t2, t3, t4, t5, t6, t7, t8, t9, t10, t11, t12, t13, t14, t15, t16, t17, t18] w h).2]) ∧ TriAt w' ad' (placeV ms [t0, t1, t2, t3, t4, t5, t6, t7, t8, t9, t10, t11, t12, t13, t14, t15, t16, t17, t18] w h).1) ∧ Below W.heap.size W w' := by
  have WM := Lib.hid wm
  have RT := Lib.hid (rmayT_any t0 t1 t2 t3 t4 t5 t6 t7 t8 t9 t10 t11 t12 t13 t14 t15 t16 t17 t18 c0 c1 c2 c3)
  obtain ⟨T, hT⟩ : ∃ T, T = [t0, t1, t2, t3, t4, t5, t6, t7, t8, t9, t10, t11, t12, t13, t14, t15, t16, t17, t18] := ⟨_, rfl⟩
  rw [← hT] at RT ⊢
  have HT := Lib.hid hT
  clear hT wm
  go_enter Try.func11, Try.ntmps11
  go_wp2_with fail
  refine (rwithin_any w 1 32 _).mono ?_
  rintro e w1 ⟨rfl, hb1⟩
  have s1 := hb1.size
  simp only [World.size_alloc] at s1
  have bM1 : blk w1 W.heap.size = some (.cells (cs .i64 ms) 27 (0, 0)) := (blk_below hb1 _ (by simp; omega)).trans (blk2_0 _ _ _)
  have bT1 : blk w1 (W.heap.size + 1) = some (.cells #[.int .i64 t0, .int .i64 t1, .int .i64 t2, .int .i64 t3, .int .i64 t4, .int .i64 t5, .int .i64 t6, .int .i64 t7, .int .i64 t8, .int .i64 t9, .int .i64 t10, .int .i64 t11, .int .i64 t12, .int .i64 t13, .int .i64 t14, .int .i64 t15, .int .i64 t16, .int .i64 t17, .int .i64 t18, .int .u8 c0, .int .u8 c1, .int .u8 c2, .int .u8 c3] 31 (0, 0)) := (blk_below hb1 _ (by simp)).trans (blk2_1 _ _ _)
  have L1 : Below W.heap.size W w1 := by repeat' (first | (with_reducible exact Below.refl _ _) | (with_reducible refine Rd.below_step ?_ (by assumption)) | (with_reducible refine Rd.below_alloc ?_ _) | (with_reducible refine Rd.below_drewN ?_ _) | (with_reducible refine Below.drew ?_) | (with_reducible refine Below.setCell ?_ ?_ _) | (with_reducible refine Rd.below_setRow ?_ ?_ _) | go_size | (simp only [World.size_alloc]; omega) | omega)
  clear hb1
  obtain ⟨q1, e1⟩ : ∃ q, decide (1 ≤ w ∧ w ≤ 32) = q := ⟨_, rfl⟩
  rw [e1]
  have E1 := Lib.hid e1
  clear e1
  cases q1
  case false =>
    have EA := Lib.hid (show placeV ms T w h = ([], 1) by unfold placeV; rw [frame_two, E1.out]; rfl)
    go_wp2
    go_ret2
    rw [EA.out]
    exact ⟨⟨none, 0, rfl, fun v hv => (by cases hv), Or.inl rfl⟩, by repeat' (first | (with_reducible exact Below.refl _ _) | (with_reducible refine Rd.below_step ?_ (by assumption)) | (with_reducible refine Rd.below_alloc ?_ _) | (with_reducible refine Rd.below_drewN ?_ _) | (with_reducible refine Below.drew ?_) | (with_reducible refine Below.setCell ?_ ?_ _) | (with_reducible refine Rd.below_setRow ?_ ?_ _) | go_size | (simp only [World.size_alloc]; omega) | omega)⟩
  go_wp2_with fail
  refine (rwithin_any h 1 32 _).mono ?_
  rintro e w2 ⟨rfl, hb2⟩
  have s2 := hb2.size
  have bM2 := (blk_below hb2 _ (blk_lt bM1)).trans bM1
  have bT2 := (blk_below hb2 _ (blk_lt bT1)).trans bT1
  have L2 : Below W.heap.size W w2 := by repeat' (first | (with_reducible exact Below.refl _ _) | (with_reducible refine Rd.below_step ?_ (by assumption)) | (with_reducible refine Rd.below_alloc ?_ _) | (with_reducible refine Rd.below_drewN ?_ _) | (with_reducible refine Below.drew ?_) | (with_reducible refine Below.setCell ?_ ?_ _) | (with_reducible refine Rd.below_setRow ?_ ?_ _) | go_size | (simp only [World.size_alloc]; omega) | omega)
  clear hb2 bM1 bT1 L1
  obtain ⟨q2, e2⟩ : ∃ q, decide (1 ≤ h ∧ h ≤ 32) = q := ⟨_, rfl⟩
  rw [e2]
  have E2 := Lib.hid e2
  clear e2
  cases q2
  case false =>
    have EA := Lib.hid (show placeV ms T w h = ([], 1) by unfold placeV; rw [frame_two, E1.out, E2.out]; rfl)
    go_wp2
    go_ret2
    rw [EA.out]
    exact ⟨⟨none, 0, rfl, fun v hv => (by cases hv), Or.inl rfl⟩, by repeat' (first | (with_reducible exact Below.refl _ _) | (with_reducible refine Rd.below_step ?_ (by assumption)) | (with_reducible refine Rd.below_alloc ?_ _) | (with_reducible refine Rd.below_drewN ?_ _) | (with_reducible refine Below.drew ?_) | (with_reducible refine Below.setCell ?_ ?_ _) | (with_reducible refine Rd.below_setRow ?_ ?_ _) | go_size | (simp only [World.size_alloc]; omega) | omega)⟩
  have EF := Lib.hid (show frameB w h = true by rw [frame_two, E1.out, E2.out]; rfl)
  go_wp2_with fail
  refine (VecA.rmay_any ms hm _ WM.out).mono ?_
  rintro e w3 ⟨rfl, hb3⟩
  have s3 := hb3.size
  have bM3 := (blk_below hb3 _ (blk_lt bM2)).trans bM2
  have bT3 := (blk_below hb3 _ (blk_lt bT2)).trans bT2
  have L3 : Below W.heap.size W w3 := by repeat' (first | (with_reducible exact Below.refl _ _) | (with_reducible refine Rd.below_step ?_ (by assumption)) | (with_reducible refine Rd.below_alloc ?_ _) | (with_reducible refine Rd.below_drewN ?_ _) | (with_reducible refine Below.drew ?_) | (with_reducible refine Below.setCell ?_ ?_ _) | (with_reducible refine Rd.below_setRow ?_ ?_ _) | go_size | (simp only [World.size_alloc]; omega) | omega)
  clear hb3 bM2 bT2 L2
  obtain ⟨qm, em⟩ : ∃ q, ms.all cellB = q := ⟨_, rfl⟩
  rw [em]
  have EM := Lib.hid em
  clear em
  cases qm
  case false =>
    have EA := Lib.hid (show placeV ms T w h = ([], 1) by unfold placeV; rw [EF.out, EM.out]; rfl)
    go_wp2
    go_ret2
    rw [EA.out]
    exact ⟨⟨none, 0, rfl, fun v hv => (by cases hv), Or.inl rfl⟩, by repeat' (first | (with_reducible exact Below.refl _ _) | (with_reducible refine Rd.below_step ?_ (by assumption)) | (with_reducible refine Rd.below_alloc ?_ _) | (with_reducible refine Rd.below_drewN ?_ _) | (with_reducible refine Below.drew ?_) | (with_reducible refine Below.setCell ?_ ?_ _) | (with_reducible refine Rd.below_setRow ?_ ?_ _) | go_size | (simp only [World.size_alloc]; omega) | omega)⟩
  go_wp2_with fail
  refine (RT.out _).mono ?_
  rintro e w4 ⟨rfl, hb4⟩
  have s4 := hb4.size
  have bM4 := (blk_below hb4 _ (blk_lt bM3)).trans bM3
  have bT4 := (blk_below hb4 _ (blk_lt bT3)).trans bT3
  have L4 : Below W.heap.size W w4 := by repeat' (first | (with_reducible exact Below.refl _ _) | (with_reducible refine Rd.below_step ?_ (by assumption)) | (with_reducible refine Rd.below_alloc ?_ _) | (with_reducible refine Rd.below_drewN ?_ _) | (with_reducible refine Below.drew ?_) | (with_reducible refine Below.setCell ?_ ?_ _) | (with_reducible refine Rd.below_setRow ?_ ?_ _) | go_size | (simp only [World.size_alloc]; omega) | omega)
  clear hb4 bM3 bT3 L3 RT
  obtain ⟨qt, et⟩ : ∃ q, mayT T = q := ⟨_, rfl⟩
  rw [et]
  have ET := Lib.hid et
  clear et
  cases qt
  case false =>
    have EA := Lib.hid (show placeV ms T w h = ([], 2) by unfold placeV; rw [EF.out, EM.out, ET.out]; rfl)
    go_wp2
    go_ret2
    rw [EA.out]
    exact ⟨⟨none, 0, rfl, fun v hv => (by cases hv), Or.inl rfl⟩, by repeat' (first | (with_reducible exact Below.refl _ _) | (with_reducible refine Rd.below_step ?_ (by assumption)) | (with_reducible refine Rd.below_alloc ?_ _) | (with_reducible refine Rd.below_drewN ?_ _) | (with_reducible refine Below.drew ?_) | (with_reducible refine Below.setCell ?_ ?_ _) | (with_reducible refine Rd.below_setRow ?_ ?_ _) | go_size | (simp only [World.size_alloc]; omega) | omega)⟩
  have k0 : w4.cell? ⟨W.heap.size + 1, 0, none⟩ = some (.int .i64 t0) := by rw [blk_cell bT4]; rfl
  have k1 : w4.cell? ⟨W.heap.size + 1, 1, none⟩ = some (.int .i64 t1) := by rw [blk_cell bT4]; rfl
  have k2 : w4.cell? ⟨W.heap.size + 1, 2, none⟩ = some (.int .i64 t2) := by rw [blk_cell bT4]; rfl
  have k3 : w4.cell? ⟨W.heap.size + 1, 3, none⟩ = some (.int .i64 t3) := by rw [blk_cell bT4]; rfl
  have k4 : w4.cell? ⟨W.heap.size + 1, 4, none⟩ = some (.int .i64 t4) := by rw [blk_cell bT4]; rfl
  have k5 : w4.cell? ⟨W.heap.size + 1, 5, none⟩ = some (.int .i64 t5) := by rw [blk_cell bT4]; rfl
  have k6 : w4.cell? ⟨W.heap.size + 1, 6, none⟩ = some (.int .i64 t6) := by rw [blk_cell bT4]; rfl
  have k7 : w4.cell? ⟨W.heap.size + 1, 7, none⟩ = some (.int .i64 t7) := by rw [blk_cell bT4]; rfl
  have k8 : w4.cell? ⟨W.heap.size + 1, 8, none⟩ = some (.int .i64 t8) := by rw [blk_cell bT4]; rfl
  have k9 : w4.cell? ⟨W.heap.size + 1, 9, none⟩ = some (.int .i64 t9) := by rw [blk_cell bT4]; rfl
  have k10 : w4.cell? ⟨W.heap.size + 1, 10, none⟩ = some (.int .i64 t10) := by rw [blk_cell bT4]; rfl
  have k11 : w4.cell? ⟨W.heap.size + 1, 11, none⟩ = some (.int .i64 t11) := by rw [blk_cell bT4]; rfl
  have k12 : w4.cell? ⟨W.heap.size + 1, 12, none⟩ = some (.int .i64 t12) := by rw [blk_cell bT4]; rfl
  have k13 : w4.cell? ⟨W.heap.size + 1, 13, none⟩ = some (.int .i64 t13) := by rw [blk_cell bT4]; rfl
  have k14 : w4.cell? ⟨W.heap.size + 1, 14, none⟩ = some (.int .i64 t14) := by rw [blk_cell bT4]; rfl
  have k15 : w4.cell? ⟨W.heap.size + 1, 15, none⟩ = some (.int .i64 t15) := by rw [blk_cell bT4]; rfl
  have k16 : w4.cell? ⟨W.heap.size + 1, 16, none⟩ = some (.int .i64 t16) := by rw [blk_cell bT4]; rfl
  have k17 : w4.cell? ⟨W.heap.size + 1, 17, none⟩ = some (.int .i64 t17) := by rw [blk_cell bT4]; rfl
  go_upto_region 6 with (fail)
  refine Rd.name_world ?_
  intro w5 hw
  have bC : blk w5 w4.heap.size = some (.cells #[.int .i64 t0, .int .i64 t1, .int .i64 t2, .int .i64 t3, .int .i64 t4, .int .i64 t5, .int .i64 t6, .int .i64 t7, .int .i64 t8, .int .i64 t9, .int .i64 t10, .int .i64 t11, .int .i64 t12, .int .i64 t13, .int .i64 t14, .int .i64 t15, .int .i64 t16, .int .i64 t17] 25 (0, 0)) := by rw [hw]; exact blk_alloc_at _ _ _ rfl
  have bM : blk w5 W.heap.size = some (.cells (cs .i64 ms) 27 (0, 0)) := by rw [hw]; exact (blk_alloc_old _ _ _ (blk_lt bM4)).trans bM4
  have L5 : Below W.heap.size W w5 := by
    rw [hw]
    repeat' (first | (with_reducible exact Below.refl _ _) | (with_reducible refine Rd.below_step ?_ (by assumption)) | (with_reducible refine Rd.below_alloc ?_ _) | (with_reducible refine Rd.below_drewN ?_ _) | (with_reducible refine Below.drew ?_) | (with_reducible refine Below.setCell ?_ ?_ _) | (with_reducible refine Rd.below_setRow ?_ ?_ _) | go_size | (simp only [World.size_alloc]; omega) | omega)
  have hs2 : W.heap.size + 2 ≤ w4.heap.size := by omega
  clear hw bM4 bT4 L4 s1 s2 s3 s4 k0 k1 k2 k3 k4 k5 k6 k7 k8 k9 k10 k11 k12 k13 k14 k15 k16 k17
  have MY := Lib.hid (mayT_yes ET.out)
  have EA := Lib.hid (show placeV ms T w h = (fanV (polyV (rowV ms T)) w h, 0) by unfold placeV; rw [EF.out, EM.out, ET.out]; rfl)
  have VR := Lib.hid (rowV_vx (m := ms) (t := T) (by rw [HT.out]; rfl) EM.out ET.out)
  obtain ⟨p0, p1, p2, p3, ea0, es0⟩ := applyF (m := ms) (v := vtx T 0) (vtx_len (by rw [HT.out]; rfl) (by omega)) EM.out (MY.out 0 (by omega))
  obtain ⟨q0, q1, q2, q3, ea1, es1⟩ := applyF (m := ms) (v := vtx T 1) (vtx_len (by rw [HT.out]; rfl) (by omega)) EM.out (MY.out 1 (by omega))
  obtain ⟨r0, r1, r2, r3, ea2, es2⟩ := applyF (m := ms) (v := vtx T 2) (vtx_len (by rw [HT.out]; rfl) (by omega)) EM.out (MY.out 2 (by omega))
  have RV : Hid (rowV ms T = [[p0, p1, p2, p3, t4, t5], [q0, q1, q2, q3, t10, t11], [r0, r1, r2, r3, t16, t17]]) := by
    show rowV ms T = _
    unfold rowV
    rw [es0, es1, es2, HT.out]
    rfl
  have CA0 : Hid (∀ X : World, Calls Try.prog 29 #[.agg (cs .i64 ms), .agg #[.int .i64 t0, .int .i64 t1, .int .i64 t2, .int .i64 t3]] X fun e w' => e = .returned (.tuple #[.agg #[.int .i64 p0, .int .i64 p1, .int .i64 p2, .int .i64 p3], .int .i64 0]) ∧ Below X.heap.size X w') := fun X => by
    have m0 := MY.out 0 (by omega)
    rw [HT.out] at m0 ea0
    exact rapply_at t0 t1 t2 t3 t4 t5 hm WM.out m0 p0 p1 p2 p3 ea0 X
  have CA1 : Hid (∀ X : World, Calls Try.prog 29 #[.agg (cs .i64 ms), .agg #[.int .i64 t6, .int .i64 t7, .int .i64 t8, .int .i64 t9]] X fun e w' => e = .returned (.tuple #[.agg #[.int .i64 q0, .int .i64 q1, .int .i64 q2, .int .i64 q3], .int .i64 0]) ∧ Below X.heap.size X w') := fun X => by
    have m0 := MY.out 1 (by omega)
    rw [HT.out] at m0 ea1
    exact rapply_at t6 t7 t8 t9 t10 t11 hm WM.out m0 q0 q1 q2 q3 ea1 X
  have CA2 : Hid (∀ X : World, Calls Try.prog 29 #[.agg (cs .i64 ms), .agg #[.int .i64 t12, .int .i64 t13, .int .i64 t14, .int .i64 t15]] X fun e w' => e = .returned (.tuple #[.agg #[.int .i64 r0, .int .i64 r1, .int .i64 r2, .int .i64 r3], .int .i64 0]) ∧ Below X.heap.size X w') := fun X => by
    have m0 := MY.out 2 (by omega)
    rw [HT.out] at m0 ea2
    exact rapply_at t12 t13 t14 t15 t16 t17 hm WM.out m0 r0 r1 r2 r3 ea2 X
  clear ea0 ea1 ea2 es0 es1 es2
  have B0 : Hid (blk w5 w4.heap.size = some (.cells #[.int .i64 t0, .int .i64 t1, .int .i64 t2, .int .i64 t3, .int .i64 t4, .int .i64 t5, .int .i64 t6, .int .i64 t7, .int .i64 t8, .int .i64 t9, .int .i64 t10, .int .i64 t11, .int .i64 t12, .int .i64 t13, .int .i64 t14, .int .i64 t15, .int .i64 t16, .int .i64 t17] 25 (0, 0)) ∧ blk w5 W.heap.size = some (.cells (cs .i64 ms) 27 (0, 0))) := ⟨bC, bM⟩
  clear bC bM
  go_wp2_with fail
  go_loopw [11] (fun i X => ∃ k : Nat, k ≤ 3 ∧ i = .int .i64 k ∧ Hid (blk X w4.heap.size = some (.cells (if k = 0 then #[.int .i64 t0, .int .i64 t1, .int .i64 t2, .int .i64 t3, .int .i64 t4, .int .i64 t5, .int .i64 t6, .int .i64 t7, .int .i64 t8, .int .i64 t9, .int .i64 t10, .int .i64 t11, .int .i64 t12, .int .i64 t13, .int .i64 t14, .int .i64 t15, .int .i64 t16, .int .i64 t17] else if k = 1 then #[.int .i64 p0, .int .i64 p1, .int .i64 p2, .int .i64 p3, .int .i64 t4, .int .i64 t5, .int .i64 t6, .int .i64 t7, .int .i64 t8, .int .i64 t9, .int .i64 t10, .int .i64 t11, .int .i64 t12, .int .i64 t13, .int .i64 t14, .int .i64 t15, .int .i64 t16, .int .i64 t17] else if k = 2 then #[.int .i64 p0, .int .i64 p1, .int .i64 p2, .int .i64 p3, .int .i64 t4, .int .i64 t5, .int .i64 q0, .int .i64 q1, .int .i64 q2, .int .i64 q3, .int .i64 t10, .int .i64 t11, .int .i64 t12, .int .i64 t13, .int .i64 t14, .int .i64 t15, .int .i64 t16, .int .i64 t17] else #[.int .i64 p0, .int .i64 p1, .int .i64 p2, .int .i64 p3, .int .i64 t4, .int .i64 t5, .int .i64 q0, .int .i64 q1, .int .i64 q2, .int .i64 q3, .int .i64 t10, .int .i64 t11, .int .i64 r0, .int .i64 r1, .int .i64 r2, .int .i64 r3, .int .i64 t16, .int .i64 t17]) 25 (0, 0)) ∧ blk X W.heap.size = some (.cells (cs .i64 ms) 27 (0, 0))) ∧ Below W.heap.size W X) (fun i _ => 3 - (intOf i).toNat)
  case atStart => exact ⟨0, by omega, rfl, B0, L5⟩
  case round =>
    obtain ⟨k, hk, rfl, HB, hb⟩ := hrel
    rename World => Y0
    clear B0 L5
    by_cases hlt : k < 3
    · have h3 : k = 0 ∨ k = 1 ∨ k = 2 := by omega
      rcases h3 with rfl | rfl | rfl
      · have bC : blk Y0 w4.heap.size = some (.cells #[.int .i64 t0, .int .i64 t1, .int .i64 t2, .int .i64 t3, .int .i64 t4, .int .i64 t5, .int .i64 t6, .int .i64 t7, .int .i64 t8, .int .i64 t9, .int .i64 t10, .int .i64 t11, .int .i64 t12, .int .i64 t13, .int .i64 t14, .int .i64 t15, .int .i64 t16, .int .i64 t17] 25 (0, 0)) := HB.out.1
        have bM : blk Y0 W.heap.size = some (.cells (cs .i64 ms) 27 (0, 0)) := HB.out.2
        clear HB
        have lM := blk_lt bM
        have lC := blk_lt bC
        go_upto_region 9 with (fail)
        refine PredT.region_of (W := Y0) (W.heap.size + 2) (by omega) [14] [
            fun y => blk y w4.heap.size = some (.cells #[.int .i64 t0, .int .i64 t1, .int .i64 t2, .int .i64 t3, .int .i64 t4, .int .i64 t5, .int .i64 t6, .int .i64 t7, .int .i64 t8, .int .i64 t9, .int .i64 t10, .int .i64 t11, .int .i64 t12, .int .i64 t13, .int .i64 t14, .int .i64 t15, .int .i64 t16, .int .i64 t17] 25 (0, 0)) ∧ blk y W.heap.size = some (.cells (cs .i64 ms) 27 (0, 0)),
            fun y => blk y w4.heap.size = some (.cells #[.int .i64 p0, .int .i64 p1, .int .i64 p2, .int .i64 p3, .int .i64 t4, .int .i64 t5, .int .i64 t6, .int .i64 t7, .int .i64 t8, .int .i64 t9, .int .i64 t10, .int .i64 t11, .int .i64 t12, .int .i64 t13, .int .i64 t14, .int .i64 t15, .int .i64 t16, .int .i64 t17] 25 (0, 0)) ∧ blk y W.heap.size = some (.cells (cs .i64 ms) 27 (0, 0))] [
            PredT.At 0 (.slice (some ⟨w4.heap.size, 0, none⟩) 3 3),
            PredT.At 0 (.int .i64 0),
            PredT.At 0 (.agg (cs .i64 ms)),
            PredT.At 0 (.slice (some ⟨w4.heap.size, 0, none⟩) 3 3),
            PredT.At 0 (.int .i64 0),
            PredT.At 0 (.pointer (some ⟨w4.heap.size, 0, none⟩)),
            PredT.At 0 (.pointer (some ⟨w4.heap.size, 0, none⟩)),
            PredT.At 0 (.agg #[.int .i64 t0, .int .i64 t1, .int .i64 t2, .int .i64 t3]),
            PredT.At 0 (.tuple #[.agg #[.int .i64 p0, .int .i64 p1, .int .i64 p2, .int .i64 p3], .int .i64 0]),
            PredT.At 0 (.tuple #[.agg #[.int .i64 p0, .int .i64 p1, .int .i64 p2, .int .i64 p3], .int .i64 0]),
            PredT.At 0 (.agg #[.int .i64 p0, .int .i64 p1, .int .i64 p2, .int .i64 p3]),
            PredT.At 0 (.int .i64 0),
            PredT.At 0 (.pointer (some ⟨w4.heap.size, 0, none⟩)),
            PredT.At 0 (.pointer (some ⟨w4.heap.size, 0, none⟩)),
            PredT.At 0 (undef)] (by kernel_rfl) (by kernel_rfl) (by kernel_rfl) (by decide) (by decide) ?_ ?_ ?_ ?_ ?_ ?_
        · exact ⟨PredT.at_stab _ _ _ _, PredT.at_stab _ _ _ _, PredT.at_stab _ _ _ _, PredT.at_stab _ _ _ _, PredT.at_stab _ _ _ _, PredT.at_stab _ _ _ _, PredT.at_stab _ _ _ _, PredT.at_stab _ _ _ _, PredT.at_stab _ _ _ _, PredT.at_stab _ _ _ _, PredT.at_stab _ _ _ _, PredT.at_stab _ _ _ _, PredT.at_stab _ _ _ _, PredT.at_stab _ _ _ _, PredT.at_stab _ _ _ _, trivial⟩
        · intro q hq
          rcases List.mem_cons.1 hq with rfl | hq
          · exact fun w w' h hb => ⟨(hb.block _ (blk_lt h.1)).trans h.1, (hb.block _ (blk_lt h.2)).trans h.2⟩
          rcases List.mem_cons.1 hq with rfl | hq
          · exact fun w w' h hb => ⟨(hb.block _ (blk_lt h.1)).trans h.1, (hb.block _ (blk_lt h.2)).trans h.2⟩
          cases hq
        · exact ⟨bC, bM⟩
        · refine ⟨.inr ?_, .inr ?_, .inr ?_, .inr ?_, .inr ?_, .inr ?_, .inr ?_, .inr ?_, .inr ?_, .inr ?_, .inr ?_, .inr ?_, .inr ?_, .inr ?_, .inl rfl, trivial⟩
          · intro b X p hE hd hn hS hV hI hF
            have r10 : b.tmps[10]?.getD undef = .slice (some ⟨w4.heap.size, 0, none⟩) 3 3 := (hn 10 (by kernel_rfl)).trans rfl
            exact Pred.yields_run (v := .slice (some ⟨w4.heap.size, 0, none⟩) 3 3) (Pred.wanted_none rfl) (by go_simp) ⟨Below.refl _ _, rfl, Nat.zero_le _⟩
          · intro b X p hE hd hn hS hV hI hF
            have r11 : b.tmps[11]?.getD undef = .int .i64 0 := (hn 11 (by kernel_rfl)).trans rfl
            exact Pred.yields_run (v := .int .i64 0) (Pred.wanted_none rfl) (by go_simp) ⟨Below.refl _ _, rfl, Nat.zero_le _⟩
          · intro b X p hE hd hn hS hV hI hF
            have r4 : b.tmps[4]?.getD undef = .pointer (some ⟨W.heap.size, 0, none⟩) := (hn 4 (by kernel_rfl)).trans rfl
            have q : blk X W.heap.size = some (.cells (cs .i64 ms) 27 (0, 0)) := (hE.block W.heap.size (by omega)).trans bM
            exact Pred.yields_run (v := .agg (cs .i64 ms)) (Pred.wanted_none rfl) (by go_simp) ⟨Below.refl _ _, rfl, Nat.zero_le _⟩
          · intro b X p hE hd hn hS hV hI hF
            have r10 : b.tmps[10]?.getD undef = .slice (some ⟨w4.heap.size, 0, none⟩) 3 3 := (hn 10 (by kernel_rfl)).trans rfl
            exact Pred.yields_run (v := .slice (some ⟨w4.heap.size, 0, none⟩) 3 3) (Pred.wanted_none rfl) (by go_simp) ⟨Below.refl _ _, rfl, Nat.zero_le _⟩
          · intro b X p hE hd hn hS hV hI hF
            have r11 : b.tmps[11]?.getD undef = .int .i64 0 := (hn 11 (by kernel_rfl)).trans rfl
            exact Pred.yields_run (v := .int .i64 0) (Pred.wanted_none rfl) (by go_simp) ⟨Below.refl _ _, rfl, Nat.zero_le _⟩
          · intro b X p hE hd hn hS hV hI hF
            obtain ⟨r52, j52⟩ : PredT.At 0 (.slice (some ⟨w4.heap.size, 0, none⟩) 3 3) (b.tmps[52]?.getD undef) X p := hV 3 _ 52 rfl rfl (Pred.waits_near (by kernel_rfl) (by kernel_rfl))
            obtain ⟨r53, j53⟩ : PredT.At 0 (.int .i64 0) (b.tmps[53]?.getD undef) X p := hV 4 _ 53 rfl rfl (Pred.waits_near (by kernel_rfl) (by kernel_rfl))
            exact Pred.yields_run (v := .pointer (some ⟨w4.heap.size, 0, none⟩)) (Pred.wanted_none rfl) (by go_simp) ⟨Below.refl _ _, rfl, Nat.zero_le _⟩
          · intro b X p hE hd hn hS hV hI hF
            obtain ⟨r54, j54⟩ : PredT.At 0 (.pointer (some ⟨w4.heap.size, 0, none⟩)) (b.tmps[54]?.getD undef) X p := hV 5 _ 54 rfl rfl (Pred.waits_near (by kernel_rfl) (by kernel_rfl))
            exact Pred.yields_run (v := .pointer (some ⟨w4.heap.size, 0, none⟩)) (Pred.wanted_none rfl) (by go_simp) ⟨Below.refl _ _, rfl, Nat.zero_le _⟩
          · intro b X p hE hd hn hS hV hI hF
            obtain ⟨r55, j55⟩ : PredT.At 0 (.pointer (some ⟨w4.heap.size, 0, none⟩)) (b.tmps[55]?.getD undef) X p := hV 6 _ 55 rfl rfl (Pred.waits_near (by kernel_rfl) (by kernel_rfl))
            have hp0 : p = 0 := Nat.le_zero.1 (hF 0 14 rfl (by kernel_rfl))
            subst hp0
            have q : blk X w4.heap.size = some (.cells #[.int .i64 t0, .int .i64 t1, .int .i64 t2, .int .i64 t3, .int .i64 t4, .int .i64 t5, .int .i64 t6, .int .i64 t7, .int .i64 t8, .int .i64 t9, .int .i64 t10, .int .i64 t11, .int .i64 t12, .int .i64 t13, .int .i64 t14, .int .i64 t15, .int .i64 t16, .int .i64 t17] 25 (0, 0)) := hS.1
            exact Pred.yields_run (v := .agg #[.int .i64 t0, .int .i64 t1, .int .i64 t2, .int .i64 t3]) (Pred.wanted_none rfl) (by go_simp) ⟨Below.refl _ _, rfl, Nat.zero_le _⟩
          · intro b X p hE hd hn hS hV hI hF
            obtain ⟨r51, j51⟩ : PredT.At 0 (.agg (cs .i64 ms)) (b.tmps[51]?.getD undef) X p := hV 2 _ 51 rfl rfl (Pred.waits_near (by kernel_rfl) (by kernel_rfl))
            obtain ⟨r56, j56⟩ : PredT.At 0 (.agg #[.int .i64 t0, .int .i64 t1, .int .i64 t2, .int .i64 t3]) (b.tmps[56]?.getD undef) X p := hV 7 _ 56 rfl rfl (Pred.waits_near (by kernel_rfl) (by kernel_rfl))
            refine Pred.yields_call (f := 29) (args := #[.agg (cs .i64 ms), .agg #[.int .i64 t0, .int .i64 t1, .int .i64 t2, .int .i64 t3]]) (Pred.wanted_none rfl) (by go_simp) ?_
            exact (CA0.out _).mono fun e w2 ⟨he, hb⟩ => ⟨_, he, hb, rfl, Nat.zero_le _⟩
          · intro b X p hE hd hn hS hV hI hF
            obtain ⟨r57, j57⟩ : PredT.At 0 (.tuple #[.agg #[.int .i64 p0, .int .i64 p1, .int .i64 p2, .int .i64 p3], .int .i64 0]) (b.tmps[57]?.getD undef) X p := hV 8 _ 57 rfl rfl (Pred.waits_near (by kernel_rfl) (by kernel_rfl))
            exact Pred.yields_run (v := .tuple #[.agg #[.int .i64 p0, .int .i64 p1, .int .i64 p2, .int .i64 p3], .int .i64 0]) (Pred.wanted_none rfl) (by go_simp) ⟨Below.refl _ _, rfl, Nat.zero_le _⟩
          · intro b X p hE hd hn hS hV hI hF
            obtain ⟨r48, j48⟩ : PredT.At 0 (.tuple #[.agg #[.int .i64 p0, .int .i64 p1, .int .i64 p2, .int .i64 p3], .int .i64 0]) (b.tmps[48]?.getD undef) X p := hV 9 _ 48 rfl rfl (Pred.waits_near (by kernel_rfl) (by kernel_rfl))
            exact Pred.yields_run (v := .agg #[.int .i64 p0, .int .i64 p1, .int .i64 p2, .int .i64 p3]) (Pred.wanted_none rfl) (by go_simp) ⟨Below.refl _ _, rfl, Nat.zero_le _⟩
          · intro b X p hE hd hn hS hV hI hF
            obtain ⟨r48, j48⟩ : PredT.At 0 (.tuple #[.agg #[.int .i64 p0, .int .i64 p1, .int .i64 p2, .int .i64 p3], .int .i64 0]) (b.tmps[48]?.getD undef) X p := hV 9 _ 48 rfl rfl (Pred.waits_near (by kernel_rfl) (by kernel_rfl))
            exact Pred.yields_run (v := .int .i64 0) (Pred.wanted_none rfl) (by go_simp) ⟨Below.refl _ _, rfl, Nat.zero_le _⟩
          · intro b X p hE hd hn hS hV hI hF
            obtain ⟨r49, j49⟩ : PredT.At 0 (.slice (some ⟨w4.heap.size, 0, none⟩) 3 3) (b.tmps[49]?.getD undef) X p := hV 0 _ 49 rfl rfl (Pred.waits_near (by kernel_rfl) (by kernel_rfl))
            obtain ⟨r50, j50⟩ : PredT.At 0 (.int .i64 0) (b.tmps[50]?.getD undef) X p := hV 1 _ 50 rfl rfl (Pred.waits_near (by kernel_rfl) (by kernel_rfl))
            exact Pred.yields_run (v := .pointer (some ⟨w4.heap.size, 0, none⟩)) (Pred.wanted_none rfl) (by go_simp) ⟨Below.refl _ _, rfl, Nat.zero_le _⟩
          · intro b X p hE hd hn hS hV hI hF
            obtain ⟨r60, j60⟩ : PredT.At 0 (.pointer (some ⟨w4.heap.size, 0, none⟩)) (b.tmps[60]?.getD undef) X p := hV 12 _ 60 rfl rfl (Pred.waits_near (by kernel_rfl) (by kernel_rfl))
            exact Pred.yields_run (v := .pointer (some ⟨w4.heap.size, 0, none⟩)) (Pred.wanted_none rfl) (by go_simp) ⟨Below.refl _ _, rfl, Nat.zero_le _⟩
        · refine ⟨?_, trivial⟩
          · refine ⟨_, rfl, fun k hk => (by cases hk), fun b X hE hd hn hS hV hI => ?_⟩
            obtain ⟨r61, j61⟩ : PredT.At 0 (.pointer (some ⟨w4.heap.size, 0, none⟩)) (b.tmps[61]?.getD undef) X 0 := hV 13 _ 61 rfl rfl (Pred.waits_near (by kernel_rfl) (by kernel_rfl))
            obtain ⟨r58, j58⟩ : PredT.At 0 (.agg #[.int .i64 p0, .int .i64 p1, .int .i64 p2, .int .i64 p3]) (b.tmps[58]?.getD undef) X 0 := hV 10 _ 58 rfl rfl (Pred.waits_near (by kernel_rfl) (by kernel_rfl))
            replace hS : (fun y => blk y w4.heap.size = some (.cells #[.int .i64 t0, .int .i64 t1, .int .i64 t2, .int .i64 t3, .int .i64 t4, .int .i64 t5, .int .i64 t6, .int .i64 t7, .int .i64 t8, .int .i64 t9, .int .i64 t10, .int .i64 t11, .int .i64 t12, .int .i64 t13, .int .i64 t14, .int .i64 t15, .int .i64 t16, .int .i64 t17] 25 (0, 0)) ∧ blk y W.heap.size = some (.cells (cs .i64 ms) 27 (0, 0))) X := hS
            have q : blk X w4.heap.size = some (.cells #[.int .i64 t0, .int .i64 t1, .int .i64 t2, .int .i64 t3, .int .i64 t4, .int .i64 t5, .int .i64 t6, .int .i64 t7, .int .i64 t8, .int .i64 t9, .int .i64 t10, .int .i64 t11, .int .i64 t12, .int .i64 t13, .int .i64 t14, .int .i64 t15, .int .i64 t16, .int .i64 t17] 25 (0, 0)) := hS.1
            exact PredS.yields_skip (w' := X.setRow w4.heap.size #[.int .i64 p0, .int .i64 p1, .int .i64 p2, .int .i64 p3, .int .i64 t4, .int .i64 t5, .int .i64 t6, .int .i64 t7, .int .i64 t8, .int .i64 t9, .int .i64 t10, .int .i64 t11, .int .i64 t12, .int .i64 t13, .int .i64 t14, .int .i64 t15, .int .i64 t16, .int .i64 t17]) (Pred.wanted_none rfl) (by go_simp) ⟨below_setRow (Below.refl _ _) (by omega) _, ⟨blk_setRow_of q _, (blk_setRow_other _ _ _ _ (by omega)).trans hS.2⟩, rfl, Nat.zero_le _⟩
        intro v w6 hE hS hv
        replace hS : (fun y => blk y w4.heap.size = some (.cells #[.int .i64 p0, .int .i64 p1, .int .i64 p2, .int .i64 p3, .int .i64 t4, .int .i64 t5, .int .i64 t6, .int .i64 t7, .int .i64 t8, .int .i64 t9, .int .i64 t10, .int .i64 t11, .int .i64 t12, .int .i64 t13, .int .i64 t14, .int .i64 t15, .int .i64 t16, .int .i64 t17] 25 (0, 0)) ∧ blk y W.heap.size = some (.cells (cs .i64 ms) 27 (0, 0))) w6 := hS
        have e0 : v 0 = .slice (some ⟨w4.heap.size, 0, none⟩) 3 3 := (hv 0 _ 49 rfl rfl).1
        have e1 : v 1 = .int .i64 0 := (hv 1 _ 50 rfl rfl).1
        have e2 : v 2 = .agg (cs .i64 ms) := (hv 2 _ 51 rfl rfl).1
        have e3 : v 3 = .slice (some ⟨w4.heap.size, 0, none⟩) 3 3 := (hv 3 _ 52 rfl rfl).1
        have e4 : v 4 = .int .i64 0 := (hv 4 _ 53 rfl rfl).1
        have e5 : v 5 = .pointer (some ⟨w4.heap.size, 0, none⟩) := (hv 5 _ 54 rfl rfl).1
        have e6 : v 6 = .pointer (some ⟨w4.heap.size, 0, none⟩) := (hv 6 _ 55 rfl rfl).1
        have e7 : v 7 = .agg #[.int .i64 t0, .int .i64 t1, .int .i64 t2, .int .i64 t3] := (hv 7 _ 56 rfl rfl).1
        have e8 : v 8 = .tuple #[.agg #[.int .i64 p0, .int .i64 p1, .int .i64 p2, .int .i64 p3], .int .i64 0] := (hv 8 _ 57 rfl rfl).1
        have e9 : v 9 = .tuple #[.agg #[.int .i64 p0, .int .i64 p1, .int .i64 p2, .int .i64 p3], .int .i64 0] := (hv 9 _ 48 rfl rfl).1
        have e10 : v 10 = .agg #[.int .i64 p0, .int .i64 p1, .int .i64 p2, .int .i64 p3] := (hv 10 _ 58 rfl rfl).1
        have e11 : v 11 = .int .i64 0 := (hv 11 _ 59 rfl rfl).1
        have e12 : v 12 = .pointer (some ⟨w4.heap.size, 0, none⟩) := (hv 12 _ 60 rfl rfl).1
        have e13 : v 13 = .pointer (some ⟨w4.heap.size, 0, none⟩) := (hv 13 _ 61 rfl rfl).1
        simp only [Pred.putsF_cons, Pred.putsF_nil, Nat.zero_add, Nat.reduceAdd, e0, e1, e2, e3, e4, e5, e6, e7, e8, e9, e10, e11, e12, e13, Act.put, List.setIfInBounds_toArray, List.set_cons_zero, List.set_cons_succ]
        clear e0 e1 e2 e3 e4 e5 e6 e7 e8 e9 e10 e11 e12 e13 hv
        have bC6 := hS.1
        have bM6 := hS.2
        have L6 : Below W.heap.size W w6 := hb.trans (hE.mono (by omega))
        have lC6 := blk_lt bC6
        clear hS hE bC bM hb lM lC
        go_wp2
        go_roundw
        case rel =>
          refine ⟨1, by omega, rfl, ⟨?_, ?_⟩, by repeat' (first | (with_reducible exact Below.refl _ _) | (with_reducible refine Rd.below_step ?_ (by assumption)) | (with_reducible refine Rd.below_alloc ?_ _) | (with_reducible refine Rd.below_drewN ?_ _) | (with_reducible refine Below.drew ?_) | (with_reducible refine Below.setCell ?_ ?_ _) | (with_reducible refine Rd.below_setRow ?_ ?_ _) | go_size | (simp only [World.size_alloc]; omega) | omega)⟩
          · exact bC6
          · exact bM6
        case measure => simp [intOf]
      · have bC : blk Y0 w4.heap.size = some (.cells #[.int .i64 p0, .int .i64 p1, .int .i64 p2, .int .i64 p3, .int .i64 t4, .int .i64 t5, .int .i64 t6, .int .i64 t7, .int .i64 t8, .int .i64 t9, .int .i64 t10, .int .i64 t11, .int .i64 t12, .int .i64 t13, .int .i64 t14, .int .i64 t15, .int .i64 t16, .int .i64 t17] 25 (0, 0)) := HB.out.1
        have bM : blk Y0 W.heap.size = some (.cells (cs .i64 ms) 27 (0, 0)) := HB.out.2
        clear HB
        have lM := blk_lt bM
        have lC := blk_lt bC
        go_upto_region 9 with (fail)
        refine PredT.region_of (W := Y0) (W.heap.size + 2) (by omega) [14] [
            fun y => blk y w4.heap.size = some (.cells #[.int .i64 p0, .int .i64 p1, .int .i64 p2, .int .i64 p3, .int .i64 t4, .int .i64 t5, .int .i64 t6, .int .i64 t7, .int .i64 t8, .int .i64 t9, .int .i64 t10, .int .i64 t11, .int .i64 t12, .int .i64 t13, .int .i64 t14, .int .i64 t15, .int .i64 t16, .int .i64 t17] 25 (0, 0)) ∧ blk y W.heap.size = some (.cells (cs .i64 ms) 27 (0, 0)),
            fun y => blk y w4.heap.size = some (.cells #[.int .i64 p0, .int .i64 p1, .int .i64 p2, .int .i64 p3, .int .i64 t4, .int .i64 t5, .int .i64 q0, .int .i64 q1, .int .i64 q2, .int .i64 q3, .int .i64 t10, .int .i64 t11, .int .i64 t12, .int .i64 t13, .int .i64 t14, .int .i64 t15, .int .i64 t16, .int .i64 t17] 25 (0, 0)) ∧ blk y W.heap.size = some (.cells (cs .i64 ms) 27 (0, 0))] [
            PredT.At 0 (.slice (some ⟨w4.heap.size, 0, none⟩) 3 3),
            PredT.At 0 (.int .i64 1),
            PredT.At 0 (.agg (cs .i64 ms)),
            PredT.At 0 (.slice (some ⟨w4.heap.size, 0, none⟩) 3 3),
            PredT.At 0 (.int .i64 1),
            PredT.At 0 (.pointer (some ⟨w4.heap.size, 6, none⟩)),
            PredT.At 0 (.pointer (some ⟨w4.heap.size, 6, none⟩)),
            PredT.At 0 (.agg #[.int .i64 t6, .int .i64 t7, .int .i64 t8, .int .i64 t9]),
            PredT.At 0 (.tuple #[.agg #[.int .i64 q0, .int .i64 q1, .int .i64 q2, .int .i64 q3], .int .i64 0]),
            PredT.At 0 (.tuple #[.agg #[.int .i64 q0, .int .i64 q1, .int .i64 q2, .int .i64 q3], .int .i64 0]),
            PredT.At 0 (.agg #[.int .i64 q0, .int .i64 q1, .int .i64 q2, .int .i64 q3]),
            PredT.At 0 (.int .i64 0),
            PredT.At 0 (.pointer (some ⟨w4.heap.size, 6, none⟩)),
            PredT.At 0 (.pointer (some ⟨w4.heap.size, 6, none⟩)),
            PredT.At 0 (undef)] (by kernel_rfl) (by kernel_rfl) (by kernel_rfl) (by decide) (by decide) ?_ ?_ ?_ ?_ ?_ ?_
        · exact ⟨PredT.at_stab _ _ _ _, PredT.at_stab _ _ _ _, PredT.at_stab _ _ _ _, PredT.at_stab _ _ _ _, PredT.at_stab _ _ _ _, PredT.at_stab _ _ _ _, PredT.at_stab _ _ _ _, PredT.at_stab _ _ _ _, PredT.at_stab _ _ _ _, PredT.at_stab _ _ _ _, PredT.at_stab _ _ _ _, PredT.at_stab _ _ _ _, PredT.at_stab _ _ _ _, PredT.at_stab _ _ _ _, PredT.at_stab _ _ _ _, trivial⟩
        · intro q hq
          rcases List.mem_cons.1 hq with rfl | hq
          · exact fun w w' h hb => ⟨(hb.block _ (blk_lt h.1)).trans h.1, (hb.block _ (blk_lt h.2)).trans h.2⟩
          rcases List.mem_cons.1 hq with rfl | hq
          · exact fun w w' h hb => ⟨(hb.block _ (blk_lt h.1)).trans h.1, (hb.block _ (blk_lt h.2)).trans h.2⟩
          cases hq
        · exact ⟨bC, bM⟩
        · refine ⟨.inr ?_, .inr ?_, .inr ?_, .inr ?_, .inr ?_, .inr ?_, .inr ?_, .inr ?_, .inr ?_, .inr ?_, .inr ?_, .inr ?_, .inr ?_, .inr ?_, .inl rfl, trivial⟩
          · intro b X p hE hd hn hS hV hI hF
            have r10 : b.tmps[10]?.getD undef = .slice (some ⟨w4.heap.size, 0, none⟩) 3 3 := (hn 10 (by kernel_rfl)).trans rfl
            exact Pred.yields_run (v := .slice (some ⟨w4.heap.size, 0, none⟩) 3 3) (Pred.wanted_none rfl) (by go_simp) ⟨Below.refl _ _, rfl, Nat.zero_le _⟩
          · intro b X p hE hd hn hS hV hI hF
            have r11 : b.tmps[11]?.getD undef = .int .i64 1 := (hn 11 (by kernel_rfl)).trans rfl
            exact Pred.yields_run (v := .int .i64 1) (Pred.wanted_none rfl) (by go_simp) ⟨Below.refl _ _, rfl, Nat.zero_le _⟩
          · intro b X p hE hd hn hS hV hI hF
            have r4 : b.tmps[4]?.getD undef = .pointer (some ⟨W.heap.size, 0, none⟩) := (hn 4 (by kernel_rfl)).trans rfl
            have q : blk X W.heap.size = some (.cells (cs .i64 ms) 27 (0, 0)) := (hE.block W.heap.size (by omega)).trans bM
            exact Pred.yields_run (v := .agg (cs .i64 ms)) (Pred.wanted_none rfl) (by go_simp) ⟨Below.refl _ _, rfl, Nat.zero_le _⟩
          · intro b X p hE hd hn hS hV hI hF
            have r10 : b.tmps[10]?.getD undef = .slice (some ⟨w4.heap.size, 0, none⟩) 3 3 := (hn 10 (by kernel_rfl)).trans rfl
            exact Pred.yields_run (v := .slice (some ⟨w4.heap.size, 0, none⟩) 3 3) (Pred.wanted_none rfl) (by go_simp) ⟨Below.refl _ _, rfl, Nat.zero_le _⟩
          · intro b X p hE hd hn hS hV hI hF
            have r11 : b.tmps[11]?.getD undef = .int .i64 1 := (hn 11 (by kernel_rfl)).trans rfl
            exact Pred.yields_run (v := .int .i64 1) (Pred.wanted_none rfl) (by go_simp) ⟨Below.refl _ _, rfl, Nat.zero_le _⟩
          · intro b X p hE hd hn hS hV hI hF
            obtain ⟨r52, j52⟩ : PredT.At 0 (.slice (some ⟨w4.heap.size, 0, none⟩) 3 3) (b.tmps[52]?.getD undef) X p := hV 3 _ 52 rfl rfl (Pred.waits_near (by kernel_rfl) (by kernel_rfl))
            obtain ⟨r53, j53⟩ : PredT.At 0 (.int .i64 1) (b.tmps[53]?.getD undef) X p := hV 4 _ 53 rfl rfl (Pred.waits_near (by kernel_rfl) (by kernel_rfl))
            exact Pred.yields_run (v := .pointer (some ⟨w4.heap.size, 6, none⟩)) (Pred.wanted_none rfl) (by go_simp) ⟨Below.refl _ _, rfl, Nat.zero_le _⟩
          · intro b X p hE hd hn hS hV hI hF
            obtain ⟨r54, j54⟩ : PredT.At 0 (.pointer (some ⟨w4.heap.size, 6, none⟩)) (b.tmps[54]?.getD undef) X p := hV 5 _ 54 rfl rfl (Pred.waits_near (by kernel_rfl) (by kernel_rfl))
            exact Pred.yields_run (v := .pointer (some ⟨w4.heap.size, 6, none⟩)) (Pred.wanted_none rfl) (by go_simp) ⟨Below.refl _ _, rfl, Nat.zero_le _⟩
          · intro b X p hE hd hn hS hV hI hF
            obtain ⟨r55, j55⟩ : PredT.At 0 (.pointer (some ⟨w4.heap.size, 6, none⟩)) (b.tmps[55]?.getD undef) X p := hV 6 _ 55 rfl rfl (Pred.waits_near (by kernel_rfl) (by kernel_rfl))
            have hp0 : p = 0 := Nat.le_zero.1 (hF 0 14 rfl (by kernel_rfl))
            subst hp0
            have q : blk X w4.heap.size = some (.cells #[.int .i64 p0, .int .i64 p1, .int .i64 p2, .int .i64 p3, .int .i64 t4, .int .i64 t5, .int .i64 t6, .int .i64 t7, .int .i64 t8, .int .i64 t9, .int .i64 t10, .int .i64 t11, .int .i64 t12, .int .i64 t13, .int .i64 t14, .int .i64 t15, .int .i64 t16, .int .i64 t17] 25 (0, 0)) := hS.1
            exact Pred.yields_run (v := .agg #[.int .i64 t6, .int .i64 t7, .int .i64 t8, .int .i64 t9]) (Pred.wanted_none rfl) (by go_simp) ⟨Below.refl _ _, rfl, Nat.zero_le _⟩
          · intro b X p hE hd hn hS hV hI hF
            obtain ⟨r51, j51⟩ : PredT.At 0 (.agg (cs .i64 ms)) (b.tmps[51]?.getD undef) X p := hV 2 _ 51 rfl rfl (Pred.waits_near (by kernel_rfl) (by kernel_rfl))
            obtain ⟨r56, j56⟩ : PredT.At 0 (.agg #[.int .i64 t6, .int .i64 t7, .int .i64 t8, .int .i64 t9]) (b.tmps[56]?.getD undef) X p := hV 7 _ 56 rfl rfl (Pred.waits_near (by kernel_rfl) (by kernel_rfl))
            refine Pred.yields_call (f := 29) (args := #[.agg (cs .i64 ms), .agg #[.int .i64 t6, .int .i64 t7, .int .i64 t8, .int .i64 t9]]) (Pred.wanted_none rfl) (by go_simp) ?_
            exact (CA1.out _).mono fun e w2 ⟨he, hb⟩ => ⟨_, he, hb, rfl, Nat.zero_le _⟩
          · intro b X p hE hd hn hS hV hI hF
            obtain ⟨r57, j57⟩ : PredT.At 0 (.tuple #[.agg #[.int .i64 q0, .int .i64 q1, .int .i64 q2, .int .i64 q3], .int .i64 0]) (b.tmps[57]?.getD undef) X p := hV 8 _ 57 rfl rfl (Pred.waits_near (by kernel_rfl) (by kernel_rfl))
            exact Pred.yields_run (v := .tuple #[.agg #[.int .i64 q0, .int .i64 q1, .int .i64 q2, .int .i64 q3], .int .i64 0]) (Pred.wanted_none rfl) (by go_simp) ⟨Below.refl _ _, rfl, Nat.zero_le _⟩
          · intro b X p hE hd hn hS hV hI hF
            obtain ⟨r48, j48⟩ : PredT.At 0 (.tuple #[.agg #[.int .i64 q0, .int .i64 q1, .int .i64 q2, .int .i64 q3], .int .i64 0]) (b.tmps[48]?.getD undef) X p := hV 9 _ 48 rfl rfl (Pred.waits_near (by kernel_rfl) (by kernel_rfl))
            exact Pred.yields_run (v := .agg #[.int .i64 q0, .int .i64 q1, .int .i64 q2, .int .i64 q3]) (Pred.wanted_none rfl) (by go_simp) ⟨Below.refl _ _, rfl, Nat.zero_le _⟩
          · intro b X p hE hd hn hS hV hI hF
            obtain ⟨r48, j48⟩ : PredT.At 0 (.tuple #[.agg #[.int .i64 q0, .int .i64 q1, .int .i64 q2, .int .i64 q3], .int .i64 0]) (b.tmps[48]?.getD undef) X p := hV 9 _ 48 rfl rfl (Pred.waits_near (by kernel_rfl) (by kernel_rfl))
            exact Pred.yields_run (v := .int .i64 0) (Pred.wanted_none rfl) (by go_simp) ⟨Below.refl _ _, rfl, Nat.zero_le _⟩
          · intro b X p hE hd hn hS hV hI hF
            obtain ⟨r49, j49⟩ : PredT.At 0 (.slice (some ⟨w4.heap.size, 0, none⟩) 3 3) (b.tmps[49]?.getD undef) X p := hV 0 _ 49 rfl rfl (Pred.waits_near (by kernel_rfl) (by kernel_rfl))
            obtain ⟨r50, j50⟩ : PredT.At 0 (.int .i64 1) (b.tmps[50]?.getD undef) X p := hV 1 _ 50 rfl rfl (Pred.waits_near (by kernel_rfl) (by kernel_rfl))
            exact Pred.yields_run (v := .pointer (some ⟨w4.heap.size, 6, none⟩)) (Pred.wanted_none rfl) (by go_simp) ⟨Below.refl _ _, rfl, Nat.zero_le _⟩
          · intro b X p hE hd hn hS hV hI hF
            obtain ⟨r60, j60⟩ : PredT.At 0 (.pointer (some ⟨w4.heap.size, 6, none⟩)) (b.tmps[60]?.getD undef) X p := hV 12 _ 60 rfl rfl (Pred.waits_near (by kernel_rfl) (by kernel_rfl))
            exact Pred.yields_run (v := .pointer (some ⟨w4.heap.size, 6, none⟩)) (Pred.wanted_none rfl) (by go_simp) ⟨Below.refl _ _, rfl, Nat.zero_le _⟩
        · refine ⟨?_, trivial⟩
          · refine ⟨_, rfl, fun k hk => (by cases hk), fun b X hE hd hn hS hV hI => ?_⟩
            obtain ⟨r61, j61⟩ : PredT.At 0 (.pointer (some ⟨w4.heap.size, 6, none⟩)) (b.tmps[61]?.getD undef) X 0 := hV 13 _ 61 rfl rfl (Pred.waits_near (by kernel_rfl) (by kernel_rfl))
            obtain ⟨r58, j58⟩ : PredT.At 0 (.agg #[.int .i64 q0, .int .i64 q1, .int .i64 q2, .int .i64 q3]) (b.tmps[58]?.getD undef) X 0 := hV 10 _ 58 rfl rfl (Pred.waits_near (by kernel_rfl) (by kernel_rfl))
            replace hS : (fun y => blk y w4.heap.size = some (.cells #[.int .i64 p0, .int .i64 p1, .int .i64 p2, .int .i64 p3, .int .i64 t4, .int .i64 t5, .int .i64 t6, .int .i64 t7, .int .i64 t8, .int .i64 t9, .int .i64 t10, .int .i64 t11, .int .i64 t12, .int .i64 t13, .int .i64 t14, .int .i64 t15, .int .i64 t16, .int .i64 t17] 25 (0, 0)) ∧ blk y W.heap.size = some (.cells (cs .i64 ms) 27 (0, 0))) X := hS
            have q : blk X w4.heap.size = some (.cells #[.int .i64 p0, .int .i64 p1, .int .i64 p2, .int .i64 p3, .int .i64 t4, .int .i64 t5, .int .i64 t6, .int .i64 t7, .int .i64 t8, .int .i64 t9, .int .i64 t10, .int .i64 t11, .int .i64 t12, .int .i64 t13, .int .i64 t14, .int .i64 t15, .int .i64 t16, .int .i64 t17] 25 (0, 0)) := hS.1
            exact PredS.yields_skip (w' := X.setRow w4.heap.size #[.int .i64 p0, .int .i64 p1, .int .i64 p2, .int .i64 p3, .int .i64 t4, .int .i64 t5, .int .i64 q0, .int .i64 q1, .int .i64 q2, .int .i64 q3, .int .i64 t10, .int .i64 t11, .int .i64 t12, .int .i64 t13, .int .i64 t14, .int .i64 t15, .int .i64 t16, .int .i64 t17]) (Pred.wanted_none rfl) (by go_simp) ⟨below_setRow (Below.refl _ _) (by omega) _, ⟨blk_setRow_of q _, (blk_setRow_other _ _ _ _ (by omega)).trans hS.2⟩, rfl, Nat.zero_le _⟩
        intro v w6 hE hS hv
        replace hS : (fun y => blk y w4.heap.size = some (.cells #[.int .i64 p0, .int .i64 p1, .int .i64 p2, .int .i64 p3, .int .i64 t4, .int .i64 t5, .int .i64 q0, .int .i64 q1, .int .i64 q2, .int .i64 q3, .int .i64 t10, .int .i64 t11, .int .i64 t12, .int .i64 t13, .int .i64 t14, .int .i64 t15, .int .i64 t16, .int .i64 t17] 25 (0, 0)) ∧ blk y W.heap.size = some (.cells (cs .i64 ms) 27 (0, 0))) w6 := hS
        have e0 : v 0 = .slice (some ⟨w4.heap.size, 0, none⟩) 3 3 := (hv 0 _ 49 rfl rfl).1
        have e1 : v 1 = .int .i64 1 := (hv 1 _ 50 rfl rfl).1
        have e2 : v 2 = .agg (cs .i64 ms) := (hv 2 _ 51 rfl rfl).1
        have e3 : v 3 = .slice (some ⟨w4.heap.size, 0, none⟩) 3 3 := (hv 3 _ 52 rfl rfl).1
        have e4 : v 4 = .int .i64 1 := (hv 4 _ 53 rfl rfl).1
        have e5 : v 5 = .pointer (some ⟨w4.heap.size, 6, none⟩) := (hv 5 _ 54 rfl rfl).1
        have e6 : v 6 = .pointer (some ⟨w4.heap.size, 6, none⟩) := (hv 6 _ 55 rfl rfl).1
        have e7 : v 7 = .agg #[.int .i64 t6, .int .i64 t7, .int .i64 t8, .int .i64 t9] := (hv 7 _ 56 rfl rfl).1
        have e8 : v 8 = .tuple #[.agg #[.int .i64 q0, .int .i64 q1, .int .i64 q2, .int .i64 q3], .int .i64 0] := (hv 8 _ 57 rfl rfl).1
        have e9 : v 9 = .tuple #[.agg #[.int .i64 q0, .int .i64 q1, .int .i64 q2, .int .i64 q3], .int .i64 0] := (hv 9 _ 48 rfl rfl).1
        have e10 : v 10 = .agg #[.int .i64 q0, .int .i64 q1, .int .i64 q2, .int .i64 q3] := (hv 10 _ 58 rfl rfl).1
        have e11 : v 11 = .int .i64 0 := (hv 11 _ 59 rfl rfl).1
        have e12 : v 12 = .pointer (some ⟨w4.heap.size, 6, none⟩) := (hv 12 _ 60 rfl rfl).1
        have e13 : v 13 = .pointer (some ⟨w4.heap.size, 6, none⟩) := (hv 13 _ 61 rfl rfl).1
        simp only [Pred.putsF_cons, Pred.putsF_nil, Nat.zero_add, Nat.reduceAdd, e0, e1, e2, e3, e4, e5, e6, e7, e8, e9, e10, e11, e12, e13, Act.put, List.setIfInBounds_toArray, List.set_cons_zero, List.set_cons_succ]
        clear e0 e1 e2 e3 e4 e5 e6 e7 e8 e9 e10 e11 e12 e13 hv
        have bC6 := hS.1
        have bM6 := hS.2
        have L6 : Below W.heap.size W w6 := hb.trans (hE.mono (by omega))
        have lC6 := blk_lt bC6
        clear hS hE bC bM hb lM lC
        go_wp2
        go_roundw
        case rel =>
          refine ⟨2, by omega, rfl, ⟨?_, ?_⟩, by repeat' (first | (with_reducible exact Below.refl _ _) | (with_reducible refine Rd.below_step ?_ (by assumption)) | (with_reducible refine Rd.below_alloc ?_ _) | (with_reducible refine Rd.below_drewN ?_ _) | (with_reducible refine Below.drew ?_) | (with_reducible refine Below.setCell ?_ ?_ _) | (with_reducible refine Rd.below_setRow ?_ ?_ _) | go_size | (simp only [World.size_alloc]; omega) | omega)⟩
          · exact bC6
          · exact bM6
        case measure => simp [intOf]
      · have bC : blk Y0 w4.heap.size = some (.cells #[.int .i64 p0, .int .i64 p1, .int .i64 p2, .int .i64 p3, .int .i64 t4, .int .i64 t5, .int .i64 q0, .int .i64 q1, .int .i64 q2, .int .i64 q3, .int .i64 t10, .int .i64 t11, .int .i64 t12, .int .i64 t13, .int .i64 t14, .int .i64 t15, .int .i64 t16, .int .i64 t17] 25 (0, 0)) := HB.out.1
        have bM : blk Y0 W.heap.size = some (.cells (cs .i64 ms) 27 (0, 0)) := HB.out.2
        clear HB
        have lM := blk_lt bM
        have lC := blk_lt bC
        go_upto_region 9 with (fail)
        refine PredT.region_of (W := Y0) (W.heap.size + 2) (by omega) [14] [
            fun y => blk y w4.heap.size = some (.cells #[.int .i64 p0, .int .i64 p1, .int .i64 p2, .int .i64 p3, .int .i64 t4, .int .i64 t5, .int .i64 q0, .int .i64 q1, .int .i64 q2, .int .i64 q3, .int .i64 t10, .int .i64 t11, .int .i64 t12, .int .i64 t13, .int .i64 t14, .int .i64 t15, .int .i64 t16, .int .i64 t17] 25 (0, 0)) ∧ blk y W.heap.size = some (.cells (cs .i64 ms) 27 (0, 0)),
            fun y => blk y w4.heap.size = some (.cells #[.int .i64 p0, .int .i64 p1, .int .i64 p2, .int .i64 p3, .int .i64 t4, .int .i64 t5, .int .i64 q0, .int .i64 q1, .int .i64 q2, .int .i64 q3, .int .i64 t10, .int .i64 t11, .int .i64 r0, .int .i64 r1, .int .i64 r2, .int .i64 r3, .int .i64 t16, .int .i64 t17] 25 (0, 0)) ∧ blk y W.heap.size = some (.cells (cs .i64 ms) 27 (0, 0))] [
            PredT.At 0 (.slice (some ⟨w4.heap.size, 0, none⟩) 3 3),
            PredT.At 0 (.int .i64 2),
            PredT.At 0 (.agg (cs .i64 ms)),
            PredT.At 0 (.slice (some ⟨w4.heap.size, 0, none⟩) 3 3),
            PredT.At 0 (.int .i64 2),
            PredT.At 0 (.pointer (some ⟨w4.heap.size, 12, none⟩)),
            PredT.At 0 (.pointer (some ⟨w4.heap.size, 12, none⟩)),
            PredT.At 0 (.agg #[.int .i64 t12, .int .i64 t13, .int .i64 t14, .int .i64 t15]),
            PredT.At 0 (.tuple #[.agg #[.int .i64 r0, .int .i64 r1, .int .i64 r2, .int .i64 r3], .int .i64 0]),
            PredT.At 0 (.tuple #[.agg #[.int .i64 r0, .int .i64 r1, .int .i64 r2, .int .i64 r3], .int .i64 0]),
            PredT.At 0 (.agg #[.int .i64 r0, .int .i64 r1, .int .i64 r2, .int .i64 r3]),
            PredT.At 0 (.int .i64 0),
            PredT.At 0 (.pointer (some ⟨w4.heap.size, 12, none⟩)),
            PredT.At 0 (.pointer (some ⟨w4.heap.size, 12, none⟩)),
            PredT.At 0 (undef)] (by kernel_rfl) (by kernel_rfl) (by kernel_rfl) (by decide) (by decide) ?_ ?_ ?_ ?_ ?_ ?_
        · exact ⟨PredT.at_stab _ _ _ _, PredT.at_stab _ _ _ _, PredT.at_stab _ _ _ _, PredT.at_stab _ _ _ _, PredT.at_stab _ _ _ _, PredT.at_stab _ _ _ _, PredT.at_stab _ _ _ _, PredT.at_stab _ _ _ _, PredT.at_stab _ _ _ _, PredT.at_stab _ _ _ _, PredT.at_stab _ _ _ _, PredT.at_stab _ _ _ _, PredT.at_stab _ _ _ _, PredT.at_stab _ _ _ _, PredT.at_stab _ _ _ _, trivial⟩
        · intro q hq
          rcases List.mem_cons.1 hq with rfl | hq
          · exact fun w w' h hb => ⟨(hb.block _ (blk_lt h.1)).trans h.1, (hb.block _ (blk_lt h.2)).trans h.2⟩
          rcases List.mem_cons.1 hq with rfl | hq
          · exact fun w w' h hb => ⟨(hb.block _ (blk_lt h.1)).trans h.1, (hb.block _ (blk_lt h.2)).trans h.2⟩
          cases hq
        · exact ⟨bC, bM⟩
        · refine ⟨.inr ?_, .inr ?_, .inr ?_, .inr ?_, .inr ?_, .inr ?_, .inr ?_, .inr ?_, .inr ?_, .inr ?_, .inr ?_, .inr ?_, .inr ?_, .inr ?_, .inl rfl, trivial⟩
          · intro b X p hE hd hn hS hV hI hF
            have r10 : b.tmps[10]?.getD undef = .slice (some ⟨w4.heap.size, 0, none⟩) 3 3 := (hn 10 (by kernel_rfl)).trans rfl
            exact Pred.yields_run (v := .slice (some ⟨w4.heap.size, 0, none⟩) 3 3) (Pred.wanted_none rfl) (by go_simp) ⟨Below.refl _ _, rfl, Nat.zero_le _⟩
          · intro b X p hE hd hn hS hV hI hF
            have r11 : b.tmps[11]?.getD undef = .int .i64 2 := (hn 11 (by kernel_rfl)).trans rfl
            exact Pred.yields_run (v := .int .i64 2) (Pred.wanted_none rfl) (by go_simp) ⟨Below.refl _ _, rfl, Nat.zero_le _⟩
          · intro b X p hE hd hn hS hV hI hF
            have r4 : b.tmps[4]?.getD undef = .pointer (some ⟨W.heap.size, 0, none⟩) := (hn 4 (by kernel_rfl)).trans rfl
            have q : blk X W.heap.size = some (.cells (cs .i64 ms) 27 (0, 0)) := (hE.block W.heap.size (by omega)).trans bM
            exact Pred.yields_run (v := .agg (cs .i64 ms)) (Pred.wanted_none rfl) (by go_simp) ⟨Below.refl _ _, rfl, Nat.zero_le _⟩
          · intro b X p hE hd hn hS hV hI hF
            have r10 : b.tmps[10]?.getD undef = .slice (some ⟨w4.heap.size, 0, none⟩) 3 3 := (hn 10 (by kernel_rfl)).trans rfl
            exact Pred.yields_run (v := .slice (some ⟨w4.heap.size, 0, none⟩) 3 3) (Pred.wanted_none rfl) (by go_simp) ⟨Below.refl _ _, rfl, Nat.zero_le _⟩
          · intro b X p hE hd hn hS hV hI hF
            have r11 : b.tmps[11]?.getD undef = .int .i64 2 := (hn 11 (by kernel_rfl)).trans rfl
            exact Pred.yields_run (v := .int .i64 2) (Pred.wanted_none rfl) (by go_simp) ⟨Below.refl _ _, rfl, Nat.zero_le _⟩
          · intro b X p hE hd hn hS hV hI hF
            obtain ⟨r52, j52⟩ : PredT.At 0 (.slice (some ⟨w4.heap.size, 0, none⟩) 3 3) (b.tmps[52]?.getD undef) X p := hV 3 _ 52 rfl rfl (Pred.waits_near (by kernel_rfl) (by kernel_rfl))
            obtain ⟨r53, j53⟩ : PredT.At 0 (.int .i64 2) (b.tmps[53]?.getD undef) X p := hV 4 _ 53 rfl rfl (Pred.waits_near (by kernel_rfl) (by kernel_rfl))
            exact Pred.yields_run (v := .pointer (some ⟨w4.heap.size, 12, none⟩)) (Pred.wanted_none rfl) (by go_simp) ⟨Below.refl _ _, rfl, Nat.zero_le _⟩
          · intro b X p hE hd hn hS hV hI hF
            obtain ⟨r54, j54⟩ : PredT.At 0 (.pointer (some ⟨w4.heap.size, 12, none⟩)) (b.tmps[54]?.getD undef) X p := hV 5 _ 54 rfl rfl (Pred.waits_near (by kernel_rfl) (by kernel_rfl))
            exact Pred.yields_run (v := .pointer (some ⟨w4.heap.size, 12, none⟩)) (Pred.wanted_none rfl) (by go_simp) ⟨Below.refl _ _, rfl, Nat.zero_le _⟩
          · intro b X p hE hd hn hS hV hI hF
            obtain ⟨r55, j55⟩ : PredT.At 0 (.pointer (some ⟨w4.heap.size, 12, none⟩)) (b.tmps[55]?.getD undef) X p := hV 6 _ 55 rfl rfl (Pred.waits_near (by kernel_rfl) (by kernel_rfl))
            have hp0 : p = 0 := Nat.le_zero.1 (hF 0 14 rfl (by kernel_rfl))
            subst hp0
            have q : blk X w4.heap.size = some (.cells #[.int .i64 p0, .int .i64 p1, .int .i64 p2, .int .i64 p3, .int .i64 t4, .int .i64 t5, .int .i64 q0, .int .i64 q1, .int .i64 q2, .int .i64 q3, .int .i64 t10, .int .i64 t11, .int .i64 t12, .int .i64 t13, .int .i64 t14, .int .i64 t15, .int .i64 t16, .int .i64 t17] 25 (0, 0)) := hS.1
            exact Pred.yields_run (v := .agg #[.int .i64 t12, .int .i64 t13, .int .i64 t14, .int .i64 t15]) (Pred.wanted_none rfl) (by go_simp) ⟨Below.refl _ _, rfl, Nat.zero_le _⟩
          · intro b X p hE hd hn hS hV hI hF
            obtain ⟨r51, j51⟩ : PredT.At 0 (.agg (cs .i64 ms)) (b.tmps[51]?.getD undef) X p := hV 2 _ 51 rfl rfl (Pred.waits_near (by kernel_rfl) (by kernel_rfl))
            obtain ⟨r56, j56⟩ : PredT.At 0 (.agg #[.int .i64 t12, .int .i64 t13, .int .i64 t14, .int .i64 t15]) (b.tmps[56]?.getD undef) X p := hV 7 _ 56 rfl rfl (Pred.waits_near (by kernel_rfl) (by kernel_rfl))
            refine Pred.yields_call (f := 29) (args := #[.agg (cs .i64 ms), .agg #[.int .i64 t12, .int .i64 t13, .int .i64 t14, .int .i64 t15]]) (Pred.wanted_none rfl) (by go_simp) ?_
            exact (CA2.out _).mono fun e w2 ⟨he, hb⟩ => ⟨_, he, hb, rfl, Nat.zero_le _⟩
          · intro b X p hE hd hn hS hV hI hF
            obtain ⟨r57, j57⟩ : PredT.At 0 (.tuple #[.agg #[.int .i64 r0, .int .i64 r1, .int .i64 r2, .int .i64 r3], .int .i64 0]) (b.tmps[57]?.getD undef) X p := hV 8 _ 57 rfl rfl (Pred.waits_near (by kernel_rfl) (by kernel_rfl))
            exact Pred.yields_run (v := .tuple #[.agg #[.int .i64 r0, .int .i64 r1, .int .i64 r2, .int .i64 r3], .int .i64 0]) (Pred.wanted_none rfl) (by go_simp) ⟨Below.refl _ _, rfl, Nat.zero_le _⟩
          · intro b X p hE hd hn hS hV hI hF
            obtain ⟨r48, j48⟩ : PredT.At 0 (.tuple #[.agg #[.int .i64 r0, .int .i64 r1, .int .i64 r2, .int .i64 r3], .int .i64 0]) (b.tmps[48]?.getD undef) X p := hV 9 _ 48 rfl rfl (Pred.waits_near (by kernel_rfl) (by kernel_rfl))
            exact Pred.yields_run (v := .agg #[.int .i64 r0, .int .i64 r1, .int .i64 r2, .int .i64 r3]) (Pred.wanted_none rfl) (by go_simp) ⟨Below.refl _ _, rfl, Nat.zero_le _⟩
          · intro b X p hE hd hn hS hV hI hF
            obtain ⟨r48, j48⟩ : PredT.At 0 (.tuple #[.agg #[.int .i64 r0, .int .i64 r1, .int .i64 r2, .int .i64 r3], .int .i64 0]) (b.tmps[48]?.getD undef) X p := hV 9 _ 48 rfl rfl (Pred.waits_near (by kernel_rfl) (by kernel_rfl))
            exact Pred.yields_run (v := .int .i64 0) (Pred.wanted_none rfl) (by go_simp) ⟨Below.refl _ _, rfl, Nat.zero_le _⟩
          · intro b X p hE hd hn hS hV hI hF
            obtain ⟨r49, j49⟩ : PredT.At 0 (.slice (some ⟨w4.heap.size, 0, none⟩) 3 3) (b.tmps[49]?.getD undef) X p := hV 0 _ 49 rfl rfl (Pred.waits_near (by kernel_rfl) (by kernel_rfl))
            obtain ⟨r50, j50⟩ : PredT.At 0 (.int .i64 2) (b.tmps[50]?.getD undef) X p := hV 1 _ 50 rfl rfl (Pred.waits_near (by kernel_rfl) (by kernel_rfl))
            exact Pred.yields_run (v := .pointer (some ⟨w4.heap.size, 12, none⟩)) (Pred.wanted_none rfl) (by go_simp) ⟨Below.refl _ _, rfl, Nat.zero_le _⟩
          · intro b X p hE hd hn hS hV hI hF
            obtain ⟨r60, j60⟩ : PredT.At 0 (.pointer (some ⟨w4.heap.size, 12, none⟩)) (b.tmps[60]?.getD undef) X p := hV 12 _ 60 rfl rfl (Pred.waits_near (by kernel_rfl) (by kernel_rfl))
            exact Pred.yields_run (v := .pointer (some ⟨w4.heap.size, 12, none⟩)) (Pred.wanted_none rfl) (by go_simp) ⟨Below.refl _ _, rfl, Nat.zero_le _⟩
        · refine ⟨?_, trivial⟩
          · refine ⟨_, rfl, fun k hk => (by cases hk), fun b X hE hd hn hS hV hI => ?_⟩
            obtain ⟨r61, j61⟩ : PredT.At 0 (.pointer (some ⟨w4.heap.size, 12, none⟩)) (b.tmps[61]?.getD undef) X 0 := hV 13 _ 61 rfl rfl (Pred.waits_near (by kernel_rfl) (by kernel_rfl))
            obtain ⟨r58, j58⟩ : PredT.At 0 (.agg #[.int .i64 r0, .int .i64 r1, .int .i64 r2, .int .i64 r3]) (b.tmps[58]?.getD undef) X 0 := hV 10 _ 58 rfl rfl (Pred.waits_near (by kernel_rfl) (by kernel_rfl))
            replace hS : (fun y => blk y w4.heap.size = some (.cells #[.int .i64 p0, .int .i64 p1, .int .i64 p2, .int .i64 p3, .int .i64 t4, .int .i64 t5, .int .i64 q0, .int .i64 q1, .int .i64 q2, .int .i64 q3, .int .i64 t10, .int .i64 t11, .int .i64 t12, .int .i64 t13, .int .i64 t14, .int .i64 t15, .int .i64 t16, .int .i64 t17] 25 (0, 0)) ∧ blk y W.heap.size = some (.cells (cs .i64 ms) 27 (0, 0))) X := hS
            have q : blk X w4.heap.size = some (.cells #[.int .i64 p0, .int .i64 p1, .int .i64 p2, .int .i64 p3, .int .i64 t4, .int .i64 t5, .int .i64 q0, .int .i64 q1, .int .i64 q2, .int .i64 q3, .int .i64 t10, .int .i64 t11, .int .i64 t12, .int .i64 t13, .int .i64 t14, .int .i64 t15, .int .i64 t16, .int .i64 t17] 25 (0, 0)) := hS.1
            exact PredS.yields_skip (w' := X.setRow w4.heap.size #[.int .i64 p0, .int .i64 p1, .int .i64 p2, .int .i64 p3, .int .i64 t4, .int .i64 t5, .int .i64 q0, .int .i64 q1, .int .i64 q2, .int .i64 q3, .int .i64 t10, .int .i64 t11, .int .i64 r0, .int .i64 r1, .int .i64 r2, .int .i64 r3, .int .i64 t16, .int .i64 t17]) (Pred.wanted_none rfl) (by go_simp) ⟨below_setRow (Below.refl _ _) (by omega) _, ⟨blk_setRow_of q _, (blk_setRow_other _ _ _ _ (by omega)).trans hS.2⟩, rfl, Nat.zero_le _⟩
        intro v w6 hE hS hv
        replace hS : (fun y => blk y w4.heap.size = some (.cells #[.int .i64 p0, .int .i64 p1, .int .i64 p2, .int .i64 p3, .int .i64 t4, .int .i64 t5, .int .i64 q0, .int .i64 q1, .int .i64 q2, .int .i64 q3, .int .i64 t10, .int .i64 t11, .int .i64 r0, .int .i64 r1, .int .i64 r2, .int .i64 r3, .int .i64 t16, .int .i64 t17] 25 (0, 0)) ∧ blk y W.heap.size = some (.cells (cs .i64 ms) 27 (0, 0))) w6 := hS
        have e0 : v 0 = .slice (some ⟨w4.heap.size, 0, none⟩) 3 3 := (hv 0 _ 49 rfl rfl).1
        have e1 : v 1 = .int .i64 2 := (hv 1 _ 50 rfl rfl).1
        have e2 : v 2 = .agg (cs .i64 ms) := (hv 2 _ 51 rfl rfl).1
        have e3 : v 3 = .slice (some ⟨w4.heap.size, 0, none⟩) 3 3 := (hv 3 _ 52 rfl rfl).1
        have e4 : v 4 = .int .i64 2 := (hv 4 _ 53 rfl rfl).1
        have e5 : v 5 = .pointer (some ⟨w4.heap.size, 12, none⟩) := (hv 5 _ 54 rfl rfl).1
        have e6 : v 6 = .pointer (some ⟨w4.heap.size, 12, none⟩) := (hv 6 _ 55 rfl rfl).1
        have e7 : v 7 = .agg #[.int .i64 t12, .int .i64 t13, .int .i64 t14, .int .i64 t15] := (hv 7 _ 56 rfl rfl).1
        have e8 : v 8 = .tuple #[.agg #[.int .i64 r0, .int .i64 r1, .int .i64 r2, .int .i64 r3], .int .i64 0] := (hv 8 _ 57 rfl rfl).1
        have e9 : v 9 = .tuple #[.agg #[.int .i64 r0, .int .i64 r1, .int .i64 r2, .int .i64 r3], .int .i64 0] := (hv 9 _ 48 rfl rfl).1
        have e10 : v 10 = .agg #[.int .i64 r0, .int .i64 r1, .int .i64 r2, .int .i64 r3] := (hv 10 _ 58 rfl rfl).1
        have e11 : v 11 = .int .i64 0 := (hv 11 _ 59 rfl rfl).1
        have e12 : v 12 = .pointer (some ⟨w4.heap.size, 12, none⟩) := (hv 12 _ 60 rfl rfl).1
        have e13 : v 13 = .pointer (some ⟨w4.heap.size, 12, none⟩) := (hv 13 _ 61 rfl rfl).1
        simp only [Pred.putsF_cons, Pred.putsF_nil, Nat.zero_add, Nat.reduceAdd, e0, e1, e2, e3, e4, e5, e6, e7, e8, e9, e10, e11, e12, e13, Act.put, List.setIfInBounds_toArray, List.set_cons_zero, List.set_cons_succ]
        clear e0 e1 e2 e3 e4 e5 e6 e7 e8 e9 e10 e11 e12 e13 hv
        have bC6 := hS.1
        have bM6 := hS.2
        have L6 : Below W.heap.size W w6 := hb.trans (hE.mono (by omega))
        have lC6 := blk_lt bC6
        clear hS hE bC bM hb lM lC
        go_wp2
        go_roundw
        case rel =>
          refine ⟨3, by omega, rfl, ⟨?_, ?_⟩, by repeat' (first | (with_reducible exact Below.refl _ _) | (with_reducible refine Rd.below_step ?_ (by assumption)) | (with_reducible refine Rd.below_alloc ?_ _) | (with_reducible refine Rd.below_drewN ?_ _) | (with_reducible refine Below.drew ?_) | (with_reducible refine Below.setCell ?_ ?_ _) | (with_reducible refine Rd.below_setRow ?_ ?_ _) | go_size | (simp only [World.size_alloc]; omega) | omega)⟩
          · exact bC6
          · exact bM6
        case measure => simp [intOf]
    · obtain rfl : k = 3 := by omega
      have bC : blk Y0 w4.heap.size = some (.cells #[.int .i64 p0, .int .i64 p1, .int .i64 p2, .int .i64 p3, .int .i64 t4, .int .i64 t5, .int .i64 q0, .int .i64 q1, .int .i64 q2, .int .i64 q3, .int .i64 t10, .int .i64 t11, .int .i64 r0, .int .i64 r1, .int .i64 r2, .int .i64 r3, .int .i64 t16, .int .i64 t17] 25 (0, 0)) := HB.out.1
      have hrow : RowAt Y0 (some ⟨w4.heap.size, 0, none⟩) (rowV ms T) := by
        rw [RV.out]
        exact rowAt_blk bC rfl (fun v hv => by
          simp only [List.mem_cons, List.not_mem_nil, or_false] at hv
          rcases hv with rfl | rfl | rfl <;> rfl)
      have HR := Lib.hid hrow
      have CP := Lib.hid (fun c => rpolygon_any (rowV ms T) (some ⟨w4.heap.size, 0, none⟩) c Y0 HR.out VR.out (by show 3 ≤ 100; omega))
      have hp := polyV_len3 (row := rowV ms T) rfl
      obtain ⟨row, eR⟩ : ∃ R, polyV (rowV ms T) = R := ⟨_, rfl⟩
      have VP := poly_vx VR.out
      rw [eR] at hp CP EA VP
      have HV := Lib.hid VP
      have FR := EF
      clear bC HB hrow eR CA0 CA1 CA2 VP
      go_wp2_with fail
      refine (CP.out _).mono ?_
      rintro e Wb ⟨⟨ad, c5, rfl, hr5⟩, hb5⟩
      have L5 : Below W.heap.size W Wb := by repeat' (first | (with_reducible exact Below.refl _ _) | (with_reducible refine Rd.below_step ?_ (by assumption)) | (with_reducible refine Rd.below_alloc ?_ _) | (with_reducible refine Rd.below_drewN ?_ _) | (with_reducible refine Below.drew ?_) | (with_reducible refine Below.setCell ?_ ?_ _) | (with_reducible refine Rd.below_setRow ?_ ?_ _) | go_size | (simp only [World.size_alloc]; omega) | omega)
      have H := Lib.hid hr5
      clear hb5 hr5 CP hb
      obtain ⟨n, hn⟩ : ∃ n, row.length = n := ⟨_, rfl⟩
      rw [hn] at hp ⊢
      have HN := Lib.hid hn
      have FV : Hid (fanV row w h = trisK row w h (n - 2)) := by
        show fanV row w h = _
        unfold fanV; rw [HN.out]
      clear hn
      go_wp2_with fail
      go_loopw [13, 14] (fun v j wr => ∃ i m : Nat, i = m + 1 ∧ m ≤ n - 2 ∧ j = .int .i64 i ∧ Hid (wr.ownsRow Wb.heap.size 45 18 v (trisK row w h m).length (fl (trisK row w h m))) ∧ Below Wb.heap.size Wb wr) (fun _ j _ => n - (intOf j).toNat)
      case atStart => exact ⟨1, 0, by omega, by omega, rfl, World.ownsRow_nil _ _ _ _, Below.refl _ _⟩
      case round =>
        obtain ⟨i, m, him, hmn, rfl, HO, hb⟩ := hrel
        rename World => wr
        by_cases hlt : m < n - 2
        · have hlt' : (i : Int) + 1 < n := by omega
          have HI := Lib.hid him
          clear him
          obtain ⟨b, o, ea, hb0, hc⟩ : ∃ b o, ad = some ⟨b, o, none⟩ ∧ b < Wb.heap.size ∧ ∀ i, i < row.length → ∀ j, j < 6 → Wb.cell? ⟨b, o + i * 6 + j, none⟩ = some (.int .i64 (ClM.g (at_ row i) j)) := by
            rcases H.out.2 with h | h
            · have := HN.out; rw [h] at this; simp at this; omega
            · exact h
          subst ea
          have v0 := at_vx HV.out (i := 0) (by rw [HN.out]; omega)
          obtain ⟨x0, x1, x2, x3, x4, x5, eX0⟩ := len6' v0.len
          obtain ⟨p0, p1, p2, p3, p4, p5, eR0⟩ := len6' (show (spotL (at_ row 0) w h).length = 6 from rfl)
          have CS0 : Hid (∀ X : World, Calls Try.prog 9 #[.agg #[.int .i64 x0, .int .i64 x1, .int .i64 x2, .int .i64 x3, .int .i64 x4, .int .i64 x5], .int .i64 w, .int .i64 h] X fun e w' => e = .returned (.tuple #[.agg #[.int .i64 p0, .int .i64 p1, .int .i64 p2, .int .i64 p3, .int .i64 p4, .int .i64 p5], .bool true]) ∧ Below X.heap.size X w') := fun X => by
            have := rspot_any (at_ row 0) v0.len w h X
            rw [spotV_yes FR.out (vxB_of v0)] at this
            rw [eR0, eX0] at this
            exact this
          have LC0 : Hid (∀ X, Below Wb.heap.size Wb X → ∀ j, j < 6 → X.cell? ⟨b, o + 0 * 6 + j, none⟩ = some (.int .i64 (ClM.g [x0, x1, x2, x3, x4, x5] j))) := fun X hX j hj => by
            rw [← eX0]
            exact (hX.cell (p := ⟨b, o + 0 * 6 + j, none⟩) hb0).trans (hc 0 (by rw [HN.out]; omega) j hj)
          have ER0 := Lib.hid eR0
          have v1 := at_vx HV.out (i := i) (by rw [HN.out]; omega)
          obtain ⟨y0, y1, y2, y3, y4, y5, eX1⟩ := len6' v1.len
          obtain ⟨q0, q1, q2, q3, q4, q5, eR1⟩ := len6' (show (spotL (at_ row i) w h).length = 6 from rfl)
          have CS1 : Hid (∀ X : World, Calls Try.prog 9 #[.agg #[.int .i64 y0, .int .i64 y1, .int .i64 y2, .int .i64 y3, .int .i64 y4, .int .i64 y5], .int .i64 w, .int .i64 h] X fun e w' => e = .returned (.tuple #[.agg #[.int .i64 q0, .int .i64 q1, .int .i64 q2, .int .i64 q3, .int .i64 q4, .int .i64 q5], .bool true]) ∧ Below X.heap.size X w') := fun X => by
            have := rspot_any (at_ row i) v1.len w h X
            rw [spotV_yes FR.out (vxB_of v1)] at this
            rw [eR1, eX1] at this
            exact this
          have LC1 : Hid (∀ X, Below Wb.heap.size Wb X → ∀ j, j < 6 → X.cell? ⟨b, o + i * 6 + j, none⟩ = some (.int .i64 (ClM.g [y0, y1, y2, y3, y4, y5] j))) := fun X hX j hj => by
            rw [← eX1]
            exact (hX.cell (p := ⟨b, o + i * 6 + j, none⟩) hb0).trans (hc i (by rw [HN.out]; omega) j hj)
          have ER1 := Lib.hid eR1
          have v2 := at_vx HV.out (i := (i + 1)) (by rw [HN.out]; omega)
          obtain ⟨z0, z1, z2, z3, z4, z5, eX2⟩ := len6' v2.len
          obtain ⟨r0, r1, r2, r3, r4, r5, eR2⟩ := len6' (show (spotL (at_ row (i + 1)) w h).length = 6 from rfl)
          have CS2 : Hid (∀ X : World, Calls Try.prog 9 #[.agg #[.int .i64 z0, .int .i64 z1, .int .i64 z2, .int .i64 z3, .int .i64 z4, .int .i64 z5], .int .i64 w, .int .i64 h] X fun e w' => e = .returned (.tuple #[.agg #[.int .i64 r0, .int .i64 r1, .int .i64 r2, .int .i64 r3, .int .i64 r4, .int .i64 r5], .bool true]) ∧ Below X.heap.size X w') := fun X => by
            have := rspot_any (at_ row (i + 1)) v2.len w h X
            rw [spotV_yes FR.out (vxB_of v2)] at this
            rw [eR2, eX2] at this
            exact this
          have LC2 : Hid (∀ X, Below Wb.heap.size Wb X → ∀ j, j < 6 → X.cell? ⟨b, o + (i + 1) * 6 + j, none⟩ = some (.int .i64 (ClM.g [z0, z1, z2, z3, z4, z5] j))) := fun X hX j hj => by
            rw [← eX2]
            exact (hX.cell (p := ⟨b, o + (i + 1) * 6 + j, none⟩) hb0).trans (hc (i + 1) (by rw [HN.out]; omega) j hj)
          have ER2 := Lib.hid eR2
          have HS : Hid (trisK row w h (m + 1) = trisK row w h m ++ [[p0, p1, p2, p3, p4, p5, q0, q1, q2, q3, q4, q5, r0, r1, r2, r3, r4, r5]]) := by
            show trisK row w h (m + 1) = _
            rw [trisK_succ]
            unfold triV
            have him := HI.out
            subst him
            rw [ER0.out, ER1.out, ER2.out]
            rfl
          have hwl := trisK_len row w h m
          clear v0 v1 v2 eX0 eX1 eX2 eR0 eR1 eR2 ER0 ER1 ER2 hc
          have i1 : ((i : Int) + 1).toNat = i + 1 := by omega
          have k00 : wr.cell? ⟨b, o, none⟩ = some (.int .i64 x0) := LC0.out wr hb 0 (by omega)
          have k01 : wr.cell? ⟨b, o + 1, none⟩ = some (.int .i64 x1) := LC0.out wr hb 1 (by omega)
          have k02 : wr.cell? ⟨b, o + 2, none⟩ = some (.int .i64 x2) := LC0.out wr hb 2 (by omega)
          have k03 : wr.cell? ⟨b, o + 3, none⟩ = some (.int .i64 x3) := LC0.out wr hb 3 (by omega)
          have k04 : wr.cell? ⟨b, o + 4, none⟩ = some (.int .i64 x4) := LC0.out wr hb 4 (by omega)
          have k05 : wr.cell? ⟨b, o + 5, none⟩ = some (.int .i64 x5) := LC0.out wr hb 5 (by omega)
          go_wp2_with fail
          refine (CS0.out _).mono ?_
          rintro e wa0 ⟨rfl, hc0⟩
          have sa0 := hc0.size
          have HOa0 := Lib.hid (owns_below HO.out hc0)
          have La0 : Below Wb.heap.size Wb wa0 := by repeat' (first | (with_reducible exact Below.refl _ _) | (with_reducible refine Rd.below_step ?_ (by assumption)) | (with_reducible refine Rd.below_alloc ?_ _) | (with_reducible refine Rd.below_drewN ?_ _) | (with_reducible refine Below.drew ?_) | (with_reducible refine Below.setCell ?_ ?_ _) | (with_reducible refine Rd.below_setRow ?_ ?_ _) | go_size | (simp only [World.size_alloc]; omega) | omega)
          clear hc0 CS0 LC0 k00 k01 k02 k03 k04 k05 HO 
          go_upto_region 16 with (fail)
          refine Rd.name_world ?_
          intro wb0 hw
          have HOb0 : Hid (wb0.ownsRow Wb.heap.size 45 18 u13 (trisK row w h m).length (fl (trisK row w h m))) := by rw [hw]; exact HOa0.out.alloc _
          have Lb0 : Below Wb.heap.size Wb wb0 := by
            rw [hw]
            repeat' (first | (with_reducible exact Below.refl _ _) | (with_reducible refine Rd.below_step ?_ (by assumption)) | (with_reducible refine Rd.below_alloc ?_ _) | (with_reducible refine Rd.below_drewN ?_ _) | (with_reducible refine Below.drew ?_) | (with_reducible refine Below.setCell ?_ ?_ _) | (with_reducible refine Rd.below_setRow ?_ ?_ _) | go_size | (simp only [World.size_alloc]; omega) | omega)
          have bc0_0 : blk wb0 wa0.heap.size = some (.cells #[.int .i64 p0, .int .i64 p1, .int .i64 p2, .int .i64 p3, .int .i64 p4, .int .i64 p5] 33 (0, 0)) := by rw [hw]; exact blk_alloc_at _ _ _ rfl
          clear hw HOa0 La0 
          have k10 : wb0.cell? ⟨b, o + i * 6, none⟩ = some (.int .i64 y0) := LC1.out wb0 Lb0 0 (by omega)
          have k11 : wb0.cell? ⟨b, o + i * 6 + 1, none⟩ = some (.int .i64 y1) := LC1.out wb0 Lb0 1 (by omega)
          have k12 : wb0.cell? ⟨b, o + i * 6 + 2, none⟩ = some (.int .i64 y2) := LC1.out wb0 Lb0 2 (by omega)
          have k13 : wb0.cell? ⟨b, o + i * 6 + 3, none⟩ = some (.int .i64 y3) := LC1.out wb0 Lb0 3 (by omega)
          have k14 : wb0.cell? ⟨b, o + i * 6 + 4, none⟩ = some (.int .i64 y4) := LC1.out wb0 Lb0 4 (by omega)
          have k15 : wb0.cell? ⟨b, o + i * 6 + 5, none⟩ = some (.int .i64 y5) := LC1.out wb0 Lb0 5 (by omega)
          go_wp2_with fail
          refine (CS1.out _).mono ?_
          rintro e wa1 ⟨rfl, hc1⟩
          have sa1 := hc1.size
          have HOa1 := Lib.hid (owns_below HOb0.out hc1)
          have La1 : Below Wb.heap.size Wb wa1 := by repeat' (first | (with_reducible exact Below.refl _ _) | (with_reducible refine Rd.below_step ?_ (by assumption)) | (with_reducible refine Rd.below_alloc ?_ _) | (with_reducible refine Rd.below_drewN ?_ _) | (with_reducible refine Below.drew ?_) | (with_reducible refine Below.setCell ?_ ?_ _) | (with_reducible refine Rd.below_setRow ?_ ?_ _) | go_size | (simp only [World.size_alloc]; omega) | omega)
          have bb1_0 := (blk_below hc1 _ (blk_lt bc0_0)).trans bc0_0
          clear hc1 CS1 LC1 k10 k11 k12 k13 k14 k15 HOb0 Lb0
          clear bc0_0
          go_upto_region 17 with (fail)
          refine Rd.name_world ?_
          intro wb1 hw
          have HOb1 : Hid (wb1.ownsRow Wb.heap.size 45 18 u13 (trisK row w h m).length (fl (trisK row w h m))) := by rw [hw]; exact HOa1.out.alloc _
          have Lb1 : Below Wb.heap.size Wb wb1 := by
            rw [hw]
            repeat' (first | (with_reducible exact Below.refl _ _) | (with_reducible refine Rd.below_step ?_ (by assumption)) | (with_reducible refine Rd.below_alloc ?_ _) | (with_reducible refine Rd.below_drewN ?_ _) | (with_reducible refine Below.drew ?_) | (with_reducible refine Below.setCell ?_ ?_ _) | (with_reducible refine Rd.below_setRow ?_ ?_ _) | go_size | (simp only [World.size_alloc]; omega) | omega)
          have bc1_0 : blk wb1 wa0.heap.size = some (.cells #[.int .i64 p0, .int .i64 p1, .int .i64 p2, .int .i64 p3, .int .i64 p4, .int .i64 p5] 33 (0, 0)) := by rw [hw]; exact (blk_alloc_old _ _ _ (blk_lt bb1_0)).trans bb1_0
          have bc1_1 : blk wb1 wa1.heap.size = some (.cells #[.int .i64 q0, .int .i64 q1, .int .i64 q2, .int .i64 q3, .int .i64 q4, .int .i64 q5] 33 (0, 0)) := by rw [hw]; exact blk_alloc_at _ _ _ rfl
          clear hw HOa1 La1 bb1_0
          have k20 : wb1.cell? ⟨b, o + (i + 1) * 6, none⟩ = some (.int .i64 z0) := LC2.out wb1 Lb1 0 (by omega)
          have k21 : wb1.cell? ⟨b, o + (i + 1) * 6 + 1, none⟩ = some (.int .i64 z1) := LC2.out wb1 Lb1 1 (by omega)
          have k22 : wb1.cell? ⟨b, o + (i + 1) * 6 + 2, none⟩ = some (.int .i64 z2) := LC2.out wb1 Lb1 2 (by omega)
          have k23 : wb1.cell? ⟨b, o + (i + 1) * 6 + 3, none⟩ = some (.int .i64 z3) := LC2.out wb1 Lb1 3 (by omega)
          have k24 : wb1.cell? ⟨b, o + (i + 1) * 6 + 4, none⟩ = some (.int .i64 z4) := LC2.out wb1 Lb1 4 (by omega)
          have k25 : wb1.cell? ⟨b, o + (i + 1) * 6 + 5, none⟩ = some (.int .i64 z5) := LC2.out wb1 Lb1 5 (by omega)
          go_wp2_with fail
          refine (CS2.out _).mono ?_
          rintro e wa2 ⟨rfl, hc2⟩
          have sa2 := hc2.size
          have HOa2 := Lib.hid (owns_below HOb1.out hc2)
          have La2 : Below Wb.heap.size Wb wa2 := by repeat' (first | (with_reducible exact Below.refl _ _) | (with_reducible refine Rd.below_step ?_ (by assumption)) | (with_reducible refine Rd.below_alloc ?_ _) | (with_reducible refine Rd.below_drewN ?_ _) | (with_reducible refine Below.drew ?_) | (with_reducible refine Below.setCell ?_ ?_ _) | (with_reducible refine Rd.below_setRow ?_ ?_ _) | go_size | (simp only [World.size_alloc]; omega) | omega)
          have bb2_0 := (blk_below hc2 _ (blk_lt bc1_0)).trans bc1_0
          have bb2_1 := (blk_below hc2 _ (blk_lt bc1_1)).trans bc1_1
          clear hc2 CS2 LC2 k20 k21 k22 k23 k24 k25 HOb1 Lb1
          clear bc1_0
          clear bc1_1
          go_upto_region 18 with (fail)
          refine Rd.name_world ?_
          intro wb2 hw
          have HOb2 : Hid (wb2.ownsRow Wb.heap.size 45 18 u13 (trisK row w h m).length (fl (trisK row w h m))) := by rw [hw]; exact HOa2.out.alloc _
          have Lb2 : Below Wb.heap.size Wb wb2 := by
            rw [hw]
            repeat' (first | (with_reducible exact Below.refl _ _) | (with_reducible refine Rd.below_step ?_ (by assumption)) | (with_reducible refine Rd.below_alloc ?_ _) | (with_reducible refine Rd.below_drewN ?_ _) | (with_reducible refine Below.drew ?_) | (with_reducible refine Below.setCell ?_ ?_ _) | (with_reducible refine Rd.below_setRow ?_ ?_ _) | go_size | (simp only [World.size_alloc]; omega) | omega)
          have bc2_0 : blk wb2 wa0.heap.size = some (.cells #[.int .i64 p0, .int .i64 p1, .int .i64 p2, .int .i64 p3, .int .i64 p4, .int .i64 p5] 33 (0, 0)) := by rw [hw]; exact (blk_alloc_old _ _ _ (blk_lt bb2_0)).trans bb2_0
          have bc2_1 : blk wb2 wa1.heap.size = some (.cells #[.int .i64 q0, .int .i64 q1, .int .i64 q2, .int .i64 q3, .int .i64 q4, .int .i64 q5] 33 (0, 0)) := by rw [hw]; exact (blk_alloc_old _ _ _ (blk_lt bb2_1)).trans bb2_1
          have bc2_2 : blk wb2 wa2.heap.size = some (.cells #[.int .i64 r0, .int .i64 r1, .int .i64 r2, .int .i64 r3, .int .i64 r4, .int .i64 r5] 33 (0, 0)) := by rw [hw]; exact blk_alloc_at _ _ _ rfl
          clear hw HOa2 La2 bb2_0 bb2_1
          have hsz := Lb2.size
          go_wp2_with (at_builtin; refine app_tri rfl (.tmp 108) (.tmp 113) rfl Wb.heap.size _ _ _ rfl (HOb2.out.alloc _) wb2.heap.size 1 [p0, p1, p2, p3, p4, p5, q0, q1, q2, q3, q4, q5, r0, r1, r2, r3, r4, r5] rfl rfl (blk_alloc_at _ _ _ rfl) (by omega) (by simp; omega) ?_; intro v4 w4 ho4 hg4)
          have L4 : Below Wb.heap.size Wb w4 := (Lb2.alloc (by omega) _).grown hg4 (by simp; omega) (fun j hj => (HOb2.out.lt j hj).1)
          exact ⟨⟨i + 1, m + 1, by rw [HI.out], by omega, by go_num, Lib.hid (by rw [HS.out]; simpa using ho4), L4⟩, by simp [intOf]; omega⟩
        · obtain rfl : m = n - 2 := by omega
          have hge : ¬ (i : Int) + 1 < n := by omega
          have hib : i ≤ 1001 := by omega
          clear him
          obtain ⟨a', cap', e5, _⟩ := owns_val HO.out
          subst e5
          have hrow := Lib.hid (triAt_owns HO.out (trisK_18 row w h (n - 2))).2
          have L6 : Below W.heap.size W wr := L5.trans (hb.mono L5.size)
          clear HO
          go_wp2
          go_ret2
          rw [EA.out]
          simp only [FV.out]
          exact ⟨⟨a', ⟨cap', rfl⟩, hrow.out⟩, L6⟩
end Go.Proofs.Ytimfjogallcgnaa.ScH
