/-
  What is seen of a triangle: the program's answer.
-/
import Derived.Test.YtimfjogallcgnaaScF
import Derived.Test.YtimfjogallcgnaaClF
import Derived.Test.YtimfjogallcgnaaPredS
import Derived.Test.YtimfjogallcgnaaVecD
namespace Go.Proofs.Ytimfjogallcgnaa.ScG
open Go.RowKit FixA Num Rd Go.Proofs.Ytimfjogallcgnaa.Row Mid ClM ClC ClD ClF ClH ScM ScA ScB ScD ScE ScF
open Go.Proofs.Ytimfjogallcgnaa.VecA (cellB Wf)
open Go.Proofs.Ytimfjogallcgnaa.VecD (applyV outF)
open Go.Proofs.Ytimfjogallcgnaa.PredS (Is is_stab Stab Sl sl_stab)
set_option linter.unusedVariables false
set_option linter.unusedSimpArgs false
set_option maxRecDepth 10000
theorem load_mat (x : Value) : Instr.loadAt 27 x = loadRow 27 x := rfl
theorem run_load_mat (g o : Nat) (W : World) : (loadRow 27 (.pointer (some ⟨g, o, none⟩))).run Try.prog W = rowLoad Try.prog 27 16 g o W := run_loadRow Try.underlying27 rfl (by kernel_rfl) g o W
theorem rowAt_blk {W : World} {g : Nat} {r : ClM.Row} {C : Array Value} {t : TypeId} {fr : Nat × Nat} (h : blk W g = some (.cells C t fr)) (hC : C = (fl r).toArray) (hr : ∀ v ∈ r, v.length = 6) : RowAt W (some ⟨g, 0, none⟩) r := by
  refine ⟨hr, Or.inr ⟨g, 0, rfl, blk_lt h, fun i hi j hj => ?_⟩⟩
  subst hC
  rw [blk_cell h, Nat.zero_add]
  have := fl_at hr i hi j hj
  simpa using this
theorem store_vec (x v : Value) : Instr.storeAt 23 x v = storeRow 23 x v := rfl
theorem run_store_vec (g o : Nat) (c : Array Value) (W : World) : (storeRow 23 (.pointer (some ⟨g, o, none⟩)) (.agg c)).run Try.prog W = midStore Try.prog 23 4 g o c W := run_storeMid (by kernel_rfl) (by decide) g o c W
theorem load_vec (x : Value) : Instr.loadAt 23 x = loadRow 23 x := rfl
theorem run_load_vec (g o : Nat) (W : World) : (loadRow 23 (.pointer (some ⟨g, o, none⟩))).run Try.prog W = midLoad Try.prog 23 4 g o W := run_loadMid Try.underlying23 rfl (by kernel_rfl) g o W
theorem pv0 (x0 : Value) (x1 : Value) (x2 : Value) (x3 : Value) (x4 : Value) (x5 : Value) (x6 : Value) (x7 : Value) (x8 : Value) (x9 : Value) (x10 : Value) (x11 : Value) (x12 : Value) (x13 : Value) (x14 : Value) (x15 : Value) (x16 : Value) (x17 : Value) : Mid.piece #[x0, x1, x2, x3, x4, x5, x6, x7, x8, x9, x10, x11, x12, x13, x14, x15, x16, x17] 0 4 = #[x0, x1, x2, x3] := rfl
theorem pv6 (x0 : Value) (x1 : Value) (x2 : Value) (x3 : Value) (x4 : Value) (x5 : Value) (x6 : Value) (x7 : Value) (x8 : Value) (x9 : Value) (x10 : Value) (x11 : Value) (x12 : Value) (x13 : Value) (x14 : Value) (x15 : Value) (x16 : Value) (x17 : Value) : Mid.piece #[x0, x1, x2, x3, x4, x5, x6, x7, x8, x9, x10, x11, x12, x13, x14, x15, x16, x17] 6 4 = #[x6, x7, x8, x9] := rfl
theorem pv12 (x0 : Value) (x1 : Value) (x2 : Value) (x3 : Value) (x4 : Value) (x5 : Value) (x6 : Value) (x7 : Value) (x8 : Value) (x9 : Value) (x10 : Value) (x11 : Value) (x12 : Value) (x13 : Value) (x14 : Value) (x15 : Value) (x16 : Value) (x17 : Value) : Mid.piece #[x0, x1, x2, x3, x4, x5, x6, x7, x8, x9, x10, x11, x12, x13, x14, x15, x16, x17] 12 4 = #[x12, x13, x14, x15] := rfl
theorem pv4 (a b c d : Value) : Mid.piece #[a, b, c, d] 0 4 = #[a, b, c, d] := rfl
attribute [local go_sem ↓] load_mat store_vec load_vec
attribute [local go_sem] one_int run_load_mat run_store_vec run_load_vec midStore_eq midLoad_eq pasteL pv0 pv6 pv12 pv4 rowLoad_eq rowStore_eq blk_alloc_at blk_alloc_old blk_drew blk_drewN blk_set_far blk_set_far' blk_grow setRow_alloc_at setRow_alloc_old setRow_drew setRow_drewN
theorem applyF {m v : List Int} (hl : v.length = 6) (hm : m.all cellB = true) (h : mayV v = true) : ∃ a b c d, applyV m (v.take 4) = ([a, b, c, d], 0) ∧ ScM.seen m v = [a, b, c, d, ClM.g v 4, ClM.g v 5] := by
  refine ⟨_, _, _, _, ?_, seen_eq hl hm h⟩
  rw [apply_ok hl hm h]; rfl
theorem apply_at {m : List Int} (a0 a1 a2 a3 a4 a5 : Int) (hlm : m.length = 16) (wm : Wf m) (h : mayV [a0, a1, a2, a3, a4, a5] = true) (b0 b1 b2 b3 : Int) (he : applyV m [a0, a1, a2, a3] = ([b0, b1, b2, b3], 0)) (X : World) :
    Calls Try.prog 24 #[.agg (cs .i64 m), .agg #[.int .i64 a0, .int .i64 a1, .int .i64 a2, .int .i64 a3]] X fun e w' => e = .returned (.tuple #[.agg #[.int .i64 b0, .int .i64 b1, .int .i64 b2, .int .i64 b3], .int .i64 0]) ∧ Below X.heap.size X w' := by
  have wv : Wf [a0, a1, a2, a3] := by
    have b := mayV_bd h
    have e : ∀ (a0 a1 a2 a3 a4 a5 : Int), ClM.g [a0, a1, a2, a3, a4, a5] 0 = a0 ∧ ClM.g [a0, a1, a2, a3, a4, a5] 1 = a1 ∧ ClM.g [a0, a1, a2, a3, a4, a5] 2 = a2 ∧ ClM.g [a0, a1, a2, a3, a4, a5] 3 = a3 := fun _ _ _ _ _ _ => ⟨rfl, rfl, rfl, rfl⟩
    simp only [e] at b
    intro x hx
    simp only [List.mem_cons, List.not_mem_nil, or_false] at hx
    rcases hx with rfl | rfl | rfl | rfl <;> exact wf_mk (by omega) (by omega)
  have := VecD.apply_any m [a0, a1, a2, a3] hlm rfl X wm wv
  rw [he] at this
  exact this
set_option maxHeartbeats 4000000 in
theorem place_any (ms : List Int) (t0 t1 t2 t3 t4 t5 t6 t7 t8 t9 t10 t11 t12 t13 t14 t15 t16 t17 t18 c0 c1 c2 c3 : Int) (w h : Int) (W : World) (hm : ms.length = 16) (wm : Wf ms) :
    Calls Try.prog 10 #[.agg (cs .i64 ms), .agg #[.int .i64 t0, .int .i64 t1, .int .i64 t2, .int .i64 t3, .int .i64 t4, .int .i64 t5, .int .i64 t6, .int .i64 t7, .int .i64 t8, .int .i64 t9, .int .i64 t10, .int .i64 t11, .int .i64 t12, .int .i64 t13, .int .i64 t14, .int .i64 t15, .int .i64 t16, .int .i64 t17, .int .i64 t18, .int .u8 c0, .int .u8 c1, .int .u8 c2, .int .u8 c3], .int .i64 w, .int .i64 h] W fun e w' => (∃ ad' c', e = .returned (.tuple #[.slice ad' (placeV ms [t0, t1, t2, t3, t4, t5, t6, t7, t8, t9, t10, t11, t12, t13, t14, t15, t16, t17, t18] w h).1.length c', .int .i64 (placeV ms [t0, t1, t2, t3, t4, t5, t6, t7, t8, t9, t10, t11, t12, t13, t14, t15, t16, t17, t18] w h).2]) ∧ TriAt w' ad' (placeV ms [t0, t1, t2, t3, t4, t5, t6, t7, t8, t9, t10, t11, t12, t13, t14, t15, t16, t17, t18] w h).1) ∧ Below W.heap.size W w' := by
  have WM := Lib.hid wm
  have C18 := Lib.hid (cells18 t0 t1 t2 t3 t4 t5 t6 t7 t8 t9 t10 t11 t12 t13 t14 t15 t16 t17 t18)
  obtain ⟨T, hT⟩ : ∃ T, T = [t0, t1, t2, t3, t4, t5, t6, t7, t8, t9, t10, t11, t12, t13, t14, t15, t16, t17, t18] := ⟨_, rfl⟩
  rw [← hT] at C18 ⊢
  have HT := Lib.hid hT
  clear hT wm
  go_enter Try.func10, Try.ntmps10
  go_wp2_with fail
  refine (isFrame_any w h _).mono ?_
  rintro e w1 ⟨rfl, hb1⟩
  have s1 := hb1.size
  simp only [World.size_alloc] at s1
  have bM1 : blk w1 W.heap.size = some (.cells (cs .i64 ms) 27 (0, 0)) := (blk_below hb1 _ (by simp; omega)).trans (blk2_0 _ _ _)
  have bT1 : blk w1 (W.heap.size + 1) = some (.cells #[.int .i64 t0, .int .i64 t1, .int .i64 t2, .int .i64 t3, .int .i64 t4, .int .i64 t5, .int .i64 t6, .int .i64 t7, .int .i64 t8, .int .i64 t9, .int .i64 t10, .int .i64 t11, .int .i64 t12, .int .i64 t13, .int .i64 t14, .int .i64 t15, .int .i64 t16, .int .i64 t17, .int .i64 t18, .int .u8 c0, .int .u8 c1, .int .u8 c2, .int .u8 c3] 31 (0, 0)) := (blk_below hb1 _ (by simp)).trans (blk2_1 _ _ _)
  have L1 : Below W.heap.size W w1 := by repeat' (first | (with_reducible exact Below.refl _ _) | (with_reducible refine Rd.below_step ?_ (by assumption)) | (with_reducible refine Rd.below_alloc ?_ _) | (with_reducible refine Rd.below_drewN ?_ _) | (with_reducible refine Below.drew ?_) | (with_reducible refine Below.setCell ?_ ?_ _) | (with_reducible refine Rd.below_setRow ?_ ?_ _) | go_size | (simp only [World.size_alloc]; omega) | omega)
  clear hb1
  obtain ⟨qf, ef⟩ : ∃ q, frameB w h = q := ⟨_, rfl⟩
  rw [ef]
  have EF := Lib.hid ef
  clear ef
  cases qf
  case false =>
    have EA := Lib.hid (show placeV ms T w h = ([], 1) by unfold placeV; rw [EF.out]; rfl)
    go_wp2
    go_ret2
    rw [EA.out]
    exact ⟨⟨none, 0, rfl, fun v hv => (by cases hv), Or.inl rfl⟩, by repeat' (first | (with_reducible exact Below.refl _ _) | (with_reducible refine Rd.below_step ?_ (by assumption)) | (with_reducible refine Rd.below_alloc ?_ _) | (with_reducible refine Rd.below_drewN ?_ _) | (with_reducible refine Below.drew ?_) | (with_reducible refine Below.setCell ?_ ?_ _) | (with_reducible refine Rd.below_setRow ?_ ?_ _) | go_size | (simp only [World.size_alloc]; omega) | omega)⟩
  go_wp2_with fail
  refine (VecA.may_any ms hm _ WM.out).mono ?_
  rintro e w2 ⟨rfl, hb2⟩
  have bM2 := (blk_below hb2 _ (blk_lt bM1)).trans bM1
  have bT2 := (blk_below hb2 _ (blk_lt bT1)).trans bT1
  have L2 : Below W.heap.size W w2 := by repeat' (first | (with_reducible exact Below.refl _ _) | (with_reducible refine Rd.below_step ?_ (by assumption)) | (with_reducible refine Rd.below_alloc ?_ _) | (with_reducible refine Rd.below_drewN ?_ _) | (with_reducible refine Below.drew ?_) | (with_reducible refine Below.setCell ?_ ?_ _) | (with_reducible refine Rd.below_setRow ?_ ?_ _) | go_size | (simp only [World.size_alloc]; omega) | omega)
  have s2 := hb2.size
  clear hb2 bM1 bT1 L1
  obtain ⟨qm, em⟩ : ∃ q, ms.all cellB = q := ⟨_, rfl⟩
  rw [em]
  have EM := Lib.hid em
  clear em
  cases qm
  case false =>
    have EA := Lib.hid (show placeV ms T w h = ([], 1) by unfold placeV; rw [EF.out, EM.out]; rfl)
    go_wp2
    go_ret2
    rw [EA.out]
    exact ⟨⟨none, 0, rfl, fun v hv => (by cases hv), Or.inl rfl⟩, by repeat' (first | (with_reducible exact Below.refl _ _) | (with_reducible refine Rd.below_step ?_ (by assumption)) | (with_reducible refine Rd.below_alloc ?_ _) | (with_reducible refine Rd.below_drewN ?_ _) | (with_reducible refine Below.drew ?_) | (with_reducible refine Below.setCell ?_ ?_ _) | (with_reducible refine Rd.below_setRow ?_ ?_ _) | go_size | (simp only [World.size_alloc]; omega) | omega)⟩
  have k0 : w2.cell? ⟨W.heap.size + 1, 0, none⟩ = some (.int .i64 t0) := by rw [blk_cell bT2]; rfl
  have k1 : w2.cell? ⟨W.heap.size + 1, 1, none⟩ = some (.int .i64 t1) := by rw [blk_cell bT2]; rfl
  have k2 : w2.cell? ⟨W.heap.size + 1, 2, none⟩ = some (.int .i64 t2) := by rw [blk_cell bT2]; rfl
  have k3 : w2.cell? ⟨W.heap.size + 1, 3, none⟩ = some (.int .i64 t3) := by rw [blk_cell bT2]; rfl
  have k4 : w2.cell? ⟨W.heap.size + 1, 4, none⟩ = some (.int .i64 t4) := by rw [blk_cell bT2]; rfl
  have k5 : w2.cell? ⟨W.heap.size + 1, 5, none⟩ = some (.int .i64 t5) := by rw [blk_cell bT2]; rfl
  have k6 : w2.cell? ⟨W.heap.size + 1, 6, none⟩ = some (.int .i64 t6) := by rw [blk_cell bT2]; rfl
  have k7 : w2.cell? ⟨W.heap.size + 1, 7, none⟩ = some (.int .i64 t7) := by rw [blk_cell bT2]; rfl
  have k8 : w2.cell? ⟨W.heap.size + 1, 8, none⟩ = some (.int .i64 t8) := by rw [blk_cell bT2]; rfl
  have k9 : w2.cell? ⟨W.heap.size + 1, 9, none⟩ = some (.int .i64 t9) := by rw [blk_cell bT2]; rfl
  have k10 : w2.cell? ⟨W.heap.size + 1, 10, none⟩ = some (.int .i64 t10) := by rw [blk_cell bT2]; rfl
  have k11 : w2.cell? ⟨W.heap.size + 1, 11, none⟩ = some (.int .i64 t11) := by rw [blk_cell bT2]; rfl
  have k12 : w2.cell? ⟨W.heap.size + 1, 12, none⟩ = some (.int .i64 t12) := by rw [blk_cell bT2]; rfl
  have k13 : w2.cell? ⟨W.heap.size + 1, 13, none⟩ = some (.int .i64 t13) := by rw [blk_cell bT2]; rfl
  have k14 : w2.cell? ⟨W.heap.size + 1, 14, none⟩ = some (.int .i64 t14) := by rw [blk_cell bT2]; rfl
  have k15 : w2.cell? ⟨W.heap.size + 1, 15, none⟩ = some (.int .i64 t15) := by rw [blk_cell bT2]; rfl
  have k16 : w2.cell? ⟨W.heap.size + 1, 16, none⟩ = some (.int .i64 t16) := by rw [blk_cell bT2]; rfl
  have k17 : w2.cell? ⟨W.heap.size + 1, 17, none⟩ = some (.int .i64 t17) := by rw [blk_cell bT2]; rfl
  go_upto_region 4 with (fail)
  refine Rd.name_world ?_
  intro w3 hw
  have bC : blk w3 w2.heap.size = some (.cells #[.int .i64 t0, .int .i64 t1, .int .i64 t2, .int .i64 t3, .int .i64 t4, .int .i64 t5, .int .i64 t6, .int .i64 t7, .int .i64 t8, .int .i64 t9, .int .i64 t10, .int .i64 t11, .int .i64 t12, .int .i64 t13, .int .i64 t14, .int .i64 t15, .int .i64 t16, .int .i64 t17] 25 (0, 0)) := by rw [hw]; exact blk_alloc_at _ _ _ rfl
  have bM : blk w3 W.heap.size = some (.cells (cs .i64 ms) 27 (0, 0)) := by rw [hw]; exact (blk_alloc_old _ _ _ (blk_lt bM2)).trans bM2
  have L3 : Below W.heap.size W w3 := by
    rw [hw]
    repeat' (first | (with_reducible exact Below.refl _ _) | (with_reducible refine Rd.below_step ?_ (by assumption)) | (with_reducible refine Rd.below_alloc ?_ _) | (with_reducible refine Rd.below_drewN ?_ _) | (with_reducible refine Below.drew ?_) | (with_reducible refine Below.setCell ?_ ?_ _) | (with_reducible refine Rd.below_setRow ?_ ?_ _) | go_size | (simp only [World.size_alloc]; omega) | omega)
  have CT := Lib.hid (fun (i j : Nat) (hi : i < 3) (hj : j < 6) => (blk_cell bC (i * 6 + j)).trans (C18.out i j hi hj))
  have lC := blk_lt bC
  have lM := blk_lt bM
  have BB := Lib.hid (And.intro bC bM)
  clear hw bM2 bT2 L2 C18 bC bM k0 k1 k2 k3 k4 k5 k6 k7 k8 k9 k10 k11 k12 k13 k14 k15 k16 k17
  go_wp2_with fail
  go_loopw [34] (fun i wr => ∃ k : Nat, k ≤ 3 ∧ i = .int .i64 k ∧ Hid (∀ i, i < k → mayV (vtx T i) = true) ∧ Below w3.heap.size w3 wr) (fun i _ => 3 - (intOf i).toNat)
  case atStart => exact ⟨0, by omega, rfl, Lib.hid (fun j hj => absurd hj (by omega)), Below.refl _ _⟩
  case round =>
    obtain ⟨k, hk, rfl, HY, hb⟩ := hrel
    by_cases hlt : k < 3
    · have hlt' : (k : Int) < 3 := by omega
      obtain ⟨x0, x1, x2, x3, x4, x5, eX⟩ := len6' (vtx_len (t := T) (by rw [HT.out]; rfl) hlt)
      have k0 : wr.cell? ⟨w2.heap.size, k * 6, none⟩ = some (.int .i64 x0) := by
        have e := (hb.cell (p := ⟨w2.heap.size, k * 6 + 0, none⟩) lC).trans (CT.out k 0 hlt (by omega))
        rw [eX] at e
        exact e
      have k1 : wr.cell? ⟨w2.heap.size, k * 6 + 1, none⟩ = some (.int .i64 x1) := by
        have e := (hb.cell (p := ⟨w2.heap.size, k * 6 + 1, none⟩) lC).trans (CT.out k 1 hlt (by omega))
        rw [eX] at e
        exact e
      have k2 : wr.cell? ⟨w2.heap.size, k * 6 + 2, none⟩ = some (.int .i64 x2) := by
        have e := (hb.cell (p := ⟨w2.heap.size, k * 6 + 2, none⟩) lC).trans (CT.out k 2 hlt (by omega))
        rw [eX] at e
        exact e
      have k3 : wr.cell? ⟨w2.heap.size, k * 6 + 3, none⟩ = some (.int .i64 x3) := by
        have e := (hb.cell (p := ⟨w2.heap.size, k * 6 + 3, none⟩) lC).trans (CT.out k 3 hlt (by omega))
        rw [eX] at e
        exact e
      have k4 : wr.cell? ⟨w2.heap.size, k * 6 + 4, none⟩ = some (.int .i64 x4) := by
        have e := (hb.cell (p := ⟨w2.heap.size, k * 6 + 4, none⟩) lC).trans (CT.out k 4 hlt (by omega))
        rw [eX] at e
        exact e
      have k5 : wr.cell? ⟨w2.heap.size, k * 6 + 5, none⟩ = some (.int .i64 x5) := by
        have e := (hb.cell (p := ⟨w2.heap.size, k * 6 + 5, none⟩) lC).trans (CT.out k 5 hlt (by omega))
        rw [eX] at e
        exact e
      have CM : Hid (∀ X : World, Calls Try.prog 23 #[.agg #[.int .i64 x0, .int .i64 x1, .int .i64 x2, .int .i64 x3, .int .i64 x4, .int .i64 x5]] X fun e w' => e = .returned (.bool (mayV (vtx T k))) ∧ Below X.heap.size X w') := fun X => by
        have := may_any (vtx T k) (vtx_len (by rw [HT.out]; rfl) hlt) X
        rw [eX] at this ⊢
        exact this
      clear eX
      go_wp2_with fail
      refine (CM.out _).mono ?_
      rintro e w4 ⟨rfl, hb4⟩
      have hs4 := hb.size
      have L4 : Below w3.heap.size w3 w4 := by repeat' (first | (with_reducible exact Below.refl _ _) | (with_reducible refine Rd.below_step ?_ (by assumption)) | (with_reducible refine Rd.below_alloc ?_ _) | (with_reducible refine Rd.below_drewN ?_ _) | (with_reducible refine Below.drew ?_) | (with_reducible refine Below.setCell ?_ ?_ _) | (with_reducible refine Rd.below_setRow ?_ ?_ _) | go_size | (simp only [World.size_alloc]; omega) | omega)
      clear hb4 CM k0 k1 k2 k3 k4 k5
      obtain ⟨q, eq⟩ : ∃ q, mayV (vtx T k) = q := ⟨_, rfl⟩
      rw [eq]
      have EQ := Lib.hid eq
      clear eq
      cases q
      case false =>
        have EA := Lib.hid (show placeV ms T w h = ([], 2) by unfold placeV; rw [EF.out, EM.out, mayT_no hlt EQ.out]; rfl)
        go_wp2
        go_ret2
        rw [EA.out]
        exact ⟨⟨none, 0, rfl, fun v hv => (by cases hv), Or.inl rfl⟩, L3.trans (L4.mono L3.size)⟩
      have HN := Lib.hid (step_b (p := fun i => mayV (vtx T i) = true) HY.out EQ.out)
      go_wp2
      go_roundw
      case rel => exact ⟨k + 1, by omega, by go_num, HN, L4⟩
      case measure => simp [intOf]; omega
    · obtain rfl : k = 3 := by omega
      have MY := HY
      have hMT := mayT_all HY.out
      have EA := Lib.hid (show placeV ms T w h = (fanV (polyV (rowV ms T)) w h, 0) by unfold placeV; rw [EF.out, EM.out, hMT]; rfl)
      have VR := Lib.hid (rowV_vx (m := ms) (t := T) (by rw [HT.out]; rfl) EM.out hMT)
      obtain ⟨p0, p1, p2, p3, ea0, es0⟩ := applyF (m := ms) (v := vtx T 0) (vtx_len (by rw [HT.out]; rfl) (by omega)) EM.out (MY.out 0 (by omega))
      obtain ⟨q0, q1, q2, q3, ea1, es1⟩ := applyF (m := ms) (v := vtx T 1) (vtx_len (by rw [HT.out]; rfl) (by omega)) EM.out (MY.out 1 (by omega))
      obtain ⟨r0, r1, r2, r3, ea2, es2⟩ := applyF (m := ms) (v := vtx T 2) (vtx_len (by rw [HT.out]; rfl) (by omega)) EM.out (MY.out 2 (by omega))
      have RV : Hid (rowV ms T = [[p0, p1, p2, p3, t4, t5], [q0, q1, q2, q3, t10, t11], [r0, r1, r2, r3, t16, t17]]) := by
        show rowV ms T = _
        unfold rowV
        rw [es0, es1, es2, HT.out]
        rfl
      have CA0 : Hid (∀ X : World, Calls Try.prog 24 #[.agg (cs .i64 ms), .agg #[.int .i64 t0, .int .i64 t1, .int .i64 t2, .int .i64 t3]] X fun e w' => e = .returned (.tuple #[.agg #[.int .i64 p0, .int .i64 p1, .int .i64 p2, .int .i64 p3], .int .i64 0]) ∧ Below X.heap.size X w') := fun X => by
        have m0 := MY.out 0 (by omega)
        rw [HT.out] at m0 ea0
        exact apply_at t0 t1 t2 t3 t4 t5 hm WM.out m0 p0 p1 p2 p3 ea0 X
      have CA1 : Hid (∀ X : World, Calls Try.prog 24 #[.agg (cs .i64 ms), .agg #[.int .i64 t6, .int .i64 t7, .int .i64 t8, .int .i64 t9]] X fun e w' => e = .returned (.tuple #[.agg #[.int .i64 q0, .int .i64 q1, .int .i64 q2, .int .i64 q3], .int .i64 0]) ∧ Below X.heap.size X w') := fun X => by
        have m0 := MY.out 1 (by omega)
        rw [HT.out] at m0 ea1
        exact apply_at t6 t7 t8 t9 t10 t11 hm WM.out m0 q0 q1 q2 q3 ea1 X
      have CA2 : Hid (∀ X : World, Calls Try.prog 24 #[.agg (cs .i64 ms), .agg #[.int .i64 t12, .int .i64 t13, .int .i64 t14, .int .i64 t15]] X fun e w' => e = .returned (.tuple #[.agg #[.int .i64 r0, .int .i64 r1, .int .i64 r2, .int .i64 r3], .int .i64 0]) ∧ Below X.heap.size X w') := fun X => by
        have m0 := MY.out 2 (by omega)
        rw [HT.out] at m0 ea2
        exact apply_at t12 t13 t14 t15 t16 t17 hm WM.out m0 r0 r1 r2 r3 ea2 X
      clear hMT ea0 ea1 ea2 es0 es1 es2
      have B0 : Hid (blk wr w2.heap.size = some (.cells #[.int .i64 t0, .int .i64 t1, .int .i64 t2, .int .i64 t3, .int .i64 t4, .int .i64 t5, .int .i64 t6, .int .i64 t7, .int .i64 t8, .int .i64 t9, .int .i64 t10, .int .i64 t11, .int .i64 t12, .int .i64 t13, .int .i64 t14, .int .i64 t15, .int .i64 t16, .int .i64 t17] 25 (0, 0)) ∧ blk wr W.heap.size = some (.cells (cs .i64 ms) 27 (0, 0))) := ⟨(blk_below hb _ lC).trans BB.out.1, (blk_below hb _ lM).trans BB.out.2⟩
      have L4 : Below W.heap.size W wr := L3.trans (hb.mono L3.size)
      have hs2 : W.heap.size + 2 ≤ w2.heap.size := by omega
      clear hb L3 lC lM s1 s2
      go_wp2_with fail
      go_loopw [44] (fun i X => ∃ k : Nat, k ≤ 3 ∧ i = .int .i64 k ∧ Hid (blk X w2.heap.size = some (.cells (if k = 0 then #[.int .i64 t0, .int .i64 t1, .int .i64 t2, .int .i64 t3, .int .i64 t4, .int .i64 t5, .int .i64 t6, .int .i64 t7, .int .i64 t8, .int .i64 t9, .int .i64 t10, .int .i64 t11, .int .i64 t12, .int .i64 t13, .int .i64 t14, .int .i64 t15, .int .i64 t16, .int .i64 t17] else if k = 1 then #[.int .i64 p0, .int .i64 p1, .int .i64 p2, .int .i64 p3, .int .i64 t4, .int .i64 t5, .int .i64 t6, .int .i64 t7, .int .i64 t8, .int .i64 t9, .int .i64 t10, .int .i64 t11, .int .i64 t12, .int .i64 t13, .int .i64 t14, .int .i64 t15, .int .i64 t16, .int .i64 t17] else if k = 2 then #[.int .i64 p0, .int .i64 p1, .int .i64 p2, .int .i64 p3, .int .i64 t4, .int .i64 t5, .int .i64 q0, .int .i64 q1, .int .i64 q2, .int .i64 q3, .int .i64 t10, .int .i64 t11, .int .i64 t12, .int .i64 t13, .int .i64 t14, .int .i64 t15, .int .i64 t16, .int .i64 t17] else #[.int .i64 p0, .int .i64 p1, .int .i64 p2, .int .i64 p3, .int .i64 t4, .int .i64 t5, .int .i64 q0, .int .i64 q1, .int .i64 q2, .int .i64 q3, .int .i64 t10, .int .i64 t11, .int .i64 r0, .int .i64 r1, .int .i64 r2, .int .i64 r3, .int .i64 t16, .int .i64 t17]) 25 (0, 0)) ∧ blk X W.heap.size = some (.cells (cs .i64 ms) 27 (0, 0))) ∧ Below W.heap.size W X) (fun i _ => 3 - (intOf i).toNat)
      case atStart => exact ⟨0, by omega, rfl, B0, L4⟩
      case round =>
        obtain ⟨k, hk, rfl, HB, hb⟩ := hrel
        rename World => Y0
        clear B0 L4
        by_cases hlt : k < 3
        · have h3 : k = 0 ∨ k = 1 ∨ k = 2 := by omega
          rcases h3 with rfl | rfl | rfl
          · have bC : blk Y0 w2.heap.size = some (.cells #[.int .i64 t0, .int .i64 t1, .int .i64 t2, .int .i64 t3, .int .i64 t4, .int .i64 t5, .int .i64 t6, .int .i64 t7, .int .i64 t8, .int .i64 t9, .int .i64 t10, .int .i64 t11, .int .i64 t12, .int .i64 t13, .int .i64 t14, .int .i64 t15, .int .i64 t16, .int .i64 t17] 25 (0, 0)) := HB.out.1
            have bM : blk Y0 W.heap.size = some (.cells (cs .i64 ms) 27 (0, 0)) := HB.out.2
            clear HB
            have lM := blk_lt bM
            have lC := blk_lt bC
            go_upto_region 13 with (fail)
            refine PredS.region_vals (W := Y0) [⟨10, 11, 23, cs .i64 [0, 0, 0, 0], #[.int .i64 p0, .int .i64 p1, .int .i64 p2, .int .i64 p3]⟩] (PredS.Of [
                Is (.agg (cs .i64 ms)),
                Is (.slice (some ⟨w2.heap.size, 0, none⟩) 3 3),
                Is (.int .i64 0),
                Is (.pointer (some ⟨w2.heap.size, 0, none⟩)),
                Is (.pointer (some ⟨w2.heap.size, 0, none⟩)),
                Is (.agg #[.int .i64 t0, .int .i64 t1, .int .i64 t2, .int .i64 t3]),
                Is (.tuple #[.agg #[.int .i64 p0, .int .i64 p1, .int .i64 p2, .int .i64 p3], .int .i64 0]),
                Is (.tuple #[.agg #[.int .i64 p0, .int .i64 p1, .int .i64 p2, .int .i64 p3], .int .i64 0]),
                Is (.agg #[.int .i64 p0, .int .i64 p1, .int .i64 p2, .int .i64 p3]),
                Is (.int .i64 0),
                Is undef,
                Is undef,
                Is (.int .i64 0)]) (by kernel_rfl) (by kernel_rfl) (by kernel_rfl) (by kernel_rfl) (PredS.of_stab ?_) ?_ ?_ ?_
            · exact ⟨is_stab _, is_stab _, is_stab _, is_stab _, is_stab _, is_stab _, is_stab _, is_stab _, is_stab _, is_stab _, is_stab _, is_stab _, is_stab _, trivial⟩
            · refine ⟨.inr ?_, .inr ?_, .inr ?_, .inr ?_, .inr ?_, .inr ?_, .inr ?_, .inr ?_, .inr ?_, .inr ?_, .inl rfl, .inl rfl, .inr ?_, trivial⟩
              · intro b X hE hd hn hV
                have r4 : b.tmps[4]?.getD undef = .pointer (some ⟨W.heap.size, 0, none⟩) := (hn 4 (by kernel_rfl)).trans rfl
                have q := (blk_below hE _ lM).trans bM
                exact Pred.yields_run (v := .agg (cs .i64 ms)) (Pred.wanted_none rfl) (by go_simp) ⟨PredS.ext_refl _ _ _, rfl⟩
              · intro b X hE hd hn hV
                have r10 : b.tmps[10]?.getD undef = .slice (some ⟨w2.heap.size, 0, none⟩) 3 3 := (hn 10 (by kernel_rfl)).trans rfl
                exact Pred.yields_run (v := .slice (some ⟨w2.heap.size, 0, none⟩) 3 3) (Pred.wanted_none rfl) (by go_simp) ⟨PredS.ext_refl _ _ _, rfl⟩
              · intro b X hE hd hn hV
                have r13 : b.tmps[13]?.getD undef = .int .i64 0 := (hn 13 (by kernel_rfl)).trans rfl
                exact Pred.yields_run (v := .int .i64 0) (Pred.wanted_none rfl) (by go_simp) ⟨PredS.ext_refl _ _ _, rfl⟩
              · intro b X hE hd hn hV
                have r49 : b.tmps[49]?.getD undef = .slice (some ⟨w2.heap.size, 0, none⟩) 3 3 := hV 1 _ 49 rfl rfl rfl (Pred.waits_near (by kernel_rfl) (by kernel_rfl))
                have r50 : b.tmps[50]?.getD undef = .int .i64 0 := hV 2 _ 50 rfl rfl rfl (Pred.waits_near (by kernel_rfl) (by kernel_rfl))
                exact Pred.yields_run (v := .pointer (some ⟨w2.heap.size, 0, none⟩)) (Pred.wanted_none rfl) (by go_simp) ⟨PredS.ext_refl _ _ _, rfl⟩
              · intro b X hE hd hn hV
                have r51 : b.tmps[51]?.getD undef = .pointer (some ⟨w2.heap.size, 0, none⟩) := hV 3 _ 51 rfl rfl rfl (Pred.waits_near (by kernel_rfl) (by kernel_rfl))
                exact Pred.yields_run (v := .pointer (some ⟨w2.heap.size, 0, none⟩)) (Pred.wanted_none rfl) (by go_simp) ⟨PredS.ext_refl _ _ _, rfl⟩
              · intro b X hE hd hn hV
                have r52 : b.tmps[52]?.getD undef = .pointer (some ⟨w2.heap.size, 0, none⟩) := hV 4 _ 52 rfl rfl rfl (Pred.waits_near (by kernel_rfl) (by kernel_rfl))
                have q := (blk_below hE _ lC).trans bC
                exact Pred.yields_run (v := .agg #[.int .i64 t0, .int .i64 t1, .int .i64 t2, .int .i64 t3]) (Pred.wanted_none rfl) (by go_simp) ⟨PredS.ext_refl _ _ _, rfl⟩
              · intro b X hE hd hn hV
                have r48 : b.tmps[48]?.getD undef = .agg (cs .i64 ms) := hV 0 _ 48 rfl rfl rfl (Pred.waits_near (by kernel_rfl) (by kernel_rfl))
                have r53 : b.tmps[53]?.getD undef = .agg #[.int .i64 t0, .int .i64 t1, .int .i64 t2, .int .i64 t3] := hV 5 _ 53 rfl rfl rfl (Pred.waits_near (by kernel_rfl) (by kernel_rfl))
                refine Pred.yields_call (f := 24) (args := #[.agg (cs .i64 ms), .agg #[.int .i64 t0, .int .i64 t1, .int .i64 t2, .int .i64 t3]]) (Pred.wanted_none rfl) (by go_simp) ?_
                exact (CA0.out _).mono fun e w2 ⟨he, hb⟩ => ⟨_, he, PredS.ext_below hb hE.size, rfl⟩
              · intro b X hE hd hn hV
                have r54 : b.tmps[54]?.getD undef = .tuple #[.agg #[.int .i64 p0, .int .i64 p1, .int .i64 p2, .int .i64 p3], .int .i64 0] := hV 6 _ 54 rfl rfl rfl (Pred.waits_near (by kernel_rfl) (by kernel_rfl))
                exact Pred.yields_run (v := .tuple #[.agg #[.int .i64 p0, .int .i64 p1, .int .i64 p2, .int .i64 p3], .int .i64 0]) (Pred.wanted_none rfl) (by go_simp) ⟨PredS.ext_refl _ _ _, rfl⟩
              · intro b X hE hd hn hV
                have r47 : b.tmps[47]?.getD undef = .tuple #[.agg #[.int .i64 p0, .int .i64 p1, .int .i64 p2, .int .i64 p3], .int .i64 0] := hV 7 _ 47 rfl rfl rfl (Pred.waits_near (by kernel_rfl) (by kernel_rfl))
                exact Pred.yields_run (v := .agg #[.int .i64 p0, .int .i64 p1, .int .i64 p2, .int .i64 p3]) (Pred.wanted_none rfl) (by go_simp) ⟨PredS.ext_refl _ _ _, rfl⟩
              · intro b X hE hd hn hV
                have r47 : b.tmps[47]?.getD undef = .tuple #[.agg #[.int .i64 p0, .int .i64 p1, .int .i64 p2, .int .i64 p3], .int .i64 0] := hV 7 _ 47 rfl rfl rfl (Pred.waits_near (by kernel_rfl) (by kernel_rfl))
                exact Pred.yields_run (v := .int .i64 0) (Pred.wanted_none rfl) (by go_simp) ⟨PredS.ext_refl _ _ _, rfl⟩
              · intro b X hE hd hn hV
                have r56 : b.tmps[56]?.getD undef = .int .i64 0 := hV 9 _ 56 rfl rfl rfl (Pred.waits_near (by kernel_rfl) (by kernel_rfl))
                exact Pred.yields_run (v := .int .i64 0) (Pred.wanted_none rfl) (by go_simp) ⟨PredS.ext_refl _ _ _, rfl⟩
            · refine ⟨?_, trivial⟩
              · refine ⟨_, 14, _, rfl, rfl, by simp, rfl, fun ρ w => by first | (go_simp; done) | (go_simp; rfl), rfl, rfl, Pred.waits_near (by kernel_rfl) (by kernel_rfl), fun b X g hE hn hV hp hg hb => ?_⟩
                have r55 : b.tmps[55]?.getD undef = .agg #[.int .i64 p0, .int .i64 p1, .int .i64 p2, .int .i64 p3] := hV 8 _ 55 rfl rfl rfl (Pred.waits_near (by kernel_rfl) (by kernel_rfl))
                simp only at hb
                exact PredS.yields_skip (Pred.wanted_none rfl) (by go_simp) rfl
            intro v w6 hE hv hL
            have e0 : v 0 = .agg (cs .i64 ms) := hv 0 _ 48 rfl rfl rfl
            have e1 : v 1 = .slice (some ⟨w2.heap.size, 0, none⟩) 3 3 := hv 1 _ 49 rfl rfl rfl
            have e2 : v 2 = .int .i64 0 := hv 2 _ 50 rfl rfl rfl
            have e3 : v 3 = .pointer (some ⟨w2.heap.size, 0, none⟩) := hv 3 _ 51 rfl rfl rfl
            have e4 : v 4 = .pointer (some ⟨w2.heap.size, 0, none⟩) := hv 4 _ 52 rfl rfl rfl
            have e5 : v 5 = .agg #[.int .i64 t0, .int .i64 t1, .int .i64 t2, .int .i64 t3] := hv 5 _ 53 rfl rfl rfl
            have e6 : v 6 = .tuple #[.agg #[.int .i64 p0, .int .i64 p1, .int .i64 p2, .int .i64 p3], .int .i64 0] := hv 6 _ 54 rfl rfl rfl
            have e7 : v 7 = .tuple #[.agg #[.int .i64 p0, .int .i64 p1, .int .i64 p2, .int .i64 p3], .int .i64 0] := hv 7 _ 47 rfl rfl rfl
            have e8 : v 8 = .agg #[.int .i64 p0, .int .i64 p1, .int .i64 p2, .int .i64 p3] := hv 8 _ 55 rfl rfl rfl
            have e9 : v 9 = .int .i64 0 := hv 9 _ 56 rfl rfl rfl
            have e12 : v 12 = .int .i64 0 := hv 12 _ 15 rfl rfl rfl
            obtain ⟨⟨g10, e10, o10, q10, n10⟩, -⟩ := hL
            replace q10 : blk w6 g10 = some (.cells #[.int .i64 p0, .int .i64 p1, .int .i64 p2, .int .i64 p3] 23 (0, 0)) := q10
            clear n10
            simp only [Pred.putsF_cons, Pred.putsF_nil, Nat.zero_add, Nat.reduceAdd, e0, e1, e2, e3, e4, e5, e6, e7, e8, e9, e10, e12, Act.put, List.setIfInBounds_toArray, List.set_cons_zero, List.set_cons_succ]
            clear e0 e1 e2 e3 e4 e5 e6 e7 e8 e9 e10 e12 hv
            have bC6 := (blk_below hE _ lC).trans bC
            have bM6 := (blk_below hE _ lM).trans bM
            have L6 : Below W.heap.size W w6 := by repeat' (first | (with_reducible exact Below.refl _ _) | (with_reducible refine Rd.below_step ?_ (by assumption)) | (with_reducible refine Rd.below_alloc ?_ _) | (with_reducible refine Rd.below_drewN ?_ _) | (with_reducible refine Below.drew ?_) | (with_reducible refine Below.setCell ?_ ?_ _) | (with_reducible refine Rd.below_setRow ?_ ?_ _) | go_size | (simp only [World.size_alloc]; omega) | omega)
            have hYs := hb.size
            have og : Y0.heap.size ≤ g10 := o10
            clear hE bC bM hb lM o10
            go_wp2
            go_roundw
            case rel =>
              refine ⟨1, by omega, rfl, ⟨?_, ?_⟩, by repeat' (first | (with_reducible exact Below.refl _ _) | (with_reducible refine Rd.below_step ?_ (by assumption)) | (with_reducible refine Rd.below_alloc ?_ _) | (with_reducible refine Rd.below_drewN ?_ _) | (with_reducible refine Below.drew ?_) | (with_reducible refine Below.setCell ?_ ?_ _) | (with_reducible refine Rd.below_setRow ?_ ?_ _) | go_size | (simp only [World.size_alloc]; omega) | omega)⟩
              · exact blk_setRow_of bC6 _
              · rw [blk_setRow_other _ _ _ _ (by omega)]
                exact bM6
            case measure => simp [intOf]
          · have bC : blk Y0 w2.heap.size = some (.cells #[.int .i64 p0, .int .i64 p1, .int .i64 p2, .int .i64 p3, .int .i64 t4, .int .i64 t5, .int .i64 t6, .int .i64 t7, .int .i64 t8, .int .i64 t9, .int .i64 t10, .int .i64 t11, .int .i64 t12, .int .i64 t13, .int .i64 t14, .int .i64 t15, .int .i64 t16, .int .i64 t17] 25 (0, 0)) := HB.out.1
            have bM : blk Y0 W.heap.size = some (.cells (cs .i64 ms) 27 (0, 0)) := HB.out.2
            clear HB
            have lM := blk_lt bM
            have lC := blk_lt bC
            go_upto_region 13 with (fail)
            refine PredS.region_vals (W := Y0) [⟨10, 11, 23, cs .i64 [0, 0, 0, 0], #[.int .i64 q0, .int .i64 q1, .int .i64 q2, .int .i64 q3]⟩] (PredS.Of [
                Is (.agg (cs .i64 ms)),
                Is (.slice (some ⟨w2.heap.size, 0, none⟩) 3 3),
                Is (.int .i64 1),
                Is (.pointer (some ⟨w2.heap.size, 6, none⟩)),
                Is (.pointer (some ⟨w2.heap.size, 6, none⟩)),
                Is (.agg #[.int .i64 t6, .int .i64 t7, .int .i64 t8, .int .i64 t9]),
                Is (.tuple #[.agg #[.int .i64 q0, .int .i64 q1, .int .i64 q2, .int .i64 q3], .int .i64 0]),
                Is (.tuple #[.agg #[.int .i64 q0, .int .i64 q1, .int .i64 q2, .int .i64 q3], .int .i64 0]),
                Is (.agg #[.int .i64 q0, .int .i64 q1, .int .i64 q2, .int .i64 q3]),
                Is (.int .i64 0),
                Is undef,
                Is undef,
                Is (.int .i64 0)]) (by kernel_rfl) (by kernel_rfl) (by kernel_rfl) (by kernel_rfl) (PredS.of_stab ?_) ?_ ?_ ?_
            · exact ⟨is_stab _, is_stab _, is_stab _, is_stab _, is_stab _, is_stab _, is_stab _, is_stab _, is_stab _, is_stab _, is_stab _, is_stab _, is_stab _, trivial⟩
            · refine ⟨.inr ?_, .inr ?_, .inr ?_, .inr ?_, .inr ?_, .inr ?_, .inr ?_, .inr ?_, .inr ?_, .inr ?_, .inl rfl, .inl rfl, .inr ?_, trivial⟩
              · intro b X hE hd hn hV
                have r4 : b.tmps[4]?.getD undef = .pointer (some ⟨W.heap.size, 0, none⟩) := (hn 4 (by kernel_rfl)).trans rfl
                have q := (blk_below hE _ lM).trans bM
                exact Pred.yields_run (v := .agg (cs .i64 ms)) (Pred.wanted_none rfl) (by go_simp) ⟨PredS.ext_refl _ _ _, rfl⟩
              · intro b X hE hd hn hV
                have r10 : b.tmps[10]?.getD undef = .slice (some ⟨w2.heap.size, 0, none⟩) 3 3 := (hn 10 (by kernel_rfl)).trans rfl
                exact Pred.yields_run (v := .slice (some ⟨w2.heap.size, 0, none⟩) 3 3) (Pred.wanted_none rfl) (by go_simp) ⟨PredS.ext_refl _ _ _, rfl⟩
              · intro b X hE hd hn hV
                have r13 : b.tmps[13]?.getD undef = .int .i64 1 := (hn 13 (by kernel_rfl)).trans rfl
                exact Pred.yields_run (v := .int .i64 1) (Pred.wanted_none rfl) (by go_simp) ⟨PredS.ext_refl _ _ _, rfl⟩
              · intro b X hE hd hn hV
                have r49 : b.tmps[49]?.getD undef = .slice (some ⟨w2.heap.size, 0, none⟩) 3 3 := hV 1 _ 49 rfl rfl rfl (Pred.waits_near (by kernel_rfl) (by kernel_rfl))
                have r50 : b.tmps[50]?.getD undef = .int .i64 1 := hV 2 _ 50 rfl rfl rfl (Pred.waits_near (by kernel_rfl) (by kernel_rfl))
                exact Pred.yields_run (v := .pointer (some ⟨w2.heap.size, 6, none⟩)) (Pred.wanted_none rfl) (by go_simp) ⟨PredS.ext_refl _ _ _, rfl⟩
              · intro b X hE hd hn hV
                have r51 : b.tmps[51]?.getD undef = .pointer (some ⟨w2.heap.size, 6, none⟩) := hV 3 _ 51 rfl rfl rfl (Pred.waits_near (by kernel_rfl) (by kernel_rfl))
                exact Pred.yields_run (v := .pointer (some ⟨w2.heap.size, 6, none⟩)) (Pred.wanted_none rfl) (by go_simp) ⟨PredS.ext_refl _ _ _, rfl⟩
              · intro b X hE hd hn hV
                have r52 : b.tmps[52]?.getD undef = .pointer (some ⟨w2.heap.size, 6, none⟩) := hV 4 _ 52 rfl rfl rfl (Pred.waits_near (by kernel_rfl) (by kernel_rfl))
                have q := (blk_below hE _ lC).trans bC
                exact Pred.yields_run (v := .agg #[.int .i64 t6, .int .i64 t7, .int .i64 t8, .int .i64 t9]) (Pred.wanted_none rfl) (by go_simp) ⟨PredS.ext_refl _ _ _, rfl⟩
              · intro b X hE hd hn hV
                have r48 : b.tmps[48]?.getD undef = .agg (cs .i64 ms) := hV 0 _ 48 rfl rfl rfl (Pred.waits_near (by kernel_rfl) (by kernel_rfl))
                have r53 : b.tmps[53]?.getD undef = .agg #[.int .i64 t6, .int .i64 t7, .int .i64 t8, .int .i64 t9] := hV 5 _ 53 rfl rfl rfl (Pred.waits_near (by kernel_rfl) (by kernel_rfl))
                refine Pred.yields_call (f := 24) (args := #[.agg (cs .i64 ms), .agg #[.int .i64 t6, .int .i64 t7, .int .i64 t8, .int .i64 t9]]) (Pred.wanted_none rfl) (by go_simp) ?_
                exact (CA1.out _).mono fun e w2 ⟨he, hb⟩ => ⟨_, he, PredS.ext_below hb hE.size, rfl⟩
              · intro b X hE hd hn hV
                have r54 : b.tmps[54]?.getD undef = .tuple #[.agg #[.int .i64 q0, .int .i64 q1, .int .i64 q2, .int .i64 q3], .int .i64 0] := hV 6 _ 54 rfl rfl rfl (Pred.waits_near (by kernel_rfl) (by kernel_rfl))
                exact Pred.yields_run (v := .tuple #[.agg #[.int .i64 q0, .int .i64 q1, .int .i64 q2, .int .i64 q3], .int .i64 0]) (Pred.wanted_none rfl) (by go_simp) ⟨PredS.ext_refl _ _ _, rfl⟩
              · intro b X hE hd hn hV
                have r47 : b.tmps[47]?.getD undef = .tuple #[.agg #[.int .i64 q0, .int .i64 q1, .int .i64 q2, .int .i64 q3], .int .i64 0] := hV 7 _ 47 rfl rfl rfl (Pred.waits_near (by kernel_rfl) (by kernel_rfl))
                exact Pred.yields_run (v := .agg #[.int .i64 q0, .int .i64 q1, .int .i64 q2, .int .i64 q3]) (Pred.wanted_none rfl) (by go_simp) ⟨PredS.ext_refl _ _ _, rfl⟩
              · intro b X hE hd hn hV
                have r47 : b.tmps[47]?.getD undef = .tuple #[.agg #[.int .i64 q0, .int .i64 q1, .int .i64 q2, .int .i64 q3], .int .i64 0] := hV 7 _ 47 rfl rfl rfl (Pred.waits_near (by kernel_rfl) (by kernel_rfl))
                exact Pred.yields_run (v := .int .i64 0) (Pred.wanted_none rfl) (by go_simp) ⟨PredS.ext_refl _ _ _, rfl⟩
              · intro b X hE hd hn hV
                have r56 : b.tmps[56]?.getD undef = .int .i64 0 := hV 9 _ 56 rfl rfl rfl (Pred.waits_near (by kernel_rfl) (by kernel_rfl))
                exact Pred.yields_run (v := .int .i64 0) (Pred.wanted_none rfl) (by go_simp) ⟨PredS.ext_refl _ _ _, rfl⟩
            · refine ⟨?_, trivial⟩
              · refine ⟨_, 14, _, rfl, rfl, by simp, rfl, fun ρ w => by first | (go_simp; done) | (go_simp; rfl), rfl, rfl, Pred.waits_near (by kernel_rfl) (by kernel_rfl), fun b X g hE hn hV hp hg hb => ?_⟩
                have r55 : b.tmps[55]?.getD undef = .agg #[.int .i64 q0, .int .i64 q1, .int .i64 q2, .int .i64 q3] := hV 8 _ 55 rfl rfl rfl (Pred.waits_near (by kernel_rfl) (by kernel_rfl))
                simp only at hb
                exact PredS.yields_skip (Pred.wanted_none rfl) (by go_simp) rfl
            intro v w6 hE hv hL
            have e0 : v 0 = .agg (cs .i64 ms) := hv 0 _ 48 rfl rfl rfl
            have e1 : v 1 = .slice (some ⟨w2.heap.size, 0, none⟩) 3 3 := hv 1 _ 49 rfl rfl rfl
            have e2 : v 2 = .int .i64 1 := hv 2 _ 50 rfl rfl rfl
            have e3 : v 3 = .pointer (some ⟨w2.heap.size, 6, none⟩) := hv 3 _ 51 rfl rfl rfl
            have e4 : v 4 = .pointer (some ⟨w2.heap.size, 6, none⟩) := hv 4 _ 52 rfl rfl rfl
            have e5 : v 5 = .agg #[.int .i64 t6, .int .i64 t7, .int .i64 t8, .int .i64 t9] := hv 5 _ 53 rfl rfl rfl
            have e6 : v 6 = .tuple #[.agg #[.int .i64 q0, .int .i64 q1, .int .i64 q2, .int .i64 q3], .int .i64 0] := hv 6 _ 54 rfl rfl rfl
            have e7 : v 7 = .tuple #[.agg #[.int .i64 q0, .int .i64 q1, .int .i64 q2, .int .i64 q3], .int .i64 0] := hv 7 _ 47 rfl rfl rfl
            have e8 : v 8 = .agg #[.int .i64 q0, .int .i64 q1, .int .i64 q2, .int .i64 q3] := hv 8 _ 55 rfl rfl rfl
            have e9 : v 9 = .int .i64 0 := hv 9 _ 56 rfl rfl rfl
            have e12 : v 12 = .int .i64 0 := hv 12 _ 15 rfl rfl rfl
            obtain ⟨⟨g10, e10, o10, q10, n10⟩, -⟩ := hL
            replace q10 : blk w6 g10 = some (.cells #[.int .i64 q0, .int .i64 q1, .int .i64 q2, .int .i64 q3] 23 (0, 0)) := q10
            clear n10
            simp only [Pred.putsF_cons, Pred.putsF_nil, Nat.zero_add, Nat.reduceAdd, e0, e1, e2, e3, e4, e5, e6, e7, e8, e9, e10, e12, Act.put, List.setIfInBounds_toArray, List.set_cons_zero, List.set_cons_succ]
            clear e0 e1 e2 e3 e4 e5 e6 e7 e8 e9 e10 e12 hv
            have bC6 := (blk_below hE _ lC).trans bC
            have bM6 := (blk_below hE _ lM).trans bM
            have L6 : Below W.heap.size W w6 := by repeat' (first | (with_reducible exact Below.refl _ _) | (with_reducible refine Rd.below_step ?_ (by assumption)) | (with_reducible refine Rd.below_alloc ?_ _) | (with_reducible refine Rd.below_drewN ?_ _) | (with_reducible refine Below.drew ?_) | (with_reducible refine Below.setCell ?_ ?_ _) | (with_reducible refine Rd.below_setRow ?_ ?_ _) | go_size | (simp only [World.size_alloc]; omega) | omega)
            have hYs := hb.size
            have og : Y0.heap.size ≤ g10 := o10
            clear hE bC bM hb lM o10
            go_wp2
            go_roundw
            case rel =>
              refine ⟨2, by omega, rfl, ⟨?_, ?_⟩, by repeat' (first | (with_reducible exact Below.refl _ _) | (with_reducible refine Rd.below_step ?_ (by assumption)) | (with_reducible refine Rd.below_alloc ?_ _) | (with_reducible refine Rd.below_drewN ?_ _) | (with_reducible refine Below.drew ?_) | (with_reducible refine Below.setCell ?_ ?_ _) | (with_reducible refine Rd.below_setRow ?_ ?_ _) | go_size | (simp only [World.size_alloc]; omega) | omega)⟩
              · exact blk_setRow_of bC6 _
              · rw [blk_setRow_other _ _ _ _ (by omega)]
                exact bM6
            case measure => simp [intOf]
          · have bC : blk Y0 w2.heap.size = some (.cells #[.int .i64 p0, .int .i64 p1, .int .i64 p2, .int .i64 p3, .int .i64 t4, .int .i64 t5, .int .i64 q0, .int .i64 q1, .int .i64 q2, .int .i64 q3, .int .i64 t10, .int .i64 t11, .int .i64 t12, .int .i64 t13, .int .i64 t14, .int .i64 t15, .int .i64 t16, .int .i64 t17] 25 (0, 0)) := HB.out.1
            have bM : blk Y0 W.heap.size = some (.cells (cs .i64 ms) 27 (0, 0)) := HB.out.2
            clear HB
            have lM := blk_lt bM
            have lC := blk_lt bC
            go_upto_region 13 with (fail)
            refine PredS.region_vals (W := Y0) [⟨10, 11, 23, cs .i64 [0, 0, 0, 0], #[.int .i64 r0, .int .i64 r1, .int .i64 r2, .int .i64 r3]⟩] (PredS.Of [
                Is (.agg (cs .i64 ms)),
                Is (.slice (some ⟨w2.heap.size, 0, none⟩) 3 3),
                Is (.int .i64 2),
                Is (.pointer (some ⟨w2.heap.size, 12, none⟩)),
                Is (.pointer (some ⟨w2.heap.size, 12, none⟩)),
                Is (.agg #[.int .i64 t12, .int .i64 t13, .int .i64 t14, .int .i64 t15]),
                Is (.tuple #[.agg #[.int .i64 r0, .int .i64 r1, .int .i64 r2, .int .i64 r3], .int .i64 0]),
                Is (.tuple #[.agg #[.int .i64 r0, .int .i64 r1, .int .i64 r2, .int .i64 r3], .int .i64 0]),
                Is (.agg #[.int .i64 r0, .int .i64 r1, .int .i64 r2, .int .i64 r3]),
                Is (.int .i64 0),
                Is undef,
                Is undef,
                Is (.int .i64 0)]) (by kernel_rfl) (by kernel_rfl) (by kernel_rfl) (by kernel_rfl) (PredS.of_stab ?_) ?_ ?_ ?_
            · exact ⟨is_stab _, is_stab _, is_stab _, is_stab _, is_stab _, is_stab _, is_stab _, is_stab _, is_stab _, is_stab _, is_stab _, is_stab _, is_stab _, trivial⟩
            · refine ⟨.inr ?_, .inr ?_, .inr ?_, .inr ?_, .inr ?_, .inr ?_, .inr ?_, .inr ?_, .inr ?_, .inr ?_, .inl rfl, .inl rfl, .inr ?_, trivial⟩
              · intro b X hE hd hn hV
                have r4 : b.tmps[4]?.getD undef = .pointer (some ⟨W.heap.size, 0, none⟩) := (hn 4 (by kernel_rfl)).trans rfl
                have q := (blk_below hE _ lM).trans bM
                exact Pred.yields_run (v := .agg (cs .i64 ms)) (Pred.wanted_none rfl) (by go_simp) ⟨PredS.ext_refl _ _ _, rfl⟩
              · intro b X hE hd hn hV
                have r10 : b.tmps[10]?.getD undef = .slice (some ⟨w2.heap.size, 0, none⟩) 3 3 := (hn 10 (by kernel_rfl)).trans rfl
                exact Pred.yields_run (v := .slice (some ⟨w2.heap.size, 0, none⟩) 3 3) (Pred.wanted_none rfl) (by go_simp) ⟨PredS.ext_refl _ _ _, rfl⟩
              · intro b X hE hd hn hV
                have r13 : b.tmps[13]?.getD undef = .int .i64 2 := (hn 13 (by kernel_rfl)).trans rfl
                exact Pred.yields_run (v := .int .i64 2) (Pred.wanted_none rfl) (by go_simp) ⟨PredS.ext_refl _ _ _, rfl⟩
              · intro b X hE hd hn hV
                have r49 : b.tmps[49]?.getD undef = .slice (some ⟨w2.heap.size, 0, none⟩) 3 3 := hV 1 _ 49 rfl rfl rfl (Pred.waits_near (by kernel_rfl) (by kernel_rfl))
                have r50 : b.tmps[50]?.getD undef = .int .i64 2 := hV 2 _ 50 rfl rfl rfl (Pred.waits_near (by kernel_rfl) (by kernel_rfl))
                exact Pred.yields_run (v := .pointer (some ⟨w2.heap.size, 12, none⟩)) (Pred.wanted_none rfl) (by go_simp) ⟨PredS.ext_refl _ _ _, rfl⟩
              · intro b X hE hd hn hV
                have r51 : b.tmps[51]?.getD undef = .pointer (some ⟨w2.heap.size, 12, none⟩) := hV 3 _ 51 rfl rfl rfl (Pred.waits_near (by kernel_rfl) (by kernel_rfl))
                exact Pred.yields_run (v := .pointer (some ⟨w2.heap.size, 12, none⟩)) (Pred.wanted_none rfl) (by go_simp) ⟨PredS.ext_refl _ _ _, rfl⟩
              · intro b X hE hd hn hV
                have r52 : b.tmps[52]?.getD undef = .pointer (some ⟨w2.heap.size, 12, none⟩) := hV 4 _ 52 rfl rfl rfl (Pred.waits_near (by kernel_rfl) (by kernel_rfl))
                have q := (blk_below hE _ lC).trans bC
                exact Pred.yields_run (v := .agg #[.int .i64 t12, .int .i64 t13, .int .i64 t14, .int .i64 t15]) (Pred.wanted_none rfl) (by go_simp) ⟨PredS.ext_refl _ _ _, rfl⟩
              · intro b X hE hd hn hV
                have r48 : b.tmps[48]?.getD undef = .agg (cs .i64 ms) := hV 0 _ 48 rfl rfl rfl (Pred.waits_near (by kernel_rfl) (by kernel_rfl))
                have r53 : b.tmps[53]?.getD undef = .agg #[.int .i64 t12, .int .i64 t13, .int .i64 t14, .int .i64 t15] := hV 5 _ 53 rfl rfl rfl (Pred.waits_near (by kernel_rfl) (by kernel_rfl))
                refine Pred.yields_call (f := 24) (args := #[.agg (cs .i64 ms), .agg #[.int .i64 t12, .int .i64 t13, .int .i64 t14, .int .i64 t15]]) (Pred.wanted_none rfl) (by go_simp) ?_
                exact (CA2.out _).mono fun e w2 ⟨he, hb⟩ => ⟨_, he, PredS.ext_below hb hE.size, rfl⟩
              · intro b X hE hd hn hV
                have r54 : b.tmps[54]?.getD undef = .tuple #[.agg #[.int .i64 r0, .int .i64 r1, .int .i64 r2, .int .i64 r3], .int .i64 0] := hV 6 _ 54 rfl rfl rfl (Pred.waits_near (by kernel_rfl) (by kernel_rfl))
                exact Pred.yields_run (v := .tuple #[.agg #[.int .i64 r0, .int .i64 r1, .int .i64 r2, .int .i64 r3], .int .i64 0]) (Pred.wanted_none rfl) (by go_simp) ⟨PredS.ext_refl _ _ _, rfl⟩
              · intro b X hE hd hn hV
                have r47 : b.tmps[47]?.getD undef = .tuple #[.agg #[.int .i64 r0, .int .i64 r1, .int .i64 r2, .int .i64 r3], .int .i64 0] := hV 7 _ 47 rfl rfl rfl (Pred.waits_near (by kernel_rfl) (by kernel_rfl))
                exact Pred.yields_run (v := .agg #[.int .i64 r0, .int .i64 r1, .int .i64 r2, .int .i64 r3]) (Pred.wanted_none rfl) (by go_simp) ⟨PredS.ext_refl _ _ _, rfl⟩
              · intro b X hE hd hn hV
                have r47 : b.tmps[47]?.getD undef = .tuple #[.agg #[.int .i64 r0, .int .i64 r1, .int .i64 r2, .int .i64 r3], .int .i64 0] := hV 7 _ 47 rfl rfl rfl (Pred.waits_near (by kernel_rfl) (by kernel_rfl))
                exact Pred.yields_run (v := .int .i64 0) (Pred.wanted_none rfl) (by go_simp) ⟨PredS.ext_refl _ _ _, rfl⟩
              · intro b X hE hd hn hV
                have r56 : b.tmps[56]?.getD undef = .int .i64 0 := hV 9 _ 56 rfl rfl rfl (Pred.waits_near (by kernel_rfl) (by kernel_rfl))
                exact Pred.yields_run (v := .int .i64 0) (Pred.wanted_none rfl) (by go_simp) ⟨PredS.ext_refl _ _ _, rfl⟩
            · refine ⟨?_, trivial⟩
              · refine ⟨_, 14, _, rfl, rfl, by simp, rfl, fun ρ w => by first | (go_simp; done) | (go_simp; rfl), rfl, rfl, Pred.waits_near (by kernel_rfl) (by kernel_rfl), fun b X g hE hn hV hp hg hb => ?_⟩
                have r55 : b.tmps[55]?.getD undef = .agg #[.int .i64 r0, .int .i64 r1, .int .i64 r2, .int .i64 r3] := hV 8 _ 55 rfl rfl rfl (Pred.waits_near (by kernel_rfl) (by kernel_rfl))
                simp only at hb
                exact PredS.yields_skip (Pred.wanted_none rfl) (by go_simp) rfl
            intro v w6 hE hv hL
            have e0 : v 0 = .agg (cs .i64 ms) := hv 0 _ 48 rfl rfl rfl
            have e1 : v 1 = .slice (some ⟨w2.heap.size, 0, none⟩) 3 3 := hv 1 _ 49 rfl rfl rfl
            have e2 : v 2 = .int .i64 2 := hv 2 _ 50 rfl rfl rfl
            have e3 : v 3 = .pointer (some ⟨w2.heap.size, 12, none⟩) := hv 3 _ 51 rfl rfl rfl
            have e4 : v 4 = .pointer (some ⟨w2.heap.size, 12, none⟩) := hv 4 _ 52 rfl rfl rfl
            have e5 : v 5 = .agg #[.int .i64 t12, .int .i64 t13, .int .i64 t14, .int .i64 t15] := hv 5 _ 53 rfl rfl rfl
            have e6 : v 6 = .tuple #[.agg #[.int .i64 r0, .int .i64 r1, .int .i64 r2, .int .i64 r3], .int .i64 0] := hv 6 _ 54 rfl rfl rfl
            have e7 : v 7 = .tuple #[.agg #[.int .i64 r0, .int .i64 r1, .int .i64 r2, .int .i64 r3], .int .i64 0] := hv 7 _ 47 rfl rfl rfl
            have e8 : v 8 = .agg #[.int .i64 r0, .int .i64 r1, .int .i64 r2, .int .i64 r3] := hv 8 _ 55 rfl rfl rfl
            have e9 : v 9 = .int .i64 0 := hv 9 _ 56 rfl rfl rfl
            have e12 : v 12 = .int .i64 0 := hv 12 _ 15 rfl rfl rfl
            obtain ⟨⟨g10, e10, o10, q10, n10⟩, -⟩ := hL
            replace q10 : blk w6 g10 = some (.cells #[.int .i64 r0, .int .i64 r1, .int .i64 r2, .int .i64 r3] 23 (0, 0)) := q10
            clear n10
            simp only [Pred.putsF_cons, Pred.putsF_nil, Nat.zero_add, Nat.reduceAdd, e0, e1, e2, e3, e4, e5, e6, e7, e8, e9, e10, e12, Act.put, List.setIfInBounds_toArray, List.set_cons_zero, List.set_cons_succ]
            clear e0 e1 e2 e3 e4 e5 e6 e7 e8 e9 e10 e12 hv
            have bC6 := (blk_below hE _ lC).trans bC
            have bM6 := (blk_below hE _ lM).trans bM
            have L6 : Below W.heap.size W w6 := by repeat' (first | (with_reducible exact Below.refl _ _) | (with_reducible refine Rd.below_step ?_ (by assumption)) | (with_reducible refine Rd.below_alloc ?_ _) | (with_reducible refine Rd.below_drewN ?_ _) | (with_reducible refine Below.drew ?_) | (with_reducible refine Below.setCell ?_ ?_ _) | (with_reducible refine Rd.below_setRow ?_ ?_ _) | go_size | (simp only [World.size_alloc]; omega) | omega)
            have hYs := hb.size
            have og : Y0.heap.size ≤ g10 := o10
            clear hE bC bM hb lM o10
            go_wp2
            go_roundw
            case rel =>
              refine ⟨3, by omega, rfl, ⟨?_, ?_⟩, by repeat' (first | (with_reducible exact Below.refl _ _) | (with_reducible refine Rd.below_step ?_ (by assumption)) | (with_reducible refine Rd.below_alloc ?_ _) | (with_reducible refine Rd.below_drewN ?_ _) | (with_reducible refine Below.drew ?_) | (with_reducible refine Below.setCell ?_ ?_ _) | (with_reducible refine Rd.below_setRow ?_ ?_ _) | go_size | (simp only [World.size_alloc]; omega) | omega)⟩
              · exact blk_setRow_of bC6 _
              · rw [blk_setRow_other _ _ _ _ (by omega)]
                exact bM6
            case measure => simp [intOf]
        · obtain rfl : k = 3 := by omega
          have bC : blk Y0 w2.heap.size = some (.cells #[.int .i64 p0, .int .i64 p1, .int .i64 p2, .int .i64 p3, .int .i64 t4, .int .i64 t5, .int .i64 q0, .int .i64 q1, .int .i64 q2, .int .i64 q3, .int .i64 t10, .int .i64 t11, .int .i64 r0, .int .i64 r1, .int .i64 r2, .int .i64 r3, .int .i64 t16, .int .i64 t17] 25 (0, 0)) := HB.out.1
          have hrow : RowAt Y0 (some ⟨w2.heap.size, 0, none⟩) (rowV ms T) := by
            rw [RV.out]
            exact rowAt_blk bC rfl (fun v hv => by
              simp only [List.mem_cons, List.not_mem_nil, or_false] at hv
              rcases hv with rfl | rfl | rfl <;> rfl)
          have HR := Lib.hid hrow
          have CP := Lib.hid (fun c => polygon_any (rowV ms T) (some ⟨w2.heap.size, 0, none⟩) c Y0 HR.out VR.out (by show 3 ≤ 100; omega))
          have hp := polyV_len3 (row := rowV ms T) rfl
          obtain ⟨R, eR⟩ : ∃ R, polyV (rowV ms T) = R := ⟨_, rfl⟩
          have VP := Lib.hid (poly_vx VR.out)
          rw [eR] at hp CP EA VP
          clear bC HB hrow eR CA0 CA1 CA2
          go_wp2_with fail
          refine (CP.out _).mono ?_
          rintro e w5 ⟨⟨ad5, c5, rfl, hr5⟩, hb5⟩
          have L5 : Below W.heap.size W w5 := by repeat' (first | (with_reducible exact Below.refl _ _) | (with_reducible refine Rd.below_step ?_ (by assumption)) | (with_reducible refine Rd.below_alloc ?_ _) | (with_reducible refine Rd.below_drewN ?_ _) | (with_reducible refine Below.drew ?_) | (with_reducible refine Below.setCell ?_ ?_ _) | (with_reducible refine Rd.below_setRow ?_ ?_ _) | go_size | (simp only [World.size_alloc]; omega) | omega)
          have H5 := Lib.hid hr5
          clear hb5 hr5 CP
          go_wp2_with fail
          refine (fan_any R ad5 c5 w h _ H5.out VP.out (by omega) EF.out).mono ?_
          rintro e w6 ⟨⟨ad6, c6, rfl, hr6⟩, hb6⟩
          have L6 : Below W.heap.size W w6 := by repeat' (first | (with_reducible exact Below.refl _ _) | (with_reducible refine Rd.below_step ?_ (by assumption)) | (with_reducible refine Rd.below_alloc ?_ _) | (with_reducible refine Rd.below_drewN ?_ _) | (with_reducible refine Below.drew ?_) | (with_reducible refine Below.setCell ?_ ?_ _) | (with_reducible refine Rd.below_setRow ?_ ?_ _) | go_size | (simp only [World.size_alloc]; omega) | omega)
          have H6 := Lib.hid hr6
          clear hb6 hr6
          go_wp2
          go_ret2
          rw [EA.out]
          exact ⟨⟨ad6, c6, rfl, H6.out⟩, by repeat' (first | (with_reducible exact Below.refl _ _) | (with_reducible refine Rd.below_step ?_ (by assumption)) | (with_reducible refine Rd.below_alloc ?_ _) | (with_reducible refine Rd.below_drewN ?_ _) | (with_reducible refine Below.drew ?_) | (with_reducible refine Below.setCell ?_ ?_ _) | (with_reducible refine Rd.below_setRow ?_ ?_ _) | go_size | (simp only [World.size_alloc]; omega) | omega)⟩
end Go.Proofs.Ytimfjogallcgnaa.ScG
