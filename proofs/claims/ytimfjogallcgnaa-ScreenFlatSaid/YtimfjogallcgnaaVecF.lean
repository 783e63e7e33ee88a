/-
  The document's own answers on matrices and vectors, the rest.
-/
import Derived.Test.YtimfjogallcgnaaVecE
namespace Go.Proofs.Ytimfjogallcgnaa.VecF
open Go.RowKit FixA Num Rd Go.Proofs.Ytimfjogallcgnaa.Row VecA VecB VecD VecE
set_option linter.unusedVariables false
set_option linter.unusedSimpArgs false
set_option maxRecDepth 10000
attribute [local go_sem ↓] load_mat load_vec store_mat store_vec
attribute [local go_sem] index_mat index_vec run_load_mat run_load_vec run_store_mat run_store_vec rowLoad_eq rowStore_eq blk_alloc_at blk_alloc_old blk_drew blk_drewN blk_set_far blk_set_far' blk_grow setRow_alloc_at setRow_alloc_old setRow_drew setRow_drewN all_map one_int




theorem out_at (ms vs : List Int) (r : Nat) : outF ms vs r = near (ms.getD (4 * r) 0 * vs.getD 0 0 + ms.getD (4 * r + 1) 0 * vs.getD 1 0 + ms.getD (4 * r + 2) 0 * vs.getD 2 0 + ms.getD (4 * r + 3) 0 * vs.getD 3 0) 65536 := rfl
theorem getD_v28 {l : List Int} (hl : l.all numB = true) (j : Nat) : -268435456 ≤ l.getD j 0 ∧ l.getD j 0 ≤ 268435456 := by
  by_cases hj : j < l.length
  · have := v28_of hl l[j] (List.getElem_mem _)
    simpa [List.getD, hj] using this
  · simp [List.getD, hj]

set_option maxHeartbeats 4000000 in
theorem rapply_any (ms vs : List Int) (hm : ms.length = 16) (hv : vs.length = 4) (w : World) (wm : Wf ms) (wv : Wf vs) :
    Calls Try.prog 29 #[.agg (cs .i64 ms), .agg (cs .i64 vs)] w fun e w' => e = .returned (.tuple #[.agg (cs .i64 (applyV ms vs).1), .int .i64 (applyV ms vs).2]) ∧ Below w.heap.size w w' := by
  have WM := Lib.hid wm
  have WV := Lib.hid wv
  clear wm wv
  go_enter Try.func29, Try.ntmps29
  go_wp2_with fail
  go_loopw [6] (fun i wr => ∃ k : Nat, k ≤ 4 ∧ i = .int .i64 k ∧ Hid ((vs.take k).all numB = true) ∧ Hid (blk wr w.heap.size = some (.cells (cs .i64 ms) 27 (0, 0)) ∧ blk wr (w.heap.size + 1) = some (.cells (cs .i64 vs) 23 (0, 0)) ∧ blk wr (w.heap.size + 1 + 1) = some (.cells (cs .i64 (List.replicate 4 0)) 23 (0, 0)) ∧ Below w.heap.size w wr)) (fun i _ => 4 - (intOf i).toNat)
  case atStart => exact ⟨0, by omega, rfl, rfl, blk3_0 _ _ _ _, blk3_1 _ _ _ _, blk3_2 _ _ _ _, by repeat' (first | (with_reducible exact Below.refl _ _) | (with_reducible refine Rd.below_step ?_ (by assumption)) | (with_reducible refine Rd.below_alloc ?_ _) | (with_reducible refine Rd.below_drewN ?_ _) | (with_reducible refine Below.drew ?_) | (with_reducible refine Below.setCell ?_ ?_ _) | (with_reducible refine Rd.below_setRow ?_ ?_ _) | go_size | (simp only [World.size_alloc]; omega) | omega)⟩
  case round =>
    obtain ⟨k, hk, rfl, HT, HB⟩ := hrel
    obtain ⟨m1, n1, z1, L1⟩ := HB.out
    by_cases hlt : k < 4
    · have hlt' : (k : Int) < 4 := by omega
      have hc : wr.cell? ⟨w.heap.size + 1, k, none⟩ = some (.int .i64 vs[k]) := by rw [blk_cell n1]; simp
      clear m1 n1
      by_cases g1 : vs[k] < -268435456
      · have EA := Lib.hid (show applyV ms vs = (List.replicate 4 0, 2) by unfold applyV; rw [all_nop (l := vs) (k := k) (by omega) (num_not (by omega))]; simp)
        go_wp2
        exact ret_vec2 rfl (w.heap.size + 1 + 1) (List.replicate 4 0) rfl (by simp) (blk_setRow_of z1 _) rfl ⟨by rw [EA.out]; rfl, by repeat' (first | (with_reducible exact Below.refl _ _) | (with_reducible refine Rd.below_step ?_ (by assumption)) | (with_reducible refine Rd.below_alloc ?_ _) | (with_reducible refine Rd.below_drewN ?_ _) | (with_reducible refine Below.drew ?_) | (with_reducible refine Below.setCell ?_ ?_ _) | (with_reducible refine Rd.below_setRow ?_ ?_ _) | go_size | (simp only [World.size_alloc]; omega) | omega)⟩
      · by_cases g2 : 268435456 < vs[k]
        · have EA := Lib.hid (show applyV ms vs = (List.replicate 4 0, 2) by unfold applyV; rw [all_nop (l := vs) (k := k) (by omega) (num_not (by omega))]; simp)
          have hd1 : decide (vs[k] < -268435456) = false := by simpa using g1
          go_wp2
          exact ret_vec2 rfl (w.heap.size + 1 + 1) (List.replicate 4 0) rfl (by simp) (blk_setRow_of z1 _) rfl ⟨by rw [EA.out]; rfl, by repeat' (first | (with_reducible exact Below.refl _ _) | (with_reducible refine Rd.below_step ?_ (by assumption)) | (with_reducible refine Rd.below_alloc ?_ _) | (with_reducible refine Rd.below_drewN ?_ _) | (with_reducible refine Below.drew ?_) | (with_reducible refine Below.setCell ?_ ?_ _) | (with_reducible refine Rd.below_setRow ?_ ?_ _) | go_size | (simp only [World.size_alloc]; omega) | omega)⟩
        · have ha := Lib.hid (take_allp HT.out (by omega) (num_mk (by omega) (by omega)))
          have hd1 : decide (vs[k] < -268435456) = false := by simpa using g1
          have hd2 : decide (268435456 < vs[k]) = false := by simpa using g2
          clear g1 g2 z1
          go_wp2
          exact ⟨⟨k + 1, by omega, by go_num, ha, HB⟩, by simp [intOf]; omega⟩
    · obtain rfl : k = 4 := by omega
      have H2 := Lib.hid (show vs.all numB = true by have := HT.out; rwa [List.take_of_length_le (by omega)] at this)
      clear HT HB
      have M1 := Lib.hid m1
      have N1 := Lib.hid n1
      have Z1 := Lib.hid z1
      have sr : w.heap.size + 3 ≤ wr.heap.size := by have := blk_lt z1; omega
      clear n1 z1
      go_wp2_with fail
      refine (rmay_any ms hm _ WM.out).mono ?_
      rintro e w1 ⟨rfl, hb⟩
      have s1 := hb.size
      have m1 := (blk_below hb _ (by omega)).trans M1.out
      have n1 := (blk_below hb _ (by omega)).trans N1.out
      have z1 := (blk_below hb _ (by omega)).trans Z1.out
      have L2 : Below w.heap.size w w1 := by repeat' (first | (with_reducible exact Below.refl _ _) | (with_reducible refine Rd.below_step ?_ (by assumption)) | (with_reducible refine Rd.below_alloc ?_ _) | (with_reducible refine Rd.below_drewN ?_ _) | (with_reducible refine Below.drew ?_) | (with_reducible refine Below.setCell ?_ ?_ _) | (with_reducible refine Rd.below_setRow ?_ ?_ _) | go_size | (simp only [World.size_alloc]; omega) | omega)
      clear hb M1 N1 Z1 L1
      by_cases h : ms.all cellB = true
      case neg =>
        have h' : ms.all cellB = false := by simpa using h
        have EA := Lib.hid (show applyV ms vs = (List.replicate 4 0, 2) by unfold applyV; rw [h']; rfl)
        clear h
        go_wp2
        exact ret_vec2 rfl (w.heap.size + 1 + 1) (List.replicate 4 0) rfl (by simp) (blk_setRow_of z1 _) rfl ⟨by rw [EA.out]; rfl, by repeat' (first | (with_reducible exact Below.refl _ _) | (with_reducible refine Rd.below_step ?_ (by assumption)) | (with_reducible refine Rd.below_alloc ?_ _) | (with_reducible refine Rd.below_drewN ?_ _) | (with_reducible refine Below.drew ?_) | (with_reducible refine Below.setCell ?_ ?_ _) | (with_reducible refine Rd.below_setRow ?_ ?_ _) | go_size | (simp only [World.size_alloc]; omega) | omega)⟩
      have H1 := Lib.hid h
      have EA := Lib.hid (show applyV ms vs = (fillK 4 (outF ms vs) 4, 0) by unfold applyV; rw [H1.out, H2.out]; simp)
      have hb3 : w.heap.size + 3 ≤ w1.heap.size := by omega
      have I0 : InvA w ms vs w1.heap.size 0 (w1.alloc (.cells (cs .i64 (List.replicate 4 0)) 23)) := ⟨by rw [blk_alloc_old _ _ _ (by omega)]; exact m1, by rw [blk_alloc_old _ _ _ (by omega)]; exact n1, by rw [blk_alloc_old _ _ _ (by omega)]; exact z1, by rw [fillK_0]; exact blk_alloc_at _ _ _ rfl, by repeat' (first | (with_reducible exact Below.refl _ _) | (with_reducible refine Rd.below_step ?_ (by assumption)) | (with_reducible refine Rd.below_alloc ?_ _) | (with_reducible refine Rd.below_drewN ?_ _) | (with_reducible refine Below.drew ?_) | (with_reducible refine Below.setCell ?_ ?_ _) | (with_reducible refine Rd.below_setRow ?_ ?_ _) | go_size | (simp only [World.size_alloc]; omega) | omega), by simp⟩
      clear m1 n1 z1 s1 sr
      go_wp2
      clear h
      go_loopw [8] (fun i wr => ∃ r : Nat, r ≤ 4 ∧ i = .int .i64 r ∧ InvA w ms vs w1.heap.size r wr) (fun i _ => 4 - (intOf i).toNat)
      case atStart => exact ⟨0, by omega, rfl, I0⟩
      case round =>
        obtain ⟨r, hr, rfl, I⟩ := hrel
        by_cases hlr : r < 4
        · have hlr' : (r : Int) < 4 := by omega
          clear I0
          obtain ⟨i1, i2, i3, i4, L3, i6⟩ := I.out
          clear I
          have g := getD_bd H1.out
          have g' := getD_v28 H2.out
          obtain ⟨B00, B01⟩ := prod_bd (g (4 * r)).1 (g (4 * r)).2 (g' 0).1 (g' 0).2
          have cm0 : wr.cell? ⟨w.heap.size, 4 * r, none⟩ = some (.int .i64 (ms.getD (4 * r) 0)) := by rw [blk_cell i1]; exact cs_at (at_of (by omega))
          have cn0 : wr.cell? ⟨w.heap.size + 1, 0, none⟩ = some (.int .i64 (vs.getD 0 0)) := by rw [blk_cell i2]; exact cs_at (at_of (by omega))
          have qm0 : IntKind.i64.wrap (4 * (r : Int) + 0) = 4 * (r : Int) + 0 := IntWalk.i64_in _ (by omega)
          have tm0 : (4 * (r : Int) + 0).toNat = 4 * r + 0 := by omega
          have um0 : 0 ≤ 4 * (r : Int) + 0 := by omega
          have vm0 : 4 * (r : Int) + 0 < 16 := by omega
          obtain ⟨B10, B11⟩ := prod_bd (g (4 * r + 1)).1 (g (4 * r + 1)).2 (g' 1).1 (g' 1).2
          have cm1 : wr.cell? ⟨w.heap.size, 4 * r + 1, none⟩ = some (.int .i64 (ms.getD (4 * r + 1) 0)) := by rw [blk_cell i1]; exact cs_at (at_of (by omega))
          have cn1 : wr.cell? ⟨w.heap.size + 1, 1, none⟩ = some (.int .i64 (vs.getD 1 0)) := by rw [blk_cell i2]; exact cs_at (at_of (by omega))
          have qm1 : IntKind.i64.wrap (4 * (r : Int) + 1) = 4 * (r : Int) + 1 := IntWalk.i64_in _ (by omega)
          have tm1 : (4 * (r : Int) + 1).toNat = 4 * r + 1 := by omega
          have um1 : 0 ≤ 4 * (r : Int) + 1 := by omega
          have vm1 : 4 * (r : Int) + 1 < 16 := by omega
          obtain ⟨B20, B21⟩ := prod_bd (g (4 * r + 2)).1 (g (4 * r + 2)).2 (g' 2).1 (g' 2).2
          have cm2 : wr.cell? ⟨w.heap.size, 4 * r + 2, none⟩ = some (.int .i64 (ms.getD (4 * r + 2) 0)) := by rw [blk_cell i1]; exact cs_at (at_of (by omega))
          have cn2 : wr.cell? ⟨w.heap.size + 1, 2, none⟩ = some (.int .i64 (vs.getD 2 0)) := by rw [blk_cell i2]; exact cs_at (at_of (by omega))
          have qm2 : IntKind.i64.wrap (4 * (r : Int) + 2) = 4 * (r : Int) + 2 := IntWalk.i64_in _ (by omega)
          have tm2 : (4 * (r : Int) + 2).toNat = 4 * r + 2 := by omega
          have um2 : 0 ≤ 4 * (r : Int) + 2 := by omega
          have vm2 : 4 * (r : Int) + 2 < 16 := by omega
          obtain ⟨B30, B31⟩ := prod_bd (g (4 * r + 3)).1 (g (4 * r + 3)).2 (g' 3).1 (g' 3).2
          have cm3 : wr.cell? ⟨w.heap.size, 4 * r + 3, none⟩ = some (.int .i64 (ms.getD (4 * r + 3) 0)) := by rw [blk_cell i1]; exact cs_at (at_of (by omega))
          have cn3 : wr.cell? ⟨w.heap.size + 1, 3, none⟩ = some (.int .i64 (vs.getD 3 0)) := by rw [blk_cell i2]; exact cs_at (at_of (by omega))
          have qm3 : IntKind.i64.wrap (4 * (r : Int) + 3) = 4 * (r : Int) + 3 := IntWalk.i64_in _ (by omega)
          have tm3 : (4 * (r : Int) + 3).toNat = 4 * r + 3 := by omega
          have um3 : 0 ≤ 4 * (r : Int) + 3 := by omega
          have vm3 : 4 * (r : Int) + 3 < 16 := by omega
          have qm : IntKind.i64.wrap (4 * (r : Int)) = 4 * (r : Int) := IntWalk.i64_in _ (by omega)
          have tm : (4 * (r : Int)).toNat = 4 * r := by omega
          have um : 0 ≤ 4 * (r : Int) := by omega
          have vm : 4 * (r : Int) < 16 := by omega
          have hE := Lib.hid (out_at ms vs r)
          clear g g'
          generalize gx0 : ms.getD (4 * r) 0 = x0 at B00 B01 cm0 hE
          generalize gy0 : vs.getD 0 0 = y0 at B00 B01 cn0 hE
          clear gx0 gy0
          generalize gx1 : ms.getD (4 * r + 1) 0 = x1 at B10 B11 cm1 hE
          generalize gy1 : vs.getD 1 0 = y1 at B10 B11 cn1 hE
          clear gx1 gy1
          generalize gx2 : ms.getD (4 * r + 2) 0 = x2 at B20 B21 cm2 hE
          generalize gy2 : vs.getD 2 0 = y2 at B20 B21 cn2 hE
          clear gx2 gy2
          generalize gx3 : ms.getD (4 * r + 3) 0 = x3 at B30 B31 cm3 hE
          generalize gy3 : vs.getD 3 0 = y3 at B30 B31 cn3 hE
          clear gx3 gy3
          go_wp2
          refine wp_loop_rounds 5 ?_
          iterate 4 (rw [rounds_succ]; go_wp2; go_quiet (fail); go_wp2)
          rw [rounds_succ]; go_wp2_with fail
          refine (rnear_any _ _ _ (by omega) (by omega) (by omega) (by omega)).mono ?_
          rintro e U ⟨rfl, rfl⟩
          have c0 : wr.cell? ⟨w1.heap.size, r, none⟩ = some (.int .i64 ((fillK 4 (outF ms vs) r).getD r 0)) := by
            rw [blk_cell i4]; exact cs_at (at_of (by rw [fillK_len]; omega))
          have f0 : wr.frozen? ⟨w1.heap.size, r, none⟩ = false := blk_frozen i4 _
          go_wp2
          go_roundw
          case rel =>
            refine ⟨r + 1, by omega, by go_num, ?_⟩
            refine ⟨?_, ?_, ?_, ?_, ?_, ?_⟩
            · exact (blk_set_far _ _ _ _ (by show _ < w1.heap.size; omega)).trans i1
            · exact (blk_set_far _ _ _ _ (by show _ < w1.heap.size; omega)).trans i2
            · exact (blk_set_far _ _ _ _ (by show _ < w1.heap.size; omega)).trans i3
            · have e := blk_set wr w1.heap.size r (.int .i64 (outF ms vs r)) _ _ i4
              rw [set_cs, fillK_set _ _ _ (by omega), hE.out] at e
              exact e
            · repeat' (first | (with_reducible exact Below.refl _ _) | (with_reducible refine Rd.below_step ?_ (by assumption)) | (with_reducible refine Rd.below_alloc ?_ _) | (with_reducible refine Rd.below_drewN ?_ _) | (with_reducible refine Below.drew ?_) | (with_reducible refine Below.setCell ?_ ?_ _) | (with_reducible refine Rd.below_setRow ?_ ?_ _) | go_size | (simp only [World.size_alloc]; omega) | omega)
            · simp only [World.size_setCell]; exact i6
          case measure => simp [intOf]; omega
        · obtain rfl : r = 4 := by omega
          obtain ⟨i1, i2, i3, i4, L3, i6⟩ := I.out
          have hq := fillK_len 4 (outF ms vs) 4
          generalize fillK 4 (outF ms vs) 4 = q at hq EA i4
          clear I I0
          go_wp2_with fail
          exact ret_vec2 rfl (w.heap.size + 1 + 1) q rfl hq (blk_setRow_of i3 _) rfl ⟨by rw [EA.out]; rfl, by repeat' (first | (with_reducible exact Below.refl _ _) | (with_reducible refine Rd.below_step ?_ (by assumption)) | (with_reducible refine Rd.below_alloc ?_ _) | (with_reducible refine Rd.below_drewN ?_ _) | (with_reducible refine Below.drew ?_) | (with_reducible refine Below.setCell ?_ ?_ _) | (with_reducible refine Rd.below_setRow ?_ ?_ _) | go_size | (simp only [World.size_alloc]; omega) | omega)⟩

theorem rone_any (w : World) :
    Calls Try.prog 14 #[] w fun e w' => e = .returned (.agg (cs .i64 oneL)) ∧ Below w.heap.size w w' := by
  go_enter Try.func14, Try.ntmps14
  go_wp2
  exact ret_mat1 rfl w.heap.size oneL rfl rfl (blk_alloc_at _ _ _ rfl) rfl ⟨rfl, by repeat' (first | (with_reducible exact Below.refl _ _) | (with_reducible refine Rd.below_step ?_ (by assumption)) | (with_reducible refine Rd.below_alloc ?_ _) | (with_reducible refine Rd.below_drewN ?_ _) | (with_reducible refine Below.drew ?_) | (with_reducible refine Below.setCell ?_ ?_ _) | (with_reducible refine Rd.below_setRow ?_ ?_ _) | go_size | (simp only [World.size_alloc]; omega) | omega)⟩

end Go.Proofs.Ytimfjogallcgnaa.VecF
