/-
  The document's own answers on matrices.
-/
import Derived.Test.YtgfdmjicokhheaaVecD
namespace Go.Proofs.Ytgfdmjicokhheaa.VecE
open Go.RowKit FixA Num Rd Go.Proofs.Ytgfdmjicokhheaa.Row VecA VecB VecD
set_option linter.unusedVariables false
set_option linter.unusedSimpArgs false
set_option maxRecDepth 10000
attribute [local go_sem ↓] load_mat load_vec store_mat store_vec
attribute [local go_sem] index_mat index_vec run_load_mat run_load_vec run_store_mat run_store_vec rowLoad_eq rowStore_eq blk_alloc_at blk_alloc_old blk_drew blk_drewN blk_set_far blk_set_far' blk_grow setRow_alloc_at setRow_alloc_old setRow_drew setRow_drewN all_map one_int



/-- what a product's walk keeps: the two factors, the result's place, and what is reckoned so far -/
abbrev Inv (w : World) (ms ns : List Int) (b k : Nat) (wr : World) : Prop :=
  Hid (blk wr w.heap.size = some (.cells (cs .i64 ms) 23 (0, 0)) ∧ blk wr (w.heap.size + 1) = some (.cells (cs .i64 ns) 23 (0, 0)) ∧
    blk wr (w.heap.size + 1 + 1) = some (.cells (cs .i64 (List.replicate 16 0)) 23 (0, 0)) ∧ blk wr b = some (.cells (cs .i64 (prodK ms ns k)) 23 (0, 0)) ∧ Below w.heap.size w wr ∧ b < wr.heap.size)

theorem getD_bd {l : List Int} (hl : l.all cellB = true) (j : Nat) : -1048576 ≤ l.getD j 0 ∧ l.getD j 0 ≤ 1048576 := by
  by_cases hj : j < l.length
  · have := cells_bd hl l[j] (List.getElem_mem _)
    simpa [List.getD, hj] using this
  · simp [List.getD, hj]
theorem ent_at (ms ns : List Int) (r c : Nat) (hr : r < 4) (hc : c < 4) : ent ms ns (4 * r + c) = near (ms.getD (4 * r) 0 * ns.getD c 0 + ms.getD (4 * r + 1) 0 * ns.getD (4 + c) 0 + ms.getD (4 * r + 2) 0 * ns.getD (8 + c) 0 + ms.getD (4 * r + 3) 0 * ns.getD (12 + c) 0) 65536 := by
  have e1 : (4 * r + c) / 4 = r := by omega
  have e2 : (4 * r + c) % 4 = c := by omega
  unfold ent
  rw [e1, e2]
  rfl

set_option maxHeartbeats 2000000 in
theorem rmul_any (ms ns : List Int) (hm : ms.length = 16) (hn : ns.length = 16) (w : World) (wm : Wf ms) (wn : Wf ns) :
    Calls Try.prog 9 #[.agg (cs .i64 ms), .agg (cs .i64 ns)] w fun e w' => e = .returned (.tuple #[.agg (cs .i64 (mulV ms ns).1), .int .i64 (mulV ms ns).2]) ∧ Below w.heap.size w w' := by
  have WM := Lib.hid wm
  have WN := Lib.hid wn
  clear wm wn
  go_enter Try.func9, Try.ntmps9
  go_wp2_with fail
  refine (rmay_any ms hm _ WM.out).mono ?_
  rintro e w1 ⟨rfl, hb1⟩
  have s1 := hb1.size
  simp only [World.size_alloc] at s1
  have m1 : blk w1 (w.heap.size) = some (.cells (cs .i64 ms) 23 (0, 0)) := (blk_below hb1 _ (by (try simp only [World.size_alloc]); omega)).trans (by first | exact blk3_0 _ _ _ _ | exact blk3_1 _ _ _ _ | exact blk3_2 _ _ _ _)
  have n1 : blk w1 (w.heap.size + 1) = some (.cells (cs .i64 ns) 23 (0, 0)) := (blk_below hb1 _ (by (try simp only [World.size_alloc]); omega)).trans (by first | exact blk3_0 _ _ _ _ | exact blk3_1 _ _ _ _ | exact blk3_2 _ _ _ _)
  have z1 : blk w1 (w.heap.size + 1 + 1) = some (.cells (cs .i64 (List.replicate 16 0)) 23 (0, 0)) := (blk_below hb1 _ (by (try simp only [World.size_alloc]); omega)).trans (by first | exact blk3_0 _ _ _ _ | exact blk3_1 _ _ _ _ | exact blk3_2 _ _ _ _)
  have L1 : Below w.heap.size w w1 := by repeat' (first | (with_reducible exact Below.refl _ _) | (with_reducible refine Rd.below_step ?_ (by assumption)) | (with_reducible refine Rd.below_alloc ?_ _) | (with_reducible refine Rd.below_drewN ?_ _) | (with_reducible refine Below.drew ?_) | (with_reducible refine Below.setCell ?_ ?_ _) | (with_reducible refine Rd.below_setRow ?_ ?_ _) | go_size | (simp only [World.size_alloc]; omega) | omega)
  clear hb1
  by_cases h : ms.all cellB = true
  case neg =>
    have h' : ms.all cellB = false := by simpa using h
    have EA := Lib.hid (show mulV ms ns = (List.replicate 16 0, 2) by unfold mulV; rw [h']; rfl)
    clear h
    go_wp2
    exact ret_mat2 rfl (w.heap.size + 1 + 1) (List.replicate 16 0) rfl (by simp) (blk_setRow_of z1 _) rfl ⟨by rw [EA.out]; rfl, by repeat' (first | (with_reducible exact Below.refl _ _) | (with_reducible refine Rd.below_step ?_ (by assumption)) | (with_reducible refine Rd.below_alloc ?_ _) | (with_reducible refine Rd.below_drewN ?_ _) | (with_reducible refine Below.drew ?_) | (with_reducible refine Below.setCell ?_ ?_ _) | (with_reducible refine Rd.below_setRow ?_ ?_ _) | go_size | (simp only [World.size_alloc]; omega) | omega)⟩
  go_wp2_with fail
  refine (rmay_any ns hn _ WN.out).mono ?_
  rintro e w2 ⟨rfl, hb2⟩
  have s2 := hb2.size
  have m2 : blk w2 (w.heap.size) = some (.cells (cs .i64 ms) 23 (0, 0)) := (blk_below hb2 _ (by (try simp only [World.size_alloc]); omega)).trans m1
  have n2 : blk w2 (w.heap.size + 1) = some (.cells (cs .i64 ns) 23 (0, 0)) := (blk_below hb2 _ (by (try simp only [World.size_alloc]); omega)).trans n1
  have z2 : blk w2 (w.heap.size + 1 + 1) = some (.cells (cs .i64 (List.replicate 16 0)) 23 (0, 0)) := (blk_below hb2 _ (by (try simp only [World.size_alloc]); omega)).trans z1
  have L2 : Below w.heap.size w w2 := by repeat' (first | (with_reducible exact Below.refl _ _) | (with_reducible refine Rd.below_step ?_ (by assumption)) | (with_reducible refine Rd.below_alloc ?_ _) | (with_reducible refine Rd.below_drewN ?_ _) | (with_reducible refine Below.drew ?_) | (with_reducible refine Below.setCell ?_ ?_ _) | (with_reducible refine Rd.below_setRow ?_ ?_ _) | go_size | (simp only [World.size_alloc]; omega) | omega)
  clear m1 n1 z1 hb2 L1
  by_cases h2 : ns.all cellB = true
  case neg =>
    have h' : ns.all cellB = false := by simpa using h2
    have EA := Lib.hid (show mulV ms ns = (List.replicate 16 0, 2) by unfold mulV; rw [h']; simp)
    clear h2
    go_wp2
    exact ret_mat2 rfl (w.heap.size + 1 + 1) (List.replicate 16 0) rfl (by simp) (blk_setRow_of z2 _) rfl ⟨by rw [EA.out]; rfl, by repeat' (first | (with_reducible exact Below.refl _ _) | (with_reducible refine Rd.below_step ?_ (by assumption)) | (with_reducible refine Rd.below_alloc ?_ _) | (with_reducible refine Rd.below_drewN ?_ _) | (with_reducible refine Below.drew ?_) | (with_reducible refine Below.setCell ?_ ?_ _) | (with_reducible refine Rd.below_setRow ?_ ?_ _) | go_size | (simp only [World.size_alloc]; omega) | omega)⟩
  have EA := Lib.hid (show mulV ms ns = allowV (prodK ms ns 16) by unfold mulV; rw [h, h2]; simp)
  have I0 : Inv w ms ns w2.heap.size 0 (w2.alloc (.cells (cs .i64 (List.replicate 16 0)) 23)) := ⟨by rw [blk_alloc_old _ _ _ (by omega)]; exact m2, by rw [blk_alloc_old _ _ _ (by omega)]; exact n2, by rw [blk_alloc_old _ _ _ (by omega)]; exact z2, by rw [prodK_0]; exact blk_alloc_at _ _ _ rfl, by repeat' (first | (with_reducible exact Below.refl _ _) | (with_reducible refine Rd.below_step ?_ (by assumption)) | (with_reducible refine Rd.below_alloc ?_ _) | (with_reducible refine Rd.below_drewN ?_ _) | (with_reducible refine Below.drew ?_) | (with_reducible refine Below.setCell ?_ ?_ _) | (with_reducible refine Rd.below_setRow ?_ ?_ _) | go_size | (simp only [World.size_alloc]; omega) | omega), by simp⟩
  have H1 := Lib.hid h
  have H2 := Lib.hid h2
  have hb3 : w.heap.size + 3 ≤ w2.heap.size := by omega
  clear s1 s2 m2 n2 z2
  go_wp2
  clear h h2
  go_loopw [7] (fun i wr => ∃ r : Nat, r ≤ 4 ∧ i = .int .i64 r ∧ Inv w ms ns w2.heap.size (4 * r) wr) (fun i _ => 4 - (intOf i).toNat)
  case atStart => exact ⟨0, by omega, rfl, I0⟩
  case round =>
    obtain ⟨r, hr, rfl, I⟩ := hrel
    by_cases hlt : r < 4
    · have hlt' : (r : Int) < 4 := by omega
      clear I0
      go_wp2
      go_loopw [8] (fun i wr => ∃ c : Nat, c ≤ 4 ∧ i = .int .i64 c ∧ Inv w ms ns w2.heap.size (4 * r + c) wr) (fun i _ => 4 - (intOf i).toNat)
      case atStart => exact ⟨0, by omega, rfl, I⟩
      case round =>
        obtain ⟨c, hc, rfl, I1⟩ := hrel
        by_cases hlc : c < 4
        · have hlc' : (c : Int) < 4 := by omega
          clear I
          obtain ⟨i1, i2, i3, i4, L3, i6⟩ := I1.out
          clear I1
          have k0 : w.heap.size < wr.heap.size := by omega
          have k1 : w.heap.size + 1 < wr.heap.size := by omega
          have p1 : 4 * (r : Int) + c < 16 := by omega
          have q1 : IntKind.i64.wrap (4 * (r : Int)) = 4 * (r : Int) := IntWalk.i64_in _ (by omega)
          have q2 : IntKind.i64.wrap (4 * (r : Int) + c) = 4 * (r : Int) + c := IntWalk.i64_in _ (by omega)
          have q3 : (4 * (r : Int) + c).toNat = 4 * r + c := by omega
          have q4 : 0 ≤ 4 * (r : Int) + c := by omega
          -- the four factors' places
          have g : ∀ j, -1048576 ≤ ms.getD j 0 ∧ ms.getD j 0 ≤ 1048576 := getD_bd H1.out
          have g' : ∀ j, -1048576 ≤ ns.getD j 0 ∧ ns.getD j 0 ≤ 1048576 := getD_bd H2.out
          have B0 := prod_bd (g (4 * r)).1 (g (4 * r)).2 (g' c).1 (g' c).2
          have B1 := prod_bd (g (4 * r + 1)).1 (g (4 * r + 1)).2 (g' (4 + c)).1 (g' (4 + c)).2
          have B2 := prod_bd (g (4 * r + 2)).1 (g (4 * r + 2)).2 (g' (8 + c)).1 (g' (8 + c)).2
          have B3 := prod_bd (g (4 * r + 3)).1 (g (4 * r + 3)).2 (g' (12 + c)).1 (g' (12 + c)).2
          have hE := Lib.hid (ent_at ms ns r c hlt hlc)
          clear g g'
          have cm0 : wr.cell? ⟨w.heap.size, 4 * r, none⟩ = some (.int .i64 (ms.getD (4 * r) 0)) := by rw [blk_cell i1]; exact cs_at (at_of (by omega))
          have cn0 : wr.cell? ⟨w.heap.size + 1, c, none⟩ = some (.int .i64 (ns.getD (c) 0)) := by rw [blk_cell i2]; exact cs_at (at_of (by omega))
          have cm1 : wr.cell? ⟨w.heap.size, 4 * r + 1, none⟩ = some (.int .i64 (ms.getD (4 * r + 1) 0)) := by rw [blk_cell i1]; exact cs_at (at_of (by omega))
          have cn1 : wr.cell? ⟨w.heap.size + 1, 4 + c, none⟩ = some (.int .i64 (ns.getD (4 + c) 0)) := by rw [blk_cell i2]; exact cs_at (at_of (by omega))
          have qm1 : IntKind.i64.wrap (4 * (r : Int) + 1) = 4 * (r : Int) + 1 := IntWalk.i64_in _ (by omega)
          have qn1 : IntKind.i64.wrap (4 + (c : Int)) = 4 + (c : Int) := IntWalk.i64_in _ (by omega)
          have tm1 : (4 * (r : Int) + 1).toNat = 4 * r + 1 := by omega
          have tn1 : (4 + (c : Int)).toNat = 4 + c := by omega
          have um1 : 0 ≤ 4 * (r : Int) + 1 := by omega
          have un1 : 0 ≤ 4 + (c : Int) := by omega
          have vm1 : 4 * (r : Int) + 1 < 16 := by omega
          have vn1 : 4 + (c : Int) < 16 := by omega
          have cm2 : wr.cell? ⟨w.heap.size, 4 * r + 2, none⟩ = some (.int .i64 (ms.getD (4 * r + 2) 0)) := by rw [blk_cell i1]; exact cs_at (at_of (by omega))
          have cn2 : wr.cell? ⟨w.heap.size + 1, 8 + c, none⟩ = some (.int .i64 (ns.getD (8 + c) 0)) := by rw [blk_cell i2]; exact cs_at (at_of (by omega))
          have qm2 : IntKind.i64.wrap (4 * (r : Int) + 2) = 4 * (r : Int) + 2 := IntWalk.i64_in _ (by omega)
          have qn2 : IntKind.i64.wrap (8 + (c : Int)) = 8 + (c : Int) := IntWalk.i64_in _ (by omega)
          have tm2 : (4 * (r : Int) + 2).toNat = 4 * r + 2 := by omega
          have tn2 : (8 + (c : Int)).toNat = 8 + c := by omega
          have um2 : 0 ≤ 4 * (r : Int) + 2 := by omega
          have un2 : 0 ≤ 8 + (c : Int) := by omega
          have vm2 : 4 * (r : Int) + 2 < 16 := by omega
          have vn2 : 8 + (c : Int) < 16 := by omega
          have cm3 : wr.cell? ⟨w.heap.size, 4 * r + 3, none⟩ = some (.int .i64 (ms.getD (4 * r + 3) 0)) := by rw [blk_cell i1]; exact cs_at (at_of (by omega))
          have cn3 : wr.cell? ⟨w.heap.size + 1, 12 + c, none⟩ = some (.int .i64 (ns.getD (12 + c) 0)) := by rw [blk_cell i2]; exact cs_at (at_of (by omega))
          have qm3 : IntKind.i64.wrap (4 * (r : Int) + 3) = 4 * (r : Int) + 3 := IntWalk.i64_in _ (by omega)
          have qn3 : IntKind.i64.wrap (12 + (c : Int)) = 12 + (c : Int) := IntWalk.i64_in _ (by omega)
          have tm3 : (4 * (r : Int) + 3).toNat = 4 * r + 3 := by omega
          have tn3 : (12 + (c : Int)).toNat = 12 + c := by omega
          have um3 : 0 ≤ 4 * (r : Int) + 3 := by omega
          have un3 : 0 ≤ 12 + (c : Int) := by omega
          have vm3 : 4 * (r : Int) + 3 < 16 := by omega
          have vn3 : 12 + (c : Int) < 16 := by omega
          have vm0 : 4 * (r : Int) < 16 := by omega
          have tm0 : (4 * (r : Int)).toNat = 4 * r := by omega
          have um0 : 0 ≤ 4 * (r : Int) := by omega
          have vn0 : (c : Int) < 16 := by omega
          generalize gx0 : ms.getD (4 * r) 0 = x0 at B0 cm0 hE
          generalize gy0 : ns.getD (c) 0 = y0 at B0 cn0 hE
          clear gx0 gy0
          generalize gx1 : ms.getD (4 * r + 1) 0 = x1 at B1 cm1 hE
          generalize gy1 : ns.getD (4 + c) 0 = y1 at B1 cn1 hE
          clear gx1 gy1
          generalize gx2 : ms.getD (4 * r + 2) 0 = x2 at B2 cm2 hE
          generalize gy2 : ns.getD (8 + c) 0 = y2 at B2 cn2 hE
          clear gx2 gy2
          generalize gx3 : ms.getD (4 * r + 3) 0 = x3 at B3 cm3 hE
          generalize gy3 : ns.getD (12 + c) 0 = y3 at B3 cn3 hE
          clear gx3 gy3
          obtain ⟨B00, B01⟩ := B0
          obtain ⟨B10, B11⟩ := B1
          obtain ⟨B20, B21⟩ := B2
          obtain ⟨B30, B31⟩ := B3
          go_wp2
          refine wp_loop_rounds 5 ?_
          iterate 4 (rw [rounds_succ]; go_wp2; go_quiet (fail); go_wp2)
          rw [rounds_succ]; go_wp2_with fail
          refine (rnear_any _ _ _ (by omega) (by omega) (by omega) (by omega)).mono ?_
          rintro e U ⟨rfl, rfl⟩
          have j6 := i6
          have c0 : wr.cell? ⟨w2.heap.size, 4 * r + c, none⟩ = some (.int .i64 ((prodK ms ns (4 * r + c)).getD (4 * r + c) 0)) := by
            rw [blk_cell i4]; exact cs_at (at_of (by rw [prodK_len]; omega))
          have f0 : wr.frozen? ⟨w2.heap.size, 4 * r + c, none⟩ = false := blk_frozen i4 _
          go_wp2
          go_roundw
          case rel =>
            refine ⟨c + 1, by omega, by go_num, ?_⟩
            refine ⟨?_, ?_, ?_, ?_, ?_, ?_⟩
            · exact i1 |> fun h => (blk_set_far _ _ _ _ (by show _ < w2.heap.size; omega)).trans h
            · exact i2 |> fun h => (blk_set_far _ _ _ _ (by show _ < w2.heap.size; omega)).trans h
            · exact i3 |> fun h => (blk_set_far _ _ _ _ (by show _ < w2.heap.size; omega)).trans h
            · have e := blk_set wr w2.heap.size (4 * r + c) (.int .i64 (ent ms ns (4 * r + c))) _ _ i4
              rw [set_cs, prodK_set _ _ _ (by omega), hE.out] at e
              exact e
            · repeat' (first | (with_reducible exact Below.refl _ _) | (with_reducible refine Rd.below_step ?_ (by assumption)) | (with_reducible refine Rd.below_alloc ?_ _) | (with_reducible refine Rd.below_drewN ?_ _) | (with_reducible refine Below.drew ?_) | (with_reducible refine Below.setCell ?_ ?_ _) | (with_reducible refine Rd.below_setRow ?_ ?_ _) | go_size | (simp only [World.size_alloc]; omega) | omega)
            · simp only [World.size_setCell]; exact j6
          case measure => simp [intOf]; omega
        · obtain rfl : c = 4 := by omega
          go_wp2
          go_roundw
          case rel => exact ⟨r + 1, by omega, by go_num, I1⟩
          case measure => simp [intOf]; omega
    · obtain rfl : r = 4 := by omega
      obtain ⟨i1, i2, i3, i4, L3, i6⟩ := I.out
      have WP := Lib.hid (prodK_wf ms ns H1.out H2.out 16)
      have hl := prodK_len ms ns 16
      clear I I0
      go_wp2_with fail
      refine (rmay_any _ hl _ WP.out).mono ?_
      rintro e w4 ⟨rfl, hb4⟩
      have z4 := (blk_below hb4 _ (by omega)).trans i3
      have q4 := (blk_below hb4 _ (by omega)).trans i4
      have L4 : Below w.heap.size w w4 := by repeat' (first | (with_reducible exact Below.refl _ _) | (with_reducible refine Rd.below_step ?_ (by assumption)) | (with_reducible refine Rd.below_alloc ?_ _) | (with_reducible refine Rd.below_drewN ?_ _) | (with_reducible refine Below.drew ?_) | (with_reducible refine Below.setCell ?_ ?_ _) | (with_reducible refine Rd.below_setRow ?_ ?_ _) | go_size | (simp only [World.size_alloc]; omega) | omega)
      clear i1 i2 i3 i4 L3 hb4
      by_cases hy : (prodK ms ns 16).all cellB = true
      · have EB := Lib.hid (show allowV (prodK ms ns 16) = (prodK ms ns 16, 0) by unfold allowV; rw [if_pos hy])
        generalize prodK ms ns 16 = q at *
        go_wp2_with fail
        exact ret_mat2 rfl (w.heap.size + 1 + 1) q rfl hl (blk_setRow_of z4 _) rfl ⟨by rw [EA.out, EB.out]; rfl, by repeat' (first | (with_reducible exact Below.refl _ _) | (with_reducible refine Rd.below_step ?_ (by assumption)) | (with_reducible refine Rd.below_alloc ?_ _) | (with_reducible refine Rd.below_drewN ?_ _) | (with_reducible refine Below.drew ?_) | (with_reducible refine Below.setCell ?_ ?_ _) | (with_reducible refine Rd.below_setRow ?_ ?_ _) | go_size | (simp only [World.size_alloc]; omega) | omega)⟩
      · have hy' : (prodK ms ns 16).all cellB = false := by simpa using hy
        have EB := Lib.hid (show allowV (prodK ms ns 16) = (List.replicate 16 0, 2) by unfold allowV; rw [if_neg hy])
        clear hy
        generalize prodK ms ns 16 = q at *
        go_wp2_with fail
        exact ret_mat2 rfl (w.heap.size + 1 + 1) (List.replicate 16 0) rfl (by simp) (blk_setRow_of z4 _) rfl ⟨by rw [EA.out, EB.out]; rfl, by repeat' (first | (with_reducible exact Below.refl _ _) | (with_reducible refine Rd.below_step ?_ (by assumption)) | (with_reducible refine Rd.below_alloc ?_ _) | (with_reducible refine Rd.below_drewN ?_ _) | (with_reducible refine Below.drew ?_) | (with_reducible refine Below.setCell ?_ ?_ _) | (with_reducible refine Rd.below_setRow ?_ ?_ _) | go_size | (simp only [World.size_alloc]; omega) | omega)⟩
end Go.Proofs.Ytgfdmjicokhheaa.VecE
