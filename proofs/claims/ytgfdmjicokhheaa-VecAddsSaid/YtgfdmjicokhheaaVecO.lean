/-
  The law of package vec: twice a vector; a row of noughts.
-/
import Derived.Test.YtgfdmjicokhheaaVecM
namespace Go.Proofs.Ytgfdmjicokhheaa.VecO
open Go.RowKit FixA Num Rd Go.Proofs.Ytgfdmjicokhheaa.Row VecA VecB VecC VecD VecE VecF VecG VecK VecM
set_option linter.unusedVariables false
set_option linter.unusedSimpArgs false
set_option maxRecDepth 10000
attribute [local go_sem ↓] load_mat load_vec store_mat store_vec
attribute [local go_sem] index_mat index_vec run_load_mat run_load_vec run_store_mat run_store_vec rowLoad_eq rowStore_eq blk_alloc_at blk_alloc_old blk_drew blk_drewN blk_set_far blk_set_far' blk_grow setRow_alloc_at setRow_alloc_old setRow_drew setRow_drewN all_map one_int



attribute [local go_sem] eq_mat eq_vec eq_vec_lit

def zrow (ms : List Int) (k : Nat) : List Int := (((ms.set (4 * k) 0).set (4 * k + 1) 0).set (4 * k + 2) 0).set (4 * k + 3) 0
theorem zrow_len {ms : List Int} (h : ms.length = 16) (k : Nat) : (zrow ms k).length = 16 := by simp [zrow, h]
theorem zrow_cells {ms : List Int} (h : ms.all cellB = true) (k : Nat) : (zrow ms k).all cellB = true := by
  have g : ∀ (l : List Int) i, l.all cellB = true → (l.set i 0).all cellB = true := by
    intro l i hl
    rw [List.all_eq_true] at hl ⊢
    intro x hx
    rcases List.mem_or_eq_of_mem_set hx with h | rfl
    · exact hl x h
    · decide
  exact g _ _ (g _ _ (g _ _ (g _ _ h)))
theorem zrow_dot {ms : List Int} (h : ms.length = 16) {k : Nat} (hk : k < 4) (vs : List Int) : dot (zrow ms k) k vs = 0 := by
  have e : k = 0 ∨ k = 1 ∨ k = 2 ∨ k = 3 := by omega
  rcases e with rfl | rfl | rfl | rfl <;> simp [dot, zrow, h]
theorem dot_twice (ms : List Int) (r : Nat) (v0 v1 v2 v3 : Int) : dot ms r [2 * v0, 2 * v1, 2 * v2, 2 * v3] = 2 * dot ms r [v0, v1, v2, v3] := by
  simp only [dot, List.getD_cons_zero, List.getD_cons_succ]
  have e : ∀ a b : Int, a * (2 * b) = 2 * (a * b) := fun a b => Int.mul_left_comm a 2 b
  simp only [e]
  omega
theorem out_bd {ms vs : List Int} (hm : ms.all cellB = true) (hv : vs.all numB = true) (r : Nat) : -17179869185 ≤ outF ms vs r ∧ outF ms vs r ≤ 17179869185 := by
  have g := getD_bd hm
  have g' := getD_v28 hv
  have p : ∀ a b, -(1048576 * 268435456) ≤ ms.getD a 0 * vs.getD b 0 ∧ ms.getD a 0 * vs.getD b 0 ≤ 1048576 * 268435456 := fun a b => prod_bd (g a).1 (g a).2 (g' b).1 (g' b).2
  have p0 := p (4 * r) 0
  have p1 := p (4 * r + 1) 1
  have p2 := p (4 * r + 2) 2
  have p3 := p (4 * r + 3) 3
  unfold outF near dot
  omega
theorem fill4 (f : Nat → Int) : fillK 4 f 4 = [f 0, f 1, f 2, f 3] := by simp [fillK, List.range_succ]
theorem num4 {a b c d : Int} (h0 : -268435456 ≤ a ∧ a ≤ 268435456) (h1 : -268435456 ≤ b ∧ b ≤ 268435456) (h2 : -268435456 ≤ c ∧ c ≤ 268435456) (h3 : -268435456 ≤ d ∧ d ≤ 268435456) : [a, b, c, d].all numB = true := by
  simp [num_mk h0.1 h0.2, num_mk h1.1 h1.2, num_mk h2.1 h2.2, num_mk h3.1 h3.2]
set_option maxHeartbeats 4000000 in
theorem VecAdds_law (ms : List Int) (vs : List Int) (row : Int) (w : World) (hms : ms.length = 16) (hvs : vs.length = 4) (wms : Wf ms) (wvs : Wf vs) (wrow : (Lit.int .i64 row).wf = true) :
    Calls Try.prog 6 #[.agg (cs .i64 ms), .agg (cs .i64 vs), .int .i64 row] w fun e w' => e = .returned (.bool true) ∧ Below w.heap.size w w' := by
  obtain ⟨v0, v1, v2, v3, rfl⟩ := len4 hvs
  have WMS := Lib.hid wms
  have WVS := Lib.hid wvs
  clear wms wvs hvs wrow
  have T1 := Int.tmod_lt_of_pos row (b := 4) (by omega)
  have T2 : -4 < row.tmod 4 := by
    have := Int.tmod_lt_of_pos (-row) (b := 4) (by omega)
    rw [Int.neg_tmod] at this; omega
  go_enter Try.func6, Try.ntmps6
  go_wp2_with fail
  refine (rmay_any ms hms _ WMS.out).mono ?_
  rintro e w1 ⟨rfl, hb1⟩
  have s1 := hb1.size
  try simp only [World.size_alloc] at s1
  have bm1 : blk w1 (w.heap.size) = some (.cells (cs .i64 ms) 23 (0, 0)) := (blk_below hb1 _ (by (try simp only [World.size_alloc]); omega)).trans ((blk_alloc_old _ _ _ (by (try simp only [World.size_alloc]); omega)).trans (blk_alloc_at _ _ _ rfl))
  have bv1 : blk w1 (w.heap.size + 1) = some (.cells (cs .i64 [v0, v1, v2, v3]) 25 (0, 0)) := (blk_below hb1 _ (by (try simp only [World.size_alloc]); omega)).trans (blk_alloc_at _ _ _ (by simp))
  have L1 : Below w.heap.size w w1 := by repeat' (first | (with_reducible exact Below.refl _ _) | (with_reducible refine Rd.below_step ?_ (by assumption)) | (with_reducible refine Rd.below_alloc ?_ _) | (with_reducible refine Rd.below_drewN ?_ _) | (with_reducible refine Below.drew ?_) | (with_reducible refine Below.setCell ?_ ?_ _) | (with_reducible refine Rd.below_setRow ?_ ?_ _) | go_size | (simp only [World.size_alloc]; omega) | omega)
  clear hb1
  have lbm1 := blk_lt bm1
  have lbv1 := blk_lt bv1
  by_cases h : ms.all cellB = true
  case neg =>
    have h' : ms.all cellB = false := by simpa using h
    clear h
    go_wp2_with (go_at_call 20; refine (awake_any _).mono ?_; rintro e w2 ⟨rfl, hb⟩; have hs := hb.size; try simp only [World.size_alloc, World.size_setCell] at hs)
    go_ret
    exact ⟨rfl, by repeat' (first | (with_reducible exact Below.refl _ _) | (with_reducible refine Rd.below_step ?_ (by assumption)) | (with_reducible refine Rd.below_alloc ?_ _) | (with_reducible refine Rd.below_drewN ?_ _) | (with_reducible refine Below.drew ?_) | (with_reducible refine Below.setCell ?_ ?_ _) | (with_reducible refine Rd.below_setRow ?_ ?_ _) | go_size | (simp only [World.size_alloc]; omega) | omega)⟩
  have HC := Lib.hid h
  have cv0 : w1.cell? ⟨w.heap.size + 1, 0, none⟩ = some (.int .i64 v0) := by rw [blk_cell bv1]; rfl
  have cv1 : w1.cell? ⟨w.heap.size + 1, 1, none⟩ = some (.int .i64 v1) := by rw [blk_cell bv1]; rfl
  have cv2 : w1.cell? ⟨w.heap.size + 1, 2, none⟩ = some (.int .i64 v2) := by rw [blk_cell bv1]; rfl
  have cv3 : w1.cell? ⟨w.heap.size + 1, 3, none⟩ = some (.int .i64 v3) := by rw [blk_cell bv1]; rfl
  by_cases hvn : (-134217728 ≤ v0 ∧ v0 ≤ 134217728) ∧ (-134217728 ≤ v1 ∧ v1 ≤ 134217728) ∧ (-134217728 ≤ v2 ∧ v2 ≤ 134217728) ∧ (-134217728 ≤ v3 ∧ v3 ≤ 134217728)
  case neg =>
    rcases in_or_out v0 (-134217728) 134217728 with ⟨a1, a2⟩ | a1 | ⟨a1, a2⟩
    · rcases in_or_out v1 (-134217728) 134217728 with ⟨b1, b2⟩ | b1 | ⟨b1, b2⟩
      · rcases in_or_out v2 (-134217728) 134217728 with ⟨c1, c2⟩ | c1 | ⟨c1, c2⟩
        · rcases in_or_out v3 (-134217728) 134217728 with ⟨d1, d2⟩ | d1 | ⟨d1, d2⟩
          · exact absurd ⟨⟨a1, a2⟩, ⟨b1, b2⟩, ⟨c1, c2⟩, ⟨d1, d2⟩⟩ hvn
          all_goals
            clear hvn
            go_wp2
            refine wp_loop_rounds 5 ?_
            iterate 3 (rw [rounds_succ]; go_wp2)
            rw [rounds_succ]; go_wp2_with (go_at_call 20; refine (awake_any _).mono ?_; rintro e w2 ⟨rfl, hb⟩; have hs := hb.size; try simp only [World.size_alloc, World.size_setCell] at hs)
            go_ret
            exact ⟨rfl, by repeat' (first | (with_reducible exact Below.refl _ _) | (with_reducible refine Rd.below_step ?_ (by assumption)) | (with_reducible refine Rd.below_alloc ?_ _) | (with_reducible refine Rd.below_drewN ?_ _) | (with_reducible refine Below.drew ?_) | (with_reducible refine Below.setCell ?_ ?_ _) | (with_reducible refine Rd.below_setRow ?_ ?_ _) | go_size | (simp only [World.size_alloc]; omega) | omega)⟩
        all_goals
          clear hvn
          go_wp2
          refine wp_loop_rounds 5 ?_
          iterate 2 (rw [rounds_succ]; go_wp2)
          rw [rounds_succ]; go_wp2_with (go_at_call 20; refine (awake_any _).mono ?_; rintro e w2 ⟨rfl, hb⟩; have hs := hb.size; try simp only [World.size_alloc, World.size_setCell] at hs)
          go_ret
          exact ⟨rfl, by repeat' (first | (with_reducible exact Below.refl _ _) | (with_reducible refine Rd.below_step ?_ (by assumption)) | (with_reducible refine Rd.below_alloc ?_ _) | (with_reducible refine Rd.below_drewN ?_ _) | (with_reducible refine Below.drew ?_) | (with_reducible refine Below.setCell ?_ ?_ _) | (with_reducible refine Rd.below_setRow ?_ ?_ _) | go_size | (simp only [World.size_alloc]; omega) | omega)⟩
      all_goals
        clear hvn
        go_wp2
        refine wp_loop_rounds 5 ?_
        iterate 1 (rw [rounds_succ]; go_wp2)
        rw [rounds_succ]; go_wp2_with (go_at_call 20; refine (awake_any _).mono ?_; rintro e w2 ⟨rfl, hb⟩; have hs := hb.size; try simp only [World.size_alloc, World.size_setCell] at hs)
        go_ret
        exact ⟨rfl, by repeat' (first | (with_reducible exact Below.refl _ _) | (with_reducible refine Rd.below_step ?_ (by assumption)) | (with_reducible refine Rd.below_alloc ?_ _) | (with_reducible refine Rd.below_drewN ?_ _) | (with_reducible refine Below.drew ?_) | (with_reducible refine Below.setCell ?_ ?_ _) | (with_reducible refine Rd.below_setRow ?_ ?_ _) | go_size | (simp only [World.size_alloc]; omega) | omega)⟩
    all_goals
      clear hvn
      go_wp2
      refine wp_loop_rounds 5 ?_
      rw [rounds_succ]; go_wp2_with (go_at_call 20; refine (awake_any _).mono ?_; rintro e w2 ⟨rfl, hb⟩; have hs := hb.size; try simp only [World.size_alloc, World.size_setCell] at hs)
      go_ret
      exact ⟨rfl, by repeat' (first | (with_reducible exact Below.refl _ _) | (with_reducible refine Rd.below_step ?_ (by assumption)) | (with_reducible refine Rd.below_alloc ?_ _) | (with_reducible refine Rd.below_drewN ?_ _) | (with_reducible refine Below.drew ?_) | (with_reducible refine Below.setCell ?_ ?_ _) | (with_reducible refine Rd.below_setRow ?_ ?_ _) | go_size | (simp only [World.size_alloc]; omega) | omega)⟩
  obtain ⟨⟨a1, a2⟩, ⟨b1, b2⟩, ⟨c1, c2⟩, d1, d2⟩ := hvn
  go_wp2
  refine wp_loop_rounds 5 ?_
  iterate 4 (rw [rounds_succ]; go_wp2)
  rw [rounds_succ]
  have N1 := Lib.hid (num4 (a := v0) (b := v1) (c := v2) (d := v3) (by omega) (by omega) (by omega) (by omega))
  have N2 := Lib.hid (num4 (a := 2 * v0) (b := 2 * v1) (c := 2 * v2) (d := 2 * v3) (by omega) (by omega) (by omega) (by omega))
  have Wv1 := Lib.hid (show Wf [v0, v1, v2, v3] from wfc (wf_mk (by omega) (by omega)) (wfc (wf_mk (by omega) (by omega)) (wfc (wf_mk (by omega) (by omega)) (wfc (wf_mk (by omega) (by omega)) wfn))))
  have Wv2 := Lib.hid (show Wf [2 * v0, 2 * v1, 2 * v2, 2 * v3] from wfc (wf_mk (by omega) (by omega)) (wfc (wf_mk (by omega) (by omega)) (wfc (wf_mk (by omega) (by omega)) (wfc (wf_mk (by omega) (by omega)) wfn))))
  clear cv0 cv1 cv2 cv3 h
  have EK : (row.tmod 4 + 4) % 4 = 0 ∨ (row.tmod 4 + 4) % 4 = 1 ∨ (row.tmod 4 + 4) % 4 = 2 ∨ (row.tmod 4 + 4) % 4 = 3 := by omega
  go_upto_region 11 with (fail)
  refine Rd.name_world ?_
  intro w2 hW
  have bm2 : blk w2 (w.heap.size) = some (.cells (cs .i64 ms) 23 (0, 0)) := by rw [hW]; exact (blk_alloc_old _ _ _ (by (try simp only [World.size_alloc]); omega)).trans (bm1)
  have bv2 : blk w2 (w.heap.size + 1) = some (.cells (cs .i64 [v0, v1, v2, v3]) 25 (0, 0)) := by rw [hW]; exact (blk_alloc_old _ _ _ (by (try simp only [World.size_alloc]); omega)).trans (bv1)
  have bw2 : blk w2 (w1.heap.size) = some (.cells (cs .i64 [2 * v0, 2 * v1, 2 * v2, 2 * v3]) 25 (0, 0)) := by rw [hW]; exact blk_alloc_at _ _ _ rfl
  have L2 : Below w.heap.size w w2 := by rw [hW]; repeat' (first | (with_reducible exact Below.refl _ _) | (with_reducible refine Rd.below_step ?_ (by assumption)) | (with_reducible refine Rd.below_alloc ?_ _) | (with_reducible refine Rd.below_drewN ?_ _) | (with_reducible refine Below.drew ?_) | (with_reducible refine Below.setCell ?_ ?_ _) | (with_reducible refine Rd.below_setRow ?_ ?_ _) | go_size | (simp only [World.size_alloc]; omega) | omega)
  have lbm2 := blk_lt bm2
  have lbv2 := blk_lt bv2
  have lbw2 := blk_lt bw2
  clear bm1 bv1 lbm1 lbv1 hW L1
  rcases EK with hk | hk | hk | hk
  · rw [hk]
    clear hk
    have cc0 : w2.cell? ⟨w.heap.size, 0, none⟩ = some (.int .i64 (ms.getD 0 0)) := by rw [blk_cell bm2]; exact cs_at (at_of (by omega))
    have cf0 : w2.frozen? ⟨w.heap.size, 0, none⟩ = false := blk_frozen bm2 _
    have cc1 : w2.cell? ⟨w.heap.size, 1, none⟩ = some (.int .i64 (ms.getD 1 0)) := by rw [blk_cell bm2]; exact cs_at (at_of (by omega))
    have cf1 : w2.frozen? ⟨w.heap.size, 1, none⟩ = false := blk_frozen bm2 _
    have cc2 : w2.cell? ⟨w.heap.size, 2, none⟩ = some (.int .i64 (ms.getD 2 0)) := by rw [blk_cell bm2]; exact cs_at (at_of (by omega))
    have cf2 : w2.frozen? ⟨w.heap.size, 2, none⟩ = false := blk_frozen bm2 _
    have cc3 : w2.cell? ⟨w.heap.size, 3, none⟩ = some (.int .i64 (ms.getD 3 0)) := by rw [blk_cell bm2]; exact cs_at (at_of (by omega))
    have cf3 : w2.frozen? ⟨w.heap.size, 3, none⟩ = false := blk_frozen bm2 _
    go_upto_region 12 with (fail)
    refine Rd.name_world ?_
    intro w3 hW
    have ez := (blk_set _ _ 3 (.int .i64 0) _ _ (blk_set _ _ 2 (.int .i64 0) _ _ (blk_set _ _ 1 (.int .i64 0) _ _ (blk_set _ _ 0 (.int .i64 0) _ _ bm2))))
    rw [set_cs, set_cs, set_cs, set_cs] at ez
    have bm3 : blk w3 w.heap.size = some (.cells (cs .i64 (zrow ms 0)) 23 (0, 0)) := by rw [hW]; exact ez
    have bv3 : blk w3 (w.heap.size + 1) = some (.cells (cs .i64 [v0, v1, v2, v3]) 25 (0, 0)) := by rw [hW]; exact (blk_set_far' _ _ _ _ (by show w.heap.size < _; omega)).trans ((blk_set_far' _ _ _ _ (by show w.heap.size < _; omega)).trans ((blk_set_far' _ _ _ _ (by show w.heap.size < _; omega)).trans ((blk_set_far' _ _ _ _ (by show w.heap.size < _; omega)).trans (bv2))))
    have bw3 : blk w3 (w1.heap.size) = some (.cells (cs .i64 [2 * v0, 2 * v1, 2 * v2, 2 * v3]) 25 (0, 0)) := by rw [hW]; exact (blk_set_far' _ _ _ _ (by show w.heap.size < _; omega)).trans ((blk_set_far' _ _ _ _ (by show w.heap.size < _; omega)).trans ((blk_set_far' _ _ _ _ (by show w.heap.size < _; omega)).trans ((blk_set_far' _ _ _ _ (by show w.heap.size < _; omega)).trans (bw2))))
    have L3 : Below w.heap.size w w3 := by rw [hW]; repeat' (first | (with_reducible exact Below.refl _ _) | (with_reducible refine Rd.below_step ?_ (by assumption)) | (with_reducible refine Rd.below_alloc ?_ _) | (with_reducible refine Rd.below_drewN ?_ _) | (with_reducible refine Below.drew ?_) | (with_reducible refine Below.setCell ?_ ?_ _) | (with_reducible refine Rd.below_setRow ?_ ?_ _) | go_size | (simp only [World.size_alloc]; omega) | omega)
    clear hW ez L2 cc0 cf0 cc1 cf1 cc2 cf2 cc3 cf3 bm2 bv2 bw2 lbm2 lbv2 lbw2
    have lbm3 := blk_lt bm3
    have lbv3 := blk_lt bv3
    have lbw3 := blk_lt bw3
    have hz := zrow_len hms 0
    have HZ := Lib.hid (zrow_cells HC.out 0)
    have WZ := Lib.hid (wf_of_cells HZ.out)
    have Q1 := Lib.hid (applyV_ok HZ.out N1.out)
    have Q2 := Lib.hid (applyV_ok HZ.out N2.out)
    rw [fill4] at Q1 Q2
    obtain ⟨t01, t02⟩ : -1 ≤ outF (zrow ms 0) [2 * v0, 2 * v1, 2 * v2, 2 * v3] 0 - 2 * outF (zrow ms 0) [v0, v1, v2, v3] 0 ∧ outF (zrow ms 0) [2 * v0, 2 * v1, 2 * v2, 2 * v3] 0 - 2 * outF (zrow ms 0) [v0, v1, v2, v3] 0 ≤ 1 := by unfold outF; rw [dot_twice]; exact near_twice _
    obtain ⟨u01, u02⟩ := out_bd HZ.out N1.out 0
    obtain ⟨p01, p02⟩ := out_bd HZ.out N2.out 0
    obtain ⟨t11, t12⟩ : -1 ≤ outF (zrow ms 0) [2 * v0, 2 * v1, 2 * v2, 2 * v3] 1 - 2 * outF (zrow ms 0) [v0, v1, v2, v3] 1 ∧ outF (zrow ms 0) [2 * v0, 2 * v1, 2 * v2, 2 * v3] 1 - 2 * outF (zrow ms 0) [v0, v1, v2, v3] 1 ≤ 1 := by unfold outF; rw [dot_twice]; exact near_twice _
    obtain ⟨u11, u12⟩ := out_bd HZ.out N1.out 1
    obtain ⟨p11, p12⟩ := out_bd HZ.out N2.out 1
    obtain ⟨t21, t22⟩ : -1 ≤ outF (zrow ms 0) [2 * v0, 2 * v1, 2 * v2, 2 * v3] 2 - 2 * outF (zrow ms 0) [v0, v1, v2, v3] 2 ∧ outF (zrow ms 0) [2 * v0, 2 * v1, 2 * v2, 2 * v3] 2 - 2 * outF (zrow ms 0) [v0, v1, v2, v3] 2 ≤ 1 := by unfold outF; rw [dot_twice]; exact near_twice _
    obtain ⟨u21, u22⟩ := out_bd HZ.out N1.out 2
    obtain ⟨p21, p22⟩ := out_bd HZ.out N2.out 2
    obtain ⟨t31, t32⟩ : -1 ≤ outF (zrow ms 0) [2 * v0, 2 * v1, 2 * v2, 2 * v3] 3 - 2 * outF (zrow ms 0) [v0, v1, v2, v3] 3 ∧ outF (zrow ms 0) [2 * v0, 2 * v1, 2 * v2, 2 * v3] 3 - 2 * outF (zrow ms 0) [v0, v1, v2, v3] 3 ≤ 1 := by unfold outF; rw [dot_twice]; exact near_twice _
    obtain ⟨u31, u32⟩ := out_bd HZ.out N1.out 3
    obtain ⟨p31, p32⟩ := out_bd HZ.out N2.out 3
    have X0 : outF (zrow ms 0) [v0, v1, v2, v3] 0 = 0 := by unfold outF; rw [zrow_dot hms (by omega)]; exact near_0
    generalize gx0 : outF (zrow ms 0) [v0, v1, v2, v3] 0 = x0 at *
    generalize gy0 : outF (zrow ms 0) [2 * v0, 2 * v1, 2 * v2, 2 * v3] 0 = y0 at *
    generalize gx1 : outF (zrow ms 0) [v0, v1, v2, v3] 1 = x1 at *
    generalize gy1 : outF (zrow ms 0) [2 * v0, 2 * v1, 2 * v2, 2 * v3] 1 = y1 at *
    generalize gx2 : outF (zrow ms 0) [v0, v1, v2, v3] 2 = x2 at *
    generalize gy2 : outF (zrow ms 0) [2 * v0, 2 * v1, 2 * v2, 2 * v3] 2 = y2 at *
    generalize gx3 : outF (zrow ms 0) [v0, v1, v2, v3] 3 = x3 at *
    generalize gy3 : outF (zrow ms 0) [2 * v0, 2 * v1, 2 * v2, 2 * v3] 3 = y3 at *
    clear gx0 gy0 gx1 gy1 gx2 gy2 gx3 gy3
    subst X0
    go_wp2_with fail
    refine (apply_q Q1 hz rfl _ WZ.out Wv1.out).mono ?_
    rintro e w4 ⟨rfl, hb4⟩
    have s4 := hb4.size
    try simp only [World.size_alloc] at s4
    have bm4 : blk w4 (w.heap.size) = some (.cells (cs .i64 (zrow ms 0)) 23 (0, 0)) := (blk_below hb4 _ (by (try simp only [World.size_alloc]); omega)).trans (bm3)
    have bv4 : blk w4 (w.heap.size + 1) = some (.cells (cs .i64 [v0, v1, v2, v3]) 25 (0, 0)) := (blk_below hb4 _ (by (try simp only [World.size_alloc]); omega)).trans (bv3)
    have bw4 : blk w4 (w1.heap.size) = some (.cells (cs .i64 [2 * v0, 2 * v1, 2 * v2, 2 * v3]) 25 (0, 0)) := (blk_below hb4 _ (by (try simp only [World.size_alloc]); omega)).trans (bw3)
    have L4 : Below w.heap.size w w4 := by repeat' (first | (with_reducible exact Below.refl _ _) | (with_reducible refine Rd.below_step ?_ (by assumption)) | (with_reducible refine Rd.below_alloc ?_ _) | (with_reducible refine Rd.below_drewN ?_ _) | (with_reducible refine Below.drew ?_) | (with_reducible refine Below.setCell ?_ ?_ _) | (with_reducible refine Rd.below_setRow ?_ ?_ _) | go_size | (simp only [World.size_alloc]; omega) | omega)
    clear bm3 bv3 bw3 lbm3 lbv3 lbw3 hb4 L3
    have lbm4 := blk_lt bm4
    have lbv4 := blk_lt bv4
    have lbw4 := blk_lt bw4
    go_wp2_with fail
    refine (apply_q Q2 hz rfl _ WZ.out Wv2.out).mono ?_
    rintro e w5 ⟨rfl, hb5⟩
    have s5 := hb5.size
    try simp only [World.size_alloc] at s5
    have bm5 : blk w5 (w.heap.size) = some (.cells (cs .i64 (zrow ms 0)) 23 (0, 0)) := (blk_below hb5 _ (by (try simp only [World.size_alloc]); omega)).trans ((blk_alloc_old _ _ _ (by (try simp only [World.size_alloc]); omega)).trans (bm4))
    have bv5 : blk w5 (w.heap.size + 1) = some (.cells (cs .i64 [v0, v1, v2, v3]) 25 (0, 0)) := (blk_below hb5 _ (by (try simp only [World.size_alloc]); omega)).trans ((blk_alloc_old _ _ _ (by (try simp only [World.size_alloc]); omega)).trans (bv4))
    have bw5 : blk w5 (w1.heap.size) = some (.cells (cs .i64 [2 * v0, 2 * v1, 2 * v2, 2 * v3]) 25 (0, 0)) := (blk_below hb5 _ (by (try simp only [World.size_alloc]); omega)).trans ((blk_alloc_old _ _ _ (by (try simp only [World.size_alloc]); omega)).trans (bw4))
    have ba5 : blk w5 (w4.heap.size) = some (.cells (cs .i64 [0, x1, x2, x3]) 25 (0, 0)) := (blk_below hb5 _ (by (try simp only [World.size_alloc]); omega)).trans (blk_alloc_at _ _ _ rfl)
    have L5 : Below w.heap.size w w5 := by repeat' (first | (with_reducible exact Below.refl _ _) | (with_reducible refine Rd.below_step ?_ (by assumption)) | (with_reducible refine Rd.below_alloc ?_ _) | (with_reducible refine Rd.below_drewN ?_ _) | (with_reducible refine Below.drew ?_) | (with_reducible refine Below.setCell ?_ ?_ _) | (with_reducible refine Rd.below_setRow ?_ ?_ _) | go_size | (simp only [World.size_alloc]; omega) | omega)
    clear bm4 bv4 bw4 lbm4 lbv4 lbw4 hb5 L4
    have lbm5 := blk_lt bm5
    have lbv5 := blk_lt bv5
    have lbw5 := blk_lt bw5
    have lba5 := blk_lt ba5
    go_upto_region 14 with (fail)
    refine Rd.name_world ?_
    intro w6 hW
    have bm6 : blk w6 (w.heap.size) = some (.cells (cs .i64 (zrow ms 0)) 23 (0, 0)) := by rw [hW]; exact (blk_alloc_old _ _ _ (by (try simp only [World.size_alloc]); omega)).trans (bm5)
    have bv6 : blk w6 (w.heap.size + 1) = some (.cells (cs .i64 [v0, v1, v2, v3]) 25 (0, 0)) := by rw [hW]; exact (blk_alloc_old _ _ _ (by (try simp only [World.size_alloc]); omega)).trans (bv5)
    have bw6 : blk w6 (w1.heap.size) = some (.cells (cs .i64 [2 * v0, 2 * v1, 2 * v2, 2 * v3]) 25 (0, 0)) := by rw [hW]; exact (blk_alloc_old _ _ _ (by (try simp only [World.size_alloc]); omega)).trans (bw5)
    have ba6 : blk w6 (w4.heap.size) = some (.cells (cs .i64 [0, x1, x2, x3]) 25 (0, 0)) := by rw [hW]; exact (blk_alloc_old _ _ _ (by (try simp only [World.size_alloc]); omega)).trans (ba5)
    have bb6 : blk w6 (w5.heap.size) = some (.cells (cs .i64 [y0, y1, y2, y3]) 25 (0, 0)) := by rw [hW]; exact blk_alloc_at _ _ _ rfl
    have L6 : Below w.heap.size w w6 := by rw [hW]; repeat' (first | (with_reducible exact Below.refl _ _) | (with_reducible refine Rd.below_step ?_ (by assumption)) | (with_reducible refine Rd.below_alloc ?_ _) | (with_reducible refine Rd.below_drewN ?_ _) | (with_reducible refine Below.drew ?_) | (with_reducible refine Below.setCell ?_ ?_ _) | (with_reducible refine Rd.below_setRow ?_ ?_ _) | go_size | (simp only [World.size_alloc]; omega) | omega)
    have lbm6 := blk_lt bm6
    have lbv6 := blk_lt bv6
    have lbw6 := blk_lt bw6
    have lba6 := blk_lt ba6
    have lbb6 := blk_lt bb6
    clear bm5 bv5 bw5 ba5 lbm5 lbv5 lbw5 lba5 hW L5
    have ca0 : w6.cell? ⟨w4.heap.size, 0, none⟩ = some (.int .i64 (0)) := by rw [blk_cell ba6]; rfl
    have cb0 : w6.cell? ⟨w5.heap.size, 0, none⟩ = some (.int .i64 y0) := by rw [blk_cell bb6]; rfl
    have wa0 : True := trivial
    have wb0 : IntKind.i64.wrap y0 = y0 := IntWalk.i64_in _ (by omega)
    have da0 : decide (y0 < -1) = false := decide_eq_false (by omega)
    have db0 : decide (1 < y0) = false := decide_eq_false (by omega)
    have ca1 : w6.cell? ⟨w4.heap.size, 1, none⟩ = some (.int .i64 (x1)) := by rw [blk_cell ba6]; rfl
    have cb1 : w6.cell? ⟨w5.heap.size, 1, none⟩ = some (.int .i64 y1) := by rw [blk_cell bb6]; rfl
    have wa1 : IntKind.i64.wrap (2 * x1) = 2 * x1 := IntWalk.i64_in _ (by omega)
    have wb1 : IntKind.i64.wrap (y1 - 2 * x1) = y1 - 2 * x1 := IntWalk.i64_in _ (by omega)
    have da1 : decide (y1 - 2 * x1 < -1) = false := decide_eq_false (by omega)
    have db1 : decide (1 < y1 - 2 * x1) = false := decide_eq_false (by omega)
    have ca2 : w6.cell? ⟨w4.heap.size, 2, none⟩ = some (.int .i64 (x2)) := by rw [blk_cell ba6]; rfl
    have cb2 : w6.cell? ⟨w5.heap.size, 2, none⟩ = some (.int .i64 y2) := by rw [blk_cell bb6]; rfl
    have wa2 : IntKind.i64.wrap (2 * x2) = 2 * x2 := IntWalk.i64_in _ (by omega)
    have wb2 : IntKind.i64.wrap (y2 - 2 * x2) = y2 - 2 * x2 := IntWalk.i64_in _ (by omega)
    have da2 : decide (y2 - 2 * x2 < -1) = false := decide_eq_false (by omega)
    have db2 : decide (1 < y2 - 2 * x2) = false := decide_eq_false (by omega)
    have ca3 : w6.cell? ⟨w4.heap.size, 3, none⟩ = some (.int .i64 (x3)) := by rw [blk_cell ba6]; rfl
    have cb3 : w6.cell? ⟨w5.heap.size, 3, none⟩ = some (.int .i64 y3) := by rw [blk_cell bb6]; rfl
    have wa3 : IntKind.i64.wrap (2 * x3) = 2 * x3 := IntWalk.i64_in _ (by omega)
    have wb3 : IntKind.i64.wrap (y3 - 2 * x3) = y3 - 2 * x3 := IntWalk.i64_in _ (by omega)
    have da3 : decide (y3 - 2 * x3 < -1) = false := decide_eq_false (by omega)
    have db3 : decide (1 < y3 - 2 * x3) = false := decide_eq_false (by omega)
    clear t01 t02 t11 t12 t21 t22 t31 t32
    go_wp2
    refine wp_loop_rounds 5 ?_
    iterate 4 (rw [rounds_succ]; go_wp2; go_quiet (fail); go_wp2)
    rw [rounds_succ]
    go_wp2_with (go_at_call 20; refine (awake_any _).mono ?_; rintro e w9 ⟨rfl, hb⟩; have hs := hb.size; try simp only [World.size_alloc, World.size_setCell] at hs)
    go_ret
    exact ⟨rfl, by repeat' (first | (with_reducible exact Below.refl _ _) | (with_reducible refine Rd.below_step ?_ (by assumption)) | (with_reducible refine Rd.below_alloc ?_ _) | (with_reducible refine Rd.below_drewN ?_ _) | (with_reducible refine Below.drew ?_) | (with_reducible refine Below.setCell ?_ ?_ _) | (with_reducible refine Rd.below_setRow ?_ ?_ _) | go_size | (simp only [World.size_alloc]; omega) | omega)⟩
  · rw [hk]
    clear hk
    have cc0 : w2.cell? ⟨w.heap.size, 4, none⟩ = some (.int .i64 (ms.getD 4 0)) := by rw [blk_cell bm2]; exact cs_at (at_of (by omega))
    have cf0 : w2.frozen? ⟨w.heap.size, 4, none⟩ = false := blk_frozen bm2 _
    have cc1 : w2.cell? ⟨w.heap.size, 5, none⟩ = some (.int .i64 (ms.getD 5 0)) := by rw [blk_cell bm2]; exact cs_at (at_of (by omega))
    have cf1 : w2.frozen? ⟨w.heap.size, 5, none⟩ = false := blk_frozen bm2 _
    have cc2 : w2.cell? ⟨w.heap.size, 6, none⟩ = some (.int .i64 (ms.getD 6 0)) := by rw [blk_cell bm2]; exact cs_at (at_of (by omega))
    have cf2 : w2.frozen? ⟨w.heap.size, 6, none⟩ = false := blk_frozen bm2 _
    have cc3 : w2.cell? ⟨w.heap.size, 7, none⟩ = some (.int .i64 (ms.getD 7 0)) := by rw [blk_cell bm2]; exact cs_at (at_of (by omega))
    have cf3 : w2.frozen? ⟨w.heap.size, 7, none⟩ = false := blk_frozen bm2 _
    go_upto_region 12 with (fail)
    refine Rd.name_world ?_
    intro w3 hW
    have ez := (blk_set _ _ 7 (.int .i64 0) _ _ (blk_set _ _ 6 (.int .i64 0) _ _ (blk_set _ _ 5 (.int .i64 0) _ _ (blk_set _ _ 4 (.int .i64 0) _ _ bm2))))
    rw [set_cs, set_cs, set_cs, set_cs] at ez
    have bm3 : blk w3 w.heap.size = some (.cells (cs .i64 (zrow ms 1)) 23 (0, 0)) := by rw [hW]; exact ez
    have bv3 : blk w3 (w.heap.size + 1) = some (.cells (cs .i64 [v0, v1, v2, v3]) 25 (0, 0)) := by rw [hW]; exact (blk_set_far' _ _ _ _ (by show w.heap.size < _; omega)).trans ((blk_set_far' _ _ _ _ (by show w.heap.size < _; omega)).trans ((blk_set_far' _ _ _ _ (by show w.heap.size < _; omega)).trans ((blk_set_far' _ _ _ _ (by show w.heap.size < _; omega)).trans (bv2))))
    have bw3 : blk w3 (w1.heap.size) = some (.cells (cs .i64 [2 * v0, 2 * v1, 2 * v2, 2 * v3]) 25 (0, 0)) := by rw [hW]; exact (blk_set_far' _ _ _ _ (by show w.heap.size < _; omega)).trans ((blk_set_far' _ _ _ _ (by show w.heap.size < _; omega)).trans ((blk_set_far' _ _ _ _ (by show w.heap.size < _; omega)).trans ((blk_set_far' _ _ _ _ (by show w.heap.size < _; omega)).trans (bw2))))
    have L3 : Below w.heap.size w w3 := by rw [hW]; repeat' (first | (with_reducible exact Below.refl _ _) | (with_reducible refine Rd.below_step ?_ (by assumption)) | (with_reducible refine Rd.below_alloc ?_ _) | (with_reducible refine Rd.below_drewN ?_ _) | (with_reducible refine Below.drew ?_) | (with_reducible refine Below.setCell ?_ ?_ _) | (with_reducible refine Rd.below_setRow ?_ ?_ _) | go_size | (simp only [World.size_alloc]; omega) | omega)
    clear hW ez L2 cc0 cf0 cc1 cf1 cc2 cf2 cc3 cf3 bm2 bv2 bw2 lbm2 lbv2 lbw2
    have lbm3 := blk_lt bm3
    have lbv3 := blk_lt bv3
    have lbw3 := blk_lt bw3
    have hz := zrow_len hms 1
    have HZ := Lib.hid (zrow_cells HC.out 1)
    have WZ := Lib.hid (wf_of_cells HZ.out)
    have Q1 := Lib.hid (applyV_ok HZ.out N1.out)
    have Q2 := Lib.hid (applyV_ok HZ.out N2.out)
    rw [fill4] at Q1 Q2
    obtain ⟨t01, t02⟩ : -1 ≤ outF (zrow ms 1) [2 * v0, 2 * v1, 2 * v2, 2 * v3] 0 - 2 * outF (zrow ms 1) [v0, v1, v2, v3] 0 ∧ outF (zrow ms 1) [2 * v0, 2 * v1, 2 * v2, 2 * v3] 0 - 2 * outF (zrow ms 1) [v0, v1, v2, v3] 0 ≤ 1 := by unfold outF; rw [dot_twice]; exact near_twice _
    obtain ⟨u01, u02⟩ := out_bd HZ.out N1.out 0
    obtain ⟨p01, p02⟩ := out_bd HZ.out N2.out 0
    obtain ⟨t11, t12⟩ : -1 ≤ outF (zrow ms 1) [2 * v0, 2 * v1, 2 * v2, 2 * v3] 1 - 2 * outF (zrow ms 1) [v0, v1, v2, v3] 1 ∧ outF (zrow ms 1) [2 * v0, 2 * v1, 2 * v2, 2 * v3] 1 - 2 * outF (zrow ms 1) [v0, v1, v2, v3] 1 ≤ 1 := by unfold outF; rw [dot_twice]; exact near_twice _
    obtain ⟨u11, u12⟩ := out_bd HZ.out N1.out 1
    obtain ⟨p11, p12⟩ := out_bd HZ.out N2.out 1
    obtain ⟨t21, t22⟩ : -1 ≤ outF (zrow ms 1) [2 * v0, 2 * v1, 2 * v2, 2 * v3] 2 - 2 * outF (zrow ms 1) [v0, v1, v2, v3] 2 ∧ outF (zrow ms 1) [2 * v0, 2 * v1, 2 * v2, 2 * v3] 2 - 2 * outF (zrow ms 1) [v0, v1, v2, v3] 2 ≤ 1 := by unfold outF; rw [dot_twice]; exact near_twice _
    obtain ⟨u21, u22⟩ := out_bd HZ.out N1.out 2
    obtain ⟨p21, p22⟩ := out_bd HZ.out N2.out 2
    obtain ⟨t31, t32⟩ : -1 ≤ outF (zrow ms 1) [2 * v0, 2 * v1, 2 * v2, 2 * v3] 3 - 2 * outF (zrow ms 1) [v0, v1, v2, v3] 3 ∧ outF (zrow ms 1) [2 * v0, 2 * v1, 2 * v2, 2 * v3] 3 - 2 * outF (zrow ms 1) [v0, v1, v2, v3] 3 ≤ 1 := by unfold outF; rw [dot_twice]; exact near_twice _
    obtain ⟨u31, u32⟩ := out_bd HZ.out N1.out 3
    obtain ⟨p31, p32⟩ := out_bd HZ.out N2.out 3
    have X0 : outF (zrow ms 1) [v0, v1, v2, v3] 1 = 0 := by unfold outF; rw [zrow_dot hms (by omega)]; exact near_0
    generalize gx0 : outF (zrow ms 1) [v0, v1, v2, v3] 0 = x0 at *
    generalize gy0 : outF (zrow ms 1) [2 * v0, 2 * v1, 2 * v2, 2 * v3] 0 = y0 at *
    generalize gx1 : outF (zrow ms 1) [v0, v1, v2, v3] 1 = x1 at *
    generalize gy1 : outF (zrow ms 1) [2 * v0, 2 * v1, 2 * v2, 2 * v3] 1 = y1 at *
    generalize gx2 : outF (zrow ms 1) [v0, v1, v2, v3] 2 = x2 at *
    generalize gy2 : outF (zrow ms 1) [2 * v0, 2 * v1, 2 * v2, 2 * v3] 2 = y2 at *
    generalize gx3 : outF (zrow ms 1) [v0, v1, v2, v3] 3 = x3 at *
    generalize gy3 : outF (zrow ms 1) [2 * v0, 2 * v1, 2 * v2, 2 * v3] 3 = y3 at *
    clear gx0 gy0 gx1 gy1 gx2 gy2 gx3 gy3
    subst X0
    go_wp2_with fail
    refine (apply_q Q1 hz rfl _ WZ.out Wv1.out).mono ?_
    rintro e w4 ⟨rfl, hb4⟩
    have s4 := hb4.size
    try simp only [World.size_alloc] at s4
    have bm4 : blk w4 (w.heap.size) = some (.cells (cs .i64 (zrow ms 1)) 23 (0, 0)) := (blk_below hb4 _ (by (try simp only [World.size_alloc]); omega)).trans (bm3)
    have bv4 : blk w4 (w.heap.size + 1) = some (.cells (cs .i64 [v0, v1, v2, v3]) 25 (0, 0)) := (blk_below hb4 _ (by (try simp only [World.size_alloc]); omega)).trans (bv3)
    have bw4 : blk w4 (w1.heap.size) = some (.cells (cs .i64 [2 * v0, 2 * v1, 2 * v2, 2 * v3]) 25 (0, 0)) := (blk_below hb4 _ (by (try simp only [World.size_alloc]); omega)).trans (bw3)
    have L4 : Below w.heap.size w w4 := by repeat' (first | (with_reducible exact Below.refl _ _) | (with_reducible refine Rd.below_step ?_ (by assumption)) | (with_reducible refine Rd.below_alloc ?_ _) | (with_reducible refine Rd.below_drewN ?_ _) | (with_reducible refine Below.drew ?_) | (with_reducible refine Below.setCell ?_ ?_ _) | (with_reducible refine Rd.below_setRow ?_ ?_ _) | go_size | (simp only [World.size_alloc]; omega) | omega)
    clear bm3 bv3 bw3 lbm3 lbv3 lbw3 hb4 L3
    have lbm4 := blk_lt bm4
    have lbv4 := blk_lt bv4
    have lbw4 := blk_lt bw4
    go_wp2_with fail
    refine (apply_q Q2 hz rfl _ WZ.out Wv2.out).mono ?_
    rintro e w5 ⟨rfl, hb5⟩
    have s5 := hb5.size
    try simp only [World.size_alloc] at s5
    have bm5 : blk w5 (w.heap.size) = some (.cells (cs .i64 (zrow ms 1)) 23 (0, 0)) := (blk_below hb5 _ (by (try simp only [World.size_alloc]); omega)).trans ((blk_alloc_old _ _ _ (by (try simp only [World.size_alloc]); omega)).trans (bm4))
    have bv5 : blk w5 (w.heap.size + 1) = some (.cells (cs .i64 [v0, v1, v2, v3]) 25 (0, 0)) := (blk_below hb5 _ (by (try simp only [World.size_alloc]); omega)).trans ((blk_alloc_old _ _ _ (by (try simp only [World.size_alloc]); omega)).trans (bv4))
    have bw5 : blk w5 (w1.heap.size) = some (.cells (cs .i64 [2 * v0, 2 * v1, 2 * v2, 2 * v3]) 25 (0, 0)) := (blk_below hb5 _ (by (try simp only [World.size_alloc]); omega)).trans ((blk_alloc_old _ _ _ (by (try simp only [World.size_alloc]); omega)).trans (bw4))
    have ba5 : blk w5 (w4.heap.size) = some (.cells (cs .i64 [x0, 0, x2, x3]) 25 (0, 0)) := (blk_below hb5 _ (by (try simp only [World.size_alloc]); omega)).trans (blk_alloc_at _ _ _ rfl)
    have L5 : Below w.heap.size w w5 := by repeat' (first | (with_reducible exact Below.refl _ _) | (with_reducible refine Rd.below_step ?_ (by assumption)) | (with_reducible refine Rd.below_alloc ?_ _) | (with_reducible refine Rd.below_drewN ?_ _) | (with_reducible refine Below.drew ?_) | (with_reducible refine Below.setCell ?_ ?_ _) | (with_reducible refine Rd.below_setRow ?_ ?_ _) | go_size | (simp only [World.size_alloc]; omega) | omega)
    clear bm4 bv4 bw4 lbm4 lbv4 lbw4 hb5 L4
    have lbm5 := blk_lt bm5
    have lbv5 := blk_lt bv5
    have lbw5 := blk_lt bw5
    have lba5 := blk_lt ba5
    go_upto_region 14 with (fail)
    refine Rd.name_world ?_
    intro w6 hW
    have bm6 : blk w6 (w.heap.size) = some (.cells (cs .i64 (zrow ms 1)) 23 (0, 0)) := by rw [hW]; exact (blk_alloc_old _ _ _ (by (try simp only [World.size_alloc]); omega)).trans (bm5)
    have bv6 : blk w6 (w.heap.size + 1) = some (.cells (cs .i64 [v0, v1, v2, v3]) 25 (0, 0)) := by rw [hW]; exact (blk_alloc_old _ _ _ (by (try simp only [World.size_alloc]); omega)).trans (bv5)
    have bw6 : blk w6 (w1.heap.size) = some (.cells (cs .i64 [2 * v0, 2 * v1, 2 * v2, 2 * v3]) 25 (0, 0)) := by rw [hW]; exact (blk_alloc_old _ _ _ (by (try simp only [World.size_alloc]); omega)).trans (bw5)
    have ba6 : blk w6 (w4.heap.size) = some (.cells (cs .i64 [x0, 0, x2, x3]) 25 (0, 0)) := by rw [hW]; exact (blk_alloc_old _ _ _ (by (try simp only [World.size_alloc]); omega)).trans (ba5)
    have bb6 : blk w6 (w5.heap.size) = some (.cells (cs .i64 [y0, y1, y2, y3]) 25 (0, 0)) := by rw [hW]; exact blk_alloc_at _ _ _ rfl
    have L6 : Below w.heap.size w w6 := by rw [hW]; repeat' (first | (with_reducible exact Below.refl _ _) | (with_reducible refine Rd.below_step ?_ (by assumption)) | (with_reducible refine Rd.below_alloc ?_ _) | (with_reducible refine Rd.below_drewN ?_ _) | (with_reducible refine Below.drew ?_) | (with_reducible refine Below.setCell ?_ ?_ _) | (with_reducible refine Rd.below_setRow ?_ ?_ _) | go_size | (simp only [World.size_alloc]; omega) | omega)
    have lbm6 := blk_lt bm6
    have lbv6 := blk_lt bv6
    have lbw6 := blk_lt bw6
    have lba6 := blk_lt ba6
    have lbb6 := blk_lt bb6
    clear bm5 bv5 bw5 ba5 lbm5 lbv5 lbw5 lba5 hW L5
    have ca0 : w6.cell? ⟨w4.heap.size, 0, none⟩ = some (.int .i64 (x0)) := by rw [blk_cell ba6]; rfl
    have cb0 : w6.cell? ⟨w5.heap.size, 0, none⟩ = some (.int .i64 y0) := by rw [blk_cell bb6]; rfl
    have wa0 : IntKind.i64.wrap (2 * x0) = 2 * x0 := IntWalk.i64_in _ (by omega)
    have wb0 : IntKind.i64.wrap (y0 - 2 * x0) = y0 - 2 * x0 := IntWalk.i64_in _ (by omega)
    have da0 : decide (y0 - 2 * x0 < -1) = false := decide_eq_false (by omega)
    have db0 : decide (1 < y0 - 2 * x0) = false := decide_eq_false (by omega)
    have ca1 : w6.cell? ⟨w4.heap.size, 1, none⟩ = some (.int .i64 (0)) := by rw [blk_cell ba6]; rfl
    have cb1 : w6.cell? ⟨w5.heap.size, 1, none⟩ = some (.int .i64 y1) := by rw [blk_cell bb6]; rfl
    have wa1 : True := trivial
    have wb1 : IntKind.i64.wrap y1 = y1 := IntWalk.i64_in _ (by omega)
    have da1 : decide (y1 < -1) = false := decide_eq_false (by omega)
    have db1 : decide (1 < y1) = false := decide_eq_false (by omega)
    have ca2 : w6.cell? ⟨w4.heap.size, 2, none⟩ = some (.int .i64 (x2)) := by rw [blk_cell ba6]; rfl
    have cb2 : w6.cell? ⟨w5.heap.size, 2, none⟩ = some (.int .i64 y2) := by rw [blk_cell bb6]; rfl
    have wa2 : IntKind.i64.wrap (2 * x2) = 2 * x2 := IntWalk.i64_in _ (by omega)
    have wb2 : IntKind.i64.wrap (y2 - 2 * x2) = y2 - 2 * x2 := IntWalk.i64_in _ (by omega)
    have da2 : decide (y2 - 2 * x2 < -1) = false := decide_eq_false (by omega)
    have db2 : decide (1 < y2 - 2 * x2) = false := decide_eq_false (by omega)
    have ca3 : w6.cell? ⟨w4.heap.size, 3, none⟩ = some (.int .i64 (x3)) := by rw [blk_cell ba6]; rfl
    have cb3 : w6.cell? ⟨w5.heap.size, 3, none⟩ = some (.int .i64 y3) := by rw [blk_cell bb6]; rfl
    have wa3 : IntKind.i64.wrap (2 * x3) = 2 * x3 := IntWalk.i64_in _ (by omega)
    have wb3 : IntKind.i64.wrap (y3 - 2 * x3) = y3 - 2 * x3 := IntWalk.i64_in _ (by omega)
    have da3 : decide (y3 - 2 * x3 < -1) = false := decide_eq_false (by omega)
    have db3 : decide (1 < y3 - 2 * x3) = false := decide_eq_false (by omega)
    clear t01 t02 t11 t12 t21 t22 t31 t32
    go_wp2
    refine wp_loop_rounds 5 ?_
    iterate 4 (rw [rounds_succ]; go_wp2; go_quiet (fail); go_wp2)
    rw [rounds_succ]
    go_wp2_with (go_at_call 20; refine (awake_any _).mono ?_; rintro e w9 ⟨rfl, hb⟩; have hs := hb.size; try simp only [World.size_alloc, World.size_setCell] at hs)
    go_ret
    exact ⟨rfl, by repeat' (first | (with_reducible exact Below.refl _ _) | (with_reducible refine Rd.below_step ?_ (by assumption)) | (with_reducible refine Rd.below_alloc ?_ _) | (with_reducible refine Rd.below_drewN ?_ _) | (with_reducible refine Below.drew ?_) | (with_reducible refine Below.setCell ?_ ?_ _) | (with_reducible refine Rd.below_setRow ?_ ?_ _) | go_size | (simp only [World.size_alloc]; omega) | omega)⟩
  · rw [hk]
    clear hk
    have cc0 : w2.cell? ⟨w.heap.size, 8, none⟩ = some (.int .i64 (ms.getD 8 0)) := by rw [blk_cell bm2]; exact cs_at (at_of (by omega))
    have cf0 : w2.frozen? ⟨w.heap.size, 8, none⟩ = false := blk_frozen bm2 _
    have cc1 : w2.cell? ⟨w.heap.size, 9, none⟩ = some (.int .i64 (ms.getD 9 0)) := by rw [blk_cell bm2]; exact cs_at (at_of (by omega))
    have cf1 : w2.frozen? ⟨w.heap.size, 9, none⟩ = false := blk_frozen bm2 _
    have cc2 : w2.cell? ⟨w.heap.size, 10, none⟩ = some (.int .i64 (ms.getD 10 0)) := by rw [blk_cell bm2]; exact cs_at (at_of (by omega))
    have cf2 : w2.frozen? ⟨w.heap.size, 10, none⟩ = false := blk_frozen bm2 _
    have cc3 : w2.cell? ⟨w.heap.size, 11, none⟩ = some (.int .i64 (ms.getD 11 0)) := by rw [blk_cell bm2]; exact cs_at (at_of (by omega))
    have cf3 : w2.frozen? ⟨w.heap.size, 11, none⟩ = false := blk_frozen bm2 _
    go_upto_region 12 with (fail)
    refine Rd.name_world ?_
    intro w3 hW
    have ez := (blk_set _ _ 11 (.int .i64 0) _ _ (blk_set _ _ 10 (.int .i64 0) _ _ (blk_set _ _ 9 (.int .i64 0) _ _ (blk_set _ _ 8 (.int .i64 0) _ _ bm2))))
    rw [set_cs, set_cs, set_cs, set_cs] at ez
    have bm3 : blk w3 w.heap.size = some (.cells (cs .i64 (zrow ms 2)) 23 (0, 0)) := by rw [hW]; exact ez
    have bv3 : blk w3 (w.heap.size + 1) = some (.cells (cs .i64 [v0, v1, v2, v3]) 25 (0, 0)) := by rw [hW]; exact (blk_set_far' _ _ _ _ (by show w.heap.size < _; omega)).trans ((blk_set_far' _ _ _ _ (by show w.heap.size < _; omega)).trans ((blk_set_far' _ _ _ _ (by show w.heap.size < _; omega)).trans ((blk_set_far' _ _ _ _ (by show w.heap.size < _; omega)).trans (bv2))))
    have bw3 : blk w3 (w1.heap.size) = some (.cells (cs .i64 [2 * v0, 2 * v1, 2 * v2, 2 * v3]) 25 (0, 0)) := by rw [hW]; exact (blk_set_far' _ _ _ _ (by show w.heap.size < _; omega)).trans ((blk_set_far' _ _ _ _ (by show w.heap.size < _; omega)).trans ((blk_set_far' _ _ _ _ (by show w.heap.size < _; omega)).trans ((blk_set_far' _ _ _ _ (by show w.heap.size < _; omega)).trans (bw2))))
    have L3 : Below w.heap.size w w3 := by rw [hW]; repeat' (first | (with_reducible exact Below.refl _ _) | (with_reducible refine Rd.below_step ?_ (by assumption)) | (with_reducible refine Rd.below_alloc ?_ _) | (with_reducible refine Rd.below_drewN ?_ _) | (with_reducible refine Below.drew ?_) | (with_reducible refine Below.setCell ?_ ?_ _) | (with_reducible refine Rd.below_setRow ?_ ?_ _) | go_size | (simp only [World.size_alloc]; omega) | omega)
    clear hW ez L2 cc0 cf0 cc1 cf1 cc2 cf2 cc3 cf3 bm2 bv2 bw2 lbm2 lbv2 lbw2
    have lbm3 := blk_lt bm3
    have lbv3 := blk_lt bv3
    have lbw3 := blk_lt bw3
    have hz := zrow_len hms 2
    have HZ := Lib.hid (zrow_cells HC.out 2)
    have WZ := Lib.hid (wf_of_cells HZ.out)
    have Q1 := Lib.hid (applyV_ok HZ.out N1.out)
    have Q2 := Lib.hid (applyV_ok HZ.out N2.out)
    rw [fill4] at Q1 Q2
    obtain ⟨t01, t02⟩ : -1 ≤ outF (zrow ms 2) [2 * v0, 2 * v1, 2 * v2, 2 * v3] 0 - 2 * outF (zrow ms 2) [v0, v1, v2, v3] 0 ∧ outF (zrow ms 2) [2 * v0, 2 * v1, 2 * v2, 2 * v3] 0 - 2 * outF (zrow ms 2) [v0, v1, v2, v3] 0 ≤ 1 := by unfold outF; rw [dot_twice]; exact near_twice _
    obtain ⟨u01, u02⟩ := out_bd HZ.out N1.out 0
    obtain ⟨p01, p02⟩ := out_bd HZ.out N2.out 0
    obtain ⟨t11, t12⟩ : -1 ≤ outF (zrow ms 2) [2 * v0, 2 * v1, 2 * v2, 2 * v3] 1 - 2 * outF (zrow ms 2) [v0, v1, v2, v3] 1 ∧ outF (zrow ms 2) [2 * v0, 2 * v1, 2 * v2, 2 * v3] 1 - 2 * outF (zrow ms 2) [v0, v1, v2, v3] 1 ≤ 1 := by unfold outF; rw [dot_twice]; exact near_twice _
    obtain ⟨u11, u12⟩ := out_bd HZ.out N1.out 1
    obtain ⟨p11, p12⟩ := out_bd HZ.out N2.out 1
    obtain ⟨t21, t22⟩ : -1 ≤ outF (zrow ms 2) [2 * v0, 2 * v1, 2 * v2, 2 * v3] 2 - 2 * outF (zrow ms 2) [v0, v1, v2, v3] 2 ∧ outF (zrow ms 2) [2 * v0, 2 * v1, 2 * v2, 2 * v3] 2 - 2 * outF (zrow ms 2) [v0, v1, v2, v3] 2 ≤ 1 := by unfold outF; rw [dot_twice]; exact near_twice _
    obtain ⟨u21, u22⟩ := out_bd HZ.out N1.out 2
    obtain ⟨p21, p22⟩ := out_bd HZ.out N2.out 2
    obtain ⟨t31, t32⟩ : -1 ≤ outF (zrow ms 2) [2 * v0, 2 * v1, 2 * v2, 2 * v3] 3 - 2 * outF (zrow ms 2) [v0, v1, v2, v3] 3 ∧ outF (zrow ms 2) [2 * v0, 2 * v1, 2 * v2, 2 * v3] 3 - 2 * outF (zrow ms 2) [v0, v1, v2, v3] 3 ≤ 1 := by unfold outF; rw [dot_twice]; exact near_twice _
    obtain ⟨u31, u32⟩ := out_bd HZ.out N1.out 3
    obtain ⟨p31, p32⟩ := out_bd HZ.out N2.out 3
    have X0 : outF (zrow ms 2) [v0, v1, v2, v3] 2 = 0 := by unfold outF; rw [zrow_dot hms (by omega)]; exact near_0
    generalize gx0 : outF (zrow ms 2) [v0, v1, v2, v3] 0 = x0 at *
    generalize gy0 : outF (zrow ms 2) [2 * v0, 2 * v1, 2 * v2, 2 * v3] 0 = y0 at *
    generalize gx1 : outF (zrow ms 2) [v0, v1, v2, v3] 1 = x1 at *
    generalize gy1 : outF (zrow ms 2) [2 * v0, 2 * v1, 2 * v2, 2 * v3] 1 = y1 at *
    generalize gx2 : outF (zrow ms 2) [v0, v1, v2, v3] 2 = x2 at *
    generalize gy2 : outF (zrow ms 2) [2 * v0, 2 * v1, 2 * v2, 2 * v3] 2 = y2 at *
    generalize gx3 : outF (zrow ms 2) [v0, v1, v2, v3] 3 = x3 at *
    generalize gy3 : outF (zrow ms 2) [2 * v0, 2 * v1, 2 * v2, 2 * v3] 3 = y3 at *
    clear gx0 gy0 gx1 gy1 gx2 gy2 gx3 gy3
    subst X0
    go_wp2_with fail
    refine (apply_q Q1 hz rfl _ WZ.out Wv1.out).mono ?_
    rintro e w4 ⟨rfl, hb4⟩
    have s4 := hb4.size
    try simp only [World.size_alloc] at s4
    have bm4 : blk w4 (w.heap.size) = some (.cells (cs .i64 (zrow ms 2)) 23 (0, 0)) := (blk_below hb4 _ (by (try simp only [World.size_alloc]); omega)).trans (bm3)
    have bv4 : blk w4 (w.heap.size + 1) = some (.cells (cs .i64 [v0, v1, v2, v3]) 25 (0, 0)) := (blk_below hb4 _ (by (try simp only [World.size_alloc]); omega)).trans (bv3)
    have bw4 : blk w4 (w1.heap.size) = some (.cells (cs .i64 [2 * v0, 2 * v1, 2 * v2, 2 * v3]) 25 (0, 0)) := (blk_below hb4 _ (by (try simp only [World.size_alloc]); omega)).trans (bw3)
    have L4 : Below w.heap.size w w4 := by repeat' (first | (with_reducible exact Below.refl _ _) | (with_reducible refine Rd.below_step ?_ (by assumption)) | (with_reducible refine Rd.below_alloc ?_ _) | (with_reducible refine Rd.below_drewN ?_ _) | (with_reducible refine Below.drew ?_) | (with_reducible refine Below.setCell ?_ ?_ _) | (with_reducible refine Rd.below_setRow ?_ ?_ _) | go_size | (simp only [World.size_alloc]; omega) | omega)
    clear bm3 bv3 bw3 lbm3 lbv3 lbw3 hb4 L3
    have lbm4 := blk_lt bm4
    have lbv4 := blk_lt bv4
    have lbw4 := blk_lt bw4
    go_wp2_with fail
    refine (apply_q Q2 hz rfl _ WZ.out Wv2.out).mono ?_
    rintro e w5 ⟨rfl, hb5⟩
    have s5 := hb5.size
    try simp only [World.size_alloc] at s5
    have bm5 : blk w5 (w.heap.size) = some (.cells (cs .i64 (zrow ms 2)) 23 (0, 0)) := (blk_below hb5 _ (by (try simp only [World.size_alloc]); omega)).trans ((blk_alloc_old _ _ _ (by (try simp only [World.size_alloc]); omega)).trans (bm4))
    have bv5 : blk w5 (w.heap.size + 1) = some (.cells (cs .i64 [v0, v1, v2, v3]) 25 (0, 0)) := (blk_below hb5 _ (by (try simp only [World.size_alloc]); omega)).trans ((blk_alloc_old _ _ _ (by (try simp only [World.size_alloc]); omega)).trans (bv4))
    have bw5 : blk w5 (w1.heap.size) = some (.cells (cs .i64 [2 * v0, 2 * v1, 2 * v2, 2 * v3]) 25 (0, 0)) := (blk_below hb5 _ (by (try simp only [World.size_alloc]); omega)).trans ((blk_alloc_old _ _ _ (by (try simp only [World.size_alloc]); omega)).trans (bw4))
    have ba5 : blk w5 (w4.heap.size) = some (.cells (cs .i64 [x0, x1, 0, x3]) 25 (0, 0)) := (blk_below hb5 _ (by (try simp only [World.size_alloc]); omega)).trans (blk_alloc_at _ _ _ rfl)
    have L5 : Below w.heap.size w w5 := by repeat' (first | (with_reducible exact Below.refl _ _) | (with_reducible refine Rd.below_step ?_ (by assumption)) | (with_reducible refine Rd.below_alloc ?_ _) | (with_reducible refine Rd.below_drewN ?_ _) | (with_reducible refine Below.drew ?_) | (with_reducible refine Below.setCell ?_ ?_ _) | (with_reducible refine Rd.below_setRow ?_ ?_ _) | go_size | (simp only [World.size_alloc]; omega) | omega)
    clear bm4 bv4 bw4 lbm4 lbv4 lbw4 hb5 L4
    have lbm5 := blk_lt bm5
    have lbv5 := blk_lt bv5
    have lbw5 := blk_lt bw5
    have lba5 := blk_lt ba5
    go_upto_region 14 with (fail)
    refine Rd.name_world ?_
    intro w6 hW
    have bm6 : blk w6 (w.heap.size) = some (.cells (cs .i64 (zrow ms 2)) 23 (0, 0)) := by rw [hW]; exact (blk_alloc_old _ _ _ (by (try simp only [World.size_alloc]); omega)).trans (bm5)
    have bv6 : blk w6 (w.heap.size + 1) = some (.cells (cs .i64 [v0, v1, v2, v3]) 25 (0, 0)) := by rw [hW]; exact (blk_alloc_old _ _ _ (by (try simp only [World.size_alloc]); omega)).trans (bv5)
    have bw6 : blk w6 (w1.heap.size) = some (.cells (cs .i64 [2 * v0, 2 * v1, 2 * v2, 2 * v3]) 25 (0, 0)) := by rw [hW]; exact (blk_alloc_old _ _ _ (by (try simp only [World.size_alloc]); omega)).trans (bw5)
    have ba6 : blk w6 (w4.heap.size) = some (.cells (cs .i64 [x0, x1, 0, x3]) 25 (0, 0)) := by rw [hW]; exact (blk_alloc_old _ _ _ (by (try simp only [World.size_alloc]); omega)).trans (ba5)
    have bb6 : blk w6 (w5.heap.size) = some (.cells (cs .i64 [y0, y1, y2, y3]) 25 (0, 0)) := by rw [hW]; exact blk_alloc_at _ _ _ rfl
    have L6 : Below w.heap.size w w6 := by rw [hW]; repeat' (first | (with_reducible exact Below.refl _ _) | (with_reducible refine Rd.below_step ?_ (by assumption)) | (with_reducible refine Rd.below_alloc ?_ _) | (with_reducible refine Rd.below_drewN ?_ _) | (with_reducible refine Below.drew ?_) | (with_reducible refine Below.setCell ?_ ?_ _) | (with_reducible refine Rd.below_setRow ?_ ?_ _) | go_size | (simp only [World.size_alloc]; omega) | omega)
    have lbm6 := blk_lt bm6
    have lbv6 := blk_lt bv6
    have lbw6 := blk_lt bw6
    have lba6 := blk_lt ba6
    have lbb6 := blk_lt bb6
    clear bm5 bv5 bw5 ba5 lbm5 lbv5 lbw5 lba5 hW L5
    have ca0 : w6.cell? ⟨w4.heap.size, 0, none⟩ = some (.int .i64 (x0)) := by rw [blk_cell ba6]; rfl
    have cb0 : w6.cell? ⟨w5.heap.size, 0, none⟩ = some (.int .i64 y0) := by rw [blk_cell bb6]; rfl
    have wa0 : IntKind.i64.wrap (2 * x0) = 2 * x0 := IntWalk.i64_in _ (by omega)
    have wb0 : IntKind.i64.wrap (y0 - 2 * x0) = y0 - 2 * x0 := IntWalk.i64_in _ (by omega)
    have da0 : decide (y0 - 2 * x0 < -1) = false := decide_eq_false (by omega)
    have db0 : decide (1 < y0 - 2 * x0) = false := decide_eq_false (by omega)
    have ca1 : w6.cell? ⟨w4.heap.size, 1, none⟩ = some (.int .i64 (x1)) := by rw [blk_cell ba6]; rfl
    have cb1 : w6.cell? ⟨w5.heap.size, 1, none⟩ = some (.int .i64 y1) := by rw [blk_cell bb6]; rfl
    have wa1 : IntKind.i64.wrap (2 * x1) = 2 * x1 := IntWalk.i64_in _ (by omega)
    have wb1 : IntKind.i64.wrap (y1 - 2 * x1) = y1 - 2 * x1 := IntWalk.i64_in _ (by omega)
    have da1 : decide (y1 - 2 * x1 < -1) = false := decide_eq_false (by omega)
    have db1 : decide (1 < y1 - 2 * x1) = false := decide_eq_false (by omega)
    have ca2 : w6.cell? ⟨w4.heap.size, 2, none⟩ = some (.int .i64 (0)) := by rw [blk_cell ba6]; rfl
    have cb2 : w6.cell? ⟨w5.heap.size, 2, none⟩ = some (.int .i64 y2) := by rw [blk_cell bb6]; rfl
    have wa2 : True := trivial
    have wb2 : IntKind.i64.wrap y2 = y2 := IntWalk.i64_in _ (by omega)
    have da2 : decide (y2 < -1) = false := decide_eq_false (by omega)
    have db2 : decide (1 < y2) = false := decide_eq_false (by omega)
    have ca3 : w6.cell? ⟨w4.heap.size, 3, none⟩ = some (.int .i64 (x3)) := by rw [blk_cell ba6]; rfl
    have cb3 : w6.cell? ⟨w5.heap.size, 3, none⟩ = some (.int .i64 y3) := by rw [blk_cell bb6]; rfl
    have wa3 : IntKind.i64.wrap (2 * x3) = 2 * x3 := IntWalk.i64_in _ (by omega)
    have wb3 : IntKind.i64.wrap (y3 - 2 * x3) = y3 - 2 * x3 := IntWalk.i64_in _ (by omega)
    have da3 : decide (y3 - 2 * x3 < -1) = false := decide_eq_false (by omega)
    have db3 : decide (1 < y3 - 2 * x3) = false := decide_eq_false (by omega)
    clear t01 t02 t11 t12 t21 t22 t31 t32
    go_wp2
    refine wp_loop_rounds 5 ?_
    iterate 4 (rw [rounds_succ]; go_wp2; go_quiet (fail); go_wp2)
    rw [rounds_succ]
    go_wp2_with (go_at_call 20; refine (awake_any _).mono ?_; rintro e w9 ⟨rfl, hb⟩; have hs := hb.size; try simp only [World.size_alloc, World.size_setCell] at hs)
    go_ret
    exact ⟨rfl, by repeat' (first | (with_reducible exact Below.refl _ _) | (with_reducible refine Rd.below_step ?_ (by assumption)) | (with_reducible refine Rd.below_alloc ?_ _) | (with_reducible refine Rd.below_drewN ?_ _) | (with_reducible refine Below.drew ?_) | (with_reducible refine Below.setCell ?_ ?_ _) | (with_reducible refine Rd.below_setRow ?_ ?_ _) | go_size | (simp only [World.size_alloc]; omega) | omega)⟩
  · rw [hk]
    clear hk
    have cc0 : w2.cell? ⟨w.heap.size, 12, none⟩ = some (.int .i64 (ms.getD 12 0)) := by rw [blk_cell bm2]; exact cs_at (at_of (by omega))
    have cf0 : w2.frozen? ⟨w.heap.size, 12, none⟩ = false := blk_frozen bm2 _
    have cc1 : w2.cell? ⟨w.heap.size, 13, none⟩ = some (.int .i64 (ms.getD 13 0)) := by rw [blk_cell bm2]; exact cs_at (at_of (by omega))
    have cf1 : w2.frozen? ⟨w.heap.size, 13, none⟩ = false := blk_frozen bm2 _
    have cc2 : w2.cell? ⟨w.heap.size, 14, none⟩ = some (.int .i64 (ms.getD 14 0)) := by rw [blk_cell bm2]; exact cs_at (at_of (by omega))
    have cf2 : w2.frozen? ⟨w.heap.size, 14, none⟩ = false := blk_frozen bm2 _
    have cc3 : w2.cell? ⟨w.heap.size, 15, none⟩ = some (.int .i64 (ms.getD 15 0)) := by rw [blk_cell bm2]; exact cs_at (at_of (by omega))
    have cf3 : w2.frozen? ⟨w.heap.size, 15, none⟩ = false := blk_frozen bm2 _
    go_upto_region 12 with (fail)
    refine Rd.name_world ?_
    intro w3 hW
    have ez := (blk_set _ _ 15 (.int .i64 0) _ _ (blk_set _ _ 14 (.int .i64 0) _ _ (blk_set _ _ 13 (.int .i64 0) _ _ (blk_set _ _ 12 (.int .i64 0) _ _ bm2))))
    rw [set_cs, set_cs, set_cs, set_cs] at ez
    have bm3 : blk w3 w.heap.size = some (.cells (cs .i64 (zrow ms 3)) 23 (0, 0)) := by rw [hW]; exact ez
    have bv3 : blk w3 (w.heap.size + 1) = some (.cells (cs .i64 [v0, v1, v2, v3]) 25 (0, 0)) := by rw [hW]; exact (blk_set_far' _ _ _ _ (by show w.heap.size < _; omega)).trans ((blk_set_far' _ _ _ _ (by show w.heap.size < _; omega)).trans ((blk_set_far' _ _ _ _ (by show w.heap.size < _; omega)).trans ((blk_set_far' _ _ _ _ (by show w.heap.size < _; omega)).trans (bv2))))
    have bw3 : blk w3 (w1.heap.size) = some (.cells (cs .i64 [2 * v0, 2 * v1, 2 * v2, 2 * v3]) 25 (0, 0)) := by rw [hW]; exact (blk_set_far' _ _ _ _ (by show w.heap.size < _; omega)).trans ((blk_set_far' _ _ _ _ (by show w.heap.size < _; omega)).trans ((blk_set_far' _ _ _ _ (by show w.heap.size < _; omega)).trans ((blk_set_far' _ _ _ _ (by show w.heap.size < _; omega)).trans (bw2))))
    have L3 : Below w.heap.size w w3 := by rw [hW]; repeat' (first | (with_reducible exact Below.refl _ _) | (with_reducible refine Rd.below_step ?_ (by assumption)) | (with_reducible refine Rd.below_alloc ?_ _) | (with_reducible refine Rd.below_drewN ?_ _) | (with_reducible refine Below.drew ?_) | (with_reducible refine Below.setCell ?_ ?_ _) | (with_reducible refine Rd.below_setRow ?_ ?_ _) | go_size | (simp only [World.size_alloc]; omega) | omega)
    clear hW ez L2 cc0 cf0 cc1 cf1 cc2 cf2 cc3 cf3 bm2 bv2 bw2 lbm2 lbv2 lbw2
    have lbm3 := blk_lt bm3
    have lbv3 := blk_lt bv3
    have lbw3 := blk_lt bw3
    have hz := zrow_len hms 3
    have HZ := Lib.hid (zrow_cells HC.out 3)
    have WZ := Lib.hid (wf_of_cells HZ.out)
    have Q1 := Lib.hid (applyV_ok HZ.out N1.out)
    have Q2 := Lib.hid (applyV_ok HZ.out N2.out)
    rw [fill4] at Q1 Q2
    obtain ⟨t01, t02⟩ : -1 ≤ outF (zrow ms 3) [2 * v0, 2 * v1, 2 * v2, 2 * v3] 0 - 2 * outF (zrow ms 3) [v0, v1, v2, v3] 0 ∧ outF (zrow ms 3) [2 * v0, 2 * v1, 2 * v2, 2 * v3] 0 - 2 * outF (zrow ms 3) [v0, v1, v2, v3] 0 ≤ 1 := by unfold outF; rw [dot_twice]; exact near_twice _
    obtain ⟨u01, u02⟩ := out_bd HZ.out N1.out 0
    obtain ⟨p01, p02⟩ := out_bd HZ.out N2.out 0
    obtain ⟨t11, t12⟩ : -1 ≤ outF (zrow ms 3) [2 * v0, 2 * v1, 2 * v2, 2 * v3] 1 - 2 * outF (zrow ms 3) [v0, v1, v2, v3] 1 ∧ outF (zrow ms 3) [2 * v0, 2 * v1, 2 * v2, 2 * v3] 1 - 2 * outF (zrow ms 3) [v0, v1, v2, v3] 1 ≤ 1 := by unfold outF; rw [dot_twice]; exact near_twice _
    obtain ⟨u11, u12⟩ := out_bd HZ.out N1.out 1
    obtain ⟨p11, p12⟩ := out_bd HZ.out N2.out 1
    obtain ⟨t21, t22⟩ : -1 ≤ outF (zrow ms 3) [2 * v0, 2 * v1, 2 * v2, 2 * v3] 2 - 2 * outF (zrow ms 3) [v0, v1, v2, v3] 2 ∧ outF (zrow ms 3) [2 * v0, 2 * v1, 2 * v2, 2 * v3] 2 - 2 * outF (zrow ms 3) [v0, v1, v2, v3] 2 ≤ 1 := by unfold outF; rw [dot_twice]; exact near_twice _
    obtain ⟨u21, u22⟩ := out_bd HZ.out N1.out 2
    obtain ⟨p21, p22⟩ := out_bd HZ.out N2.out 2
    obtain ⟨t31, t32⟩ : -1 ≤ outF (zrow ms 3) [2 * v0, 2 * v1, 2 * v2, 2 * v3] 3 - 2 * outF (zrow ms 3) [v0, v1, v2, v3] 3 ∧ outF (zrow ms 3) [2 * v0, 2 * v1, 2 * v2, 2 * v3] 3 - 2 * outF (zrow ms 3) [v0, v1, v2, v3] 3 ≤ 1 := by unfold outF; rw [dot_twice]; exact near_twice _
    obtain ⟨u31, u32⟩ := out_bd HZ.out N1.out 3
    obtain ⟨p31, p32⟩ := out_bd HZ.out N2.out 3
    have X0 : outF (zrow ms 3) [v0, v1, v2, v3] 3 = 0 := by unfold outF; rw [zrow_dot hms (by omega)]; exact near_0
    generalize gx0 : outF (zrow ms 3) [v0, v1, v2, v3] 0 = x0 at *
    generalize gy0 : outF (zrow ms 3) [2 * v0, 2 * v1, 2 * v2, 2 * v3] 0 = y0 at *
    generalize gx1 : outF (zrow ms 3) [v0, v1, v2, v3] 1 = x1 at *
    generalize gy1 : outF (zrow ms 3) [2 * v0, 2 * v1, 2 * v2, 2 * v3] 1 = y1 at *
    generalize gx2 : outF (zrow ms 3) [v0, v1, v2, v3] 2 = x2 at *
    generalize gy2 : outF (zrow ms 3) [2 * v0, 2 * v1, 2 * v2, 2 * v3] 2 = y2 at *
    generalize gx3 : outF (zrow ms 3) [v0, v1, v2, v3] 3 = x3 at *
    generalize gy3 : outF (zrow ms 3) [2 * v0, 2 * v1, 2 * v2, 2 * v3] 3 = y3 at *
    clear gx0 gy0 gx1 gy1 gx2 gy2 gx3 gy3
    subst X0
    go_wp2_with fail
    refine (apply_q Q1 hz rfl _ WZ.out Wv1.out).mono ?_
    rintro e w4 ⟨rfl, hb4⟩
    have s4 := hb4.size
    try simp only [World.size_alloc] at s4
    have bm4 : blk w4 (w.heap.size) = some (.cells (cs .i64 (zrow ms 3)) 23 (0, 0)) := (blk_below hb4 _ (by (try simp only [World.size_alloc]); omega)).trans (bm3)
    have bv4 : blk w4 (w.heap.size + 1) = some (.cells (cs .i64 [v0, v1, v2, v3]) 25 (0, 0)) := (blk_below hb4 _ (by (try simp only [World.size_alloc]); omega)).trans (bv3)
    have bw4 : blk w4 (w1.heap.size) = some (.cells (cs .i64 [2 * v0, 2 * v1, 2 * v2, 2 * v3]) 25 (0, 0)) := (blk_below hb4 _ (by (try simp only [World.size_alloc]); omega)).trans (bw3)
    have L4 : Below w.heap.size w w4 := by repeat' (first | (with_reducible exact Below.refl _ _) | (with_reducible refine Rd.below_step ?_ (by assumption)) | (with_reducible refine Rd.below_alloc ?_ _) | (with_reducible refine Rd.below_drewN ?_ _) | (with_reducible refine Below.drew ?_) | (with_reducible refine Below.setCell ?_ ?_ _) | (with_reducible refine Rd.below_setRow ?_ ?_ _) | go_size | (simp only [World.size_alloc]; omega) | omega)
    clear bm3 bv3 bw3 lbm3 lbv3 lbw3 hb4 L3
    have lbm4 := blk_lt bm4
    have lbv4 := blk_lt bv4
    have lbw4 := blk_lt bw4
    go_wp2_with fail
    refine (apply_q Q2 hz rfl _ WZ.out Wv2.out).mono ?_
    rintro e w5 ⟨rfl, hb5⟩
    have s5 := hb5.size
    try simp only [World.size_alloc] at s5
    have bm5 : blk w5 (w.heap.size) = some (.cells (cs .i64 (zrow ms 3)) 23 (0, 0)) := (blk_below hb5 _ (by (try simp only [World.size_alloc]); omega)).trans ((blk_alloc_old _ _ _ (by (try simp only [World.size_alloc]); omega)).trans (bm4))
    have bv5 : blk w5 (w.heap.size + 1) = some (.cells (cs .i64 [v0, v1, v2, v3]) 25 (0, 0)) := (blk_below hb5 _ (by (try simp only [World.size_alloc]); omega)).trans ((blk_alloc_old _ _ _ (by (try simp only [World.size_alloc]); omega)).trans (bv4))
    have bw5 : blk w5 (w1.heap.size) = some (.cells (cs .i64 [2 * v0, 2 * v1, 2 * v2, 2 * v3]) 25 (0, 0)) := (blk_below hb5 _ (by (try simp only [World.size_alloc]); omega)).trans ((blk_alloc_old _ _ _ (by (try simp only [World.size_alloc]); omega)).trans (bw4))
    have ba5 : blk w5 (w4.heap.size) = some (.cells (cs .i64 [x0, x1, x2, 0]) 25 (0, 0)) := (blk_below hb5 _ (by (try simp only [World.size_alloc]); omega)).trans (blk_alloc_at _ _ _ rfl)
    have L5 : Below w.heap.size w w5 := by repeat' (first | (with_reducible exact Below.refl _ _) | (with_reducible refine Rd.below_step ?_ (by assumption)) | (with_reducible refine Rd.below_alloc ?_ _) | (with_reducible refine Rd.below_drewN ?_ _) | (with_reducible refine Below.drew ?_) | (with_reducible refine Below.setCell ?_ ?_ _) | (with_reducible refine Rd.below_setRow ?_ ?_ _) | go_size | (simp only [World.size_alloc]; omega) | omega)
    clear bm4 bv4 bw4 lbm4 lbv4 lbw4 hb5 L4
    have lbm5 := blk_lt bm5
    have lbv5 := blk_lt bv5
    have lbw5 := blk_lt bw5
    have lba5 := blk_lt ba5
    go_upto_region 14 with (fail)
    refine Rd.name_world ?_
    intro w6 hW
    have bm6 : blk w6 (w.heap.size) = some (.cells (cs .i64 (zrow ms 3)) 23 (0, 0)) := by rw [hW]; exact (blk_alloc_old _ _ _ (by (try simp only [World.size_alloc]); omega)).trans (bm5)
    have bv6 : blk w6 (w.heap.size + 1) = some (.cells (cs .i64 [v0, v1, v2, v3]) 25 (0, 0)) := by rw [hW]; exact (blk_alloc_old _ _ _ (by (try simp only [World.size_alloc]); omega)).trans (bv5)
    have bw6 : blk w6 (w1.heap.size) = some (.cells (cs .i64 [2 * v0, 2 * v1, 2 * v2, 2 * v3]) 25 (0, 0)) := by rw [hW]; exact (blk_alloc_old _ _ _ (by (try simp only [World.size_alloc]); omega)).trans (bw5)
    have ba6 : blk w6 (w4.heap.size) = some (.cells (cs .i64 [x0, x1, x2, 0]) 25 (0, 0)) := by rw [hW]; exact (blk_alloc_old _ _ _ (by (try simp only [World.size_alloc]); omega)).trans (ba5)
    have bb6 : blk w6 (w5.heap.size) = some (.cells (cs .i64 [y0, y1, y2, y3]) 25 (0, 0)) := by rw [hW]; exact blk_alloc_at _ _ _ rfl
    have L6 : Below w.heap.size w w6 := by rw [hW]; repeat' (first | (with_reducible exact Below.refl _ _) | (with_reducible refine Rd.below_step ?_ (by assumption)) | (with_reducible refine Rd.below_alloc ?_ _) | (with_reducible refine Rd.below_drewN ?_ _) | (with_reducible refine Below.drew ?_) | (with_reducible refine Below.setCell ?_ ?_ _) | (with_reducible refine Rd.below_setRow ?_ ?_ _) | go_size | (simp only [World.size_alloc]; omega) | omega)
    have lbm6 := blk_lt bm6
    have lbv6 := blk_lt bv6
    have lbw6 := blk_lt bw6
    have lba6 := blk_lt ba6
    have lbb6 := blk_lt bb6
    clear bm5 bv5 bw5 ba5 lbm5 lbv5 lbw5 lba5 hW L5
    have ca0 : w6.cell? ⟨w4.heap.size, 0, none⟩ = some (.int .i64 (x0)) := by rw [blk_cell ba6]; rfl
    have cb0 : w6.cell? ⟨w5.heap.size, 0, none⟩ = some (.int .i64 y0) := by rw [blk_cell bb6]; rfl
    have wa0 : IntKind.i64.wrap (2 * x0) = 2 * x0 := IntWalk.i64_in _ (by omega)
    have wb0 : IntKind.i64.wrap (y0 - 2 * x0) = y0 - 2 * x0 := IntWalk.i64_in _ (by omega)
    have da0 : decide (y0 - 2 * x0 < -1) = false := decide_eq_false (by omega)
    have db0 : decide (1 < y0 - 2 * x0) = false := decide_eq_false (by omega)
    have ca1 : w6.cell? ⟨w4.heap.size, 1, none⟩ = some (.int .i64 (x1)) := by rw [blk_cell ba6]; rfl
    have cb1 : w6.cell? ⟨w5.heap.size, 1, none⟩ = some (.int .i64 y1) := by rw [blk_cell bb6]; rfl
    have wa1 : IntKind.i64.wrap (2 * x1) = 2 * x1 := IntWalk.i64_in _ (by omega)
    have wb1 : IntKind.i64.wrap (y1 - 2 * x1) = y1 - 2 * x1 := IntWalk.i64_in _ (by omega)
    have da1 : decide (y1 - 2 * x1 < -1) = false := decide_eq_false (by omega)
    have db1 : decide (1 < y1 - 2 * x1) = false := decide_eq_false (by omega)
    have ca2 : w6.cell? ⟨w4.heap.size, 2, none⟩ = some (.int .i64 (x2)) := by rw [blk_cell ba6]; rfl
    have cb2 : w6.cell? ⟨w5.heap.size, 2, none⟩ = some (.int .i64 y2) := by rw [blk_cell bb6]; rfl
    have wa2 : IntKind.i64.wrap (2 * x2) = 2 * x2 := IntWalk.i64_in _ (by omega)
    have wb2 : IntKind.i64.wrap (y2 - 2 * x2) = y2 - 2 * x2 := IntWalk.i64_in _ (by omega)
    have da2 : decide (y2 - 2 * x2 < -1) = false := decide_eq_false (by omega)
    have db2 : decide (1 < y2 - 2 * x2) = false := decide_eq_false (by omega)
    have ca3 : w6.cell? ⟨w4.heap.size, 3, none⟩ = some (.int .i64 (0)) := by rw [blk_cell ba6]; rfl
    have cb3 : w6.cell? ⟨w5.heap.size, 3, none⟩ = some (.int .i64 y3) := by rw [blk_cell bb6]; rfl
    have wa3 : True := trivial
    have wb3 : IntKind.i64.wrap y3 = y3 := IntWalk.i64_in _ (by omega)
    have da3 : decide (y3 < -1) = false := decide_eq_false (by omega)
    have db3 : decide (1 < y3) = false := decide_eq_false (by omega)
    clear t01 t02 t11 t12 t21 t22 t31 t32
    go_wp2
    refine wp_loop_rounds 5 ?_
    iterate 4 (rw [rounds_succ]; go_wp2; go_quiet (fail); go_wp2)
    rw [rounds_succ]
    go_wp2_with (go_at_call 20; refine (awake_any _).mono ?_; rintro e w9 ⟨rfl, hb⟩; have hs := hb.size; try simp only [World.size_alloc, World.size_setCell] at hs)
    go_ret
    exact ⟨rfl, by repeat' (first | (with_reducible exact Below.refl _ _) | (with_reducible refine Rd.below_step ?_ (by assumption)) | (with_reducible refine Rd.below_alloc ?_ _) | (with_reducible refine Rd.below_drewN ?_ _) | (with_reducible refine Below.drew ?_) | (with_reducible refine Below.setCell ?_ ?_ _) | (with_reducible refine Rd.below_setRow ?_ ?_ _) | go_size | (simp only [World.size_alloc]; omega) | omega)⟩
theorem VecAdds_walk (a0_0 : Int) (a0_1 : Int) (a0_2 : Int) (a0_3 : Int) (a0_4 : Int) (a0_5 : Int) (a0_6 : Int) (a0_7 : Int) (a0_8 : Int) (a0_9 : Int) (a0_10 : Int) (a0_11 : Int) (a0_12 : Int) (a0_13 : Int) (a0_14 : Int) (a0_15 : Int) (a1_0 : Int) (a1_1 : Int) (a1_2 : Int) (a1_3 : Int) (a2 : Int) (w : World) (w0_0 : (Lit.int .i64 a0_0).wf = true) (w0_1 : (Lit.int .i64 a0_1).wf = true) (w0_2 : (Lit.int .i64 a0_2).wf = true) (w0_3 : (Lit.int .i64 a0_3).wf = true) (w0_4 : (Lit.int .i64 a0_4).wf = true) (w0_5 : (Lit.int .i64 a0_5).wf = true) (w0_6 : (Lit.int .i64 a0_6).wf = true) (w0_7 : (Lit.int .i64 a0_7).wf = true) (w0_8 : (Lit.int .i64 a0_8).wf = true) (w0_9 : (Lit.int .i64 a0_9).wf = true) (w0_10 : (Lit.int .i64 a0_10).wf = true) (w0_11 : (Lit.int .i64 a0_11).wf = true) (w0_12 : (Lit.int .i64 a0_12).wf = true) (w0_13 : (Lit.int .i64 a0_13).wf = true) (w0_14 : (Lit.int .i64 a0_14).wf = true) (w0_15 : (Lit.int .i64 a0_15).wf = true) (w1_0 : (Lit.int .i64 a1_0).wf = true) (w1_1 : (Lit.int .i64 a1_1).wf = true) (w1_2 : (Lit.int .i64 a1_2).wf = true) (w1_3 : (Lit.int .i64 a1_3).wf = true) (w2 : (Lit.int .i64 a2).wf = true) :
    Calls Try.prog 6 #[.agg #[.int .i64 a0_0, .int .i64 a0_1, .int .i64 a0_2, .int .i64 a0_3, .int .i64 a0_4, .int .i64 a0_5, .int .i64 a0_6, .int .i64 a0_7, .int .i64 a0_8, .int .i64 a0_9, .int .i64 a0_10, .int .i64 a0_11, .int .i64 a0_12, .int .i64 a0_13, .int .i64 a0_14, .int .i64 a0_15], .agg #[.int .i64 a1_0, .int .i64 a1_1, .int .i64 a1_2, .int .i64 a1_3], .int .i64 a2] w fun e w' => e = .returned (.bool true) ∧ Below w.heap.size w w' := by
  exact VecAdds_law [a0_0, a0_1, a0_2, a0_3, a0_4, a0_5, a0_6, a0_7, a0_8, a0_9, a0_10, a0_11, a0_12, a0_13, a0_14, a0_15] [a1_0, a1_1, a1_2, a1_3] a2 w rfl rfl (wfc w0_0 (wfc w0_1 (wfc w0_2 (wfc w0_3 (wfc w0_4 (wfc w0_5 (wfc w0_6 (wfc w0_7 (wfc w0_8 (wfc w0_9 (wfc w0_10 (wfc w0_11 (wfc w0_12 (wfc w0_13 (wfc w0_14 (wfc w0_15 wfn)))))))))))))))) (wfc w1_0 (wfc w1_1 (wfc w1_2 (wfc w1_3 wfn)))) w2

end Go.Proofs.Ytgfdmjicokhheaa.VecO
