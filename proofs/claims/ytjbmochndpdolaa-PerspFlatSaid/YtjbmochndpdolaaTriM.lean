/-
  PerspFlat: where all corners have one place all of it has.
-/
import Derived.Test.YtjbmochndpdolaaTriK7
import Derived.Test.YtjbmochndpdolaaTriL
import Derived.BigGuard
namespace Go.Proofs.Ytjbmochndpdolaa.TriM
open Go.RowKit FixA Num Rd Go.Proofs.Ytjbmochndpdolaa.Row TriA TriB TriC TriD TriE TriF TriG TriH TriK TriL
set_option linter.unusedVariables false
set_option linter.unusedSimpArgs false
set_option maxRecDepth 10000
attribute [local go_sem ↓] load_tri store_tri load_w3 store_w3 load_spot load_pl store_pl
attribute [local go_sem] one_int one_bool run_load_pl run_store_pl run_load_spot run_load_tri run_load_w3 run_store_tri run_store_w3 rowLoad_eq rowStore_eq midLoad_eq ext0 ext1 ext2 blk_alloc_at blk_alloc_old blk_drew blk_drewN blk_set_far blk_set_far' blk_grow setRow_alloc_at setRow_alloc_old setRow_drew setRow_drewN all_map
attribute [local go_sem high] run_maxT run_minT
attribute [local go_sem] eq_w3 eq_w3_lit

/-- the first k spots have the place -/
def flK (t : List Int) (u v : Int) (k : Nat) : List Int := (List.range 18).map fun i => if i < k * 6 then (if i % 6 = 4 then u else if i % 6 = 5 then v else g t i) else g t i
theorem flK_len (t : List Int) (u v : Int) (k : Nat) : (flK t u v k).length = 18 := by simp [flK]
theorem g_flK (t : List Int) (u v : Int) (k i : Nat) (hi : i < 18) : g (flK t u v k) i = if i < k * 6 then (if i % 6 = 4 then u else if i % 6 = 5 then v else g t i) else g t i := by
  unfold flK
  show List.getD _ i 0 = _
  simp [List.getD, hi]
theorem flK_0 (t : List Int) (u v : Int) (hl : t.length = 18) : flK t u v 0 = t := by
  apply List.ext_getElem?
  intro i
  by_cases h : i < 18
  · simp [flK, h, hl, g, List.getD]
  · simp [flK, h, hl]
theorem flK_set (t : List Int) (u v : Int) (k : Nat) (hk : k < 3) : ((flK t u v k).set (k * 6 + 4) u).set (k * 6 + 5) v = flK t u v (k + 1) := by
  apply List.ext_getElem?
  intro i
  rw [List.getElem?_set, List.getElem?_set]
  by_cases h18 : i < 18
  · by_cases h1 : k * 6 + 5 = i
    · subst h1
      have e1 : (k * 6 + 5) % 6 = 5 := by omega
      have e2 : k * 6 + 5 < (k + 1) * 6 := by omega
      simp [flK, h18, e1, e2]
    · by_cases h0 : k * 6 + 4 = i
      · subst h0
        have e1 : (k * 6 + 4) % 6 = 4 := by omega
        have e2 : k * 6 + 4 < (k + 1) * 6 := by omega
        rw [if_neg h1]
        simp [flK, h18, e1, e2]
      · rw [if_neg h1, if_neg h0]
        simp only [flK, List.getElem?_map, List.getElem?_range h18, Option.map_some]
        by_cases h2 : i < k * 6
        · simp only [h2, show i < (k + 1) * 6 by omega, if_true]
        · rw [if_neg h2]
          by_cases h3 : i < (k + 1) * 6
          · rw [if_pos h3, if_neg (by omega), if_neg (by omega)]
          · rw [if_neg h3]
  · have e1 : (flK t u v k)[i]? = none := by rw [List.getElem?_eq_none]; rw [flK_len]; omega
    have e2 : (flK t u v (k + 1))[i]? = none := by rw [List.getElem?_eq_none]; rw [flK_len]; omega
    rw [if_neg (by omega), if_neg (by omega), e1, e2]
theorem one_of (t : List Int) (u v : Int) : One (flK t u v 3) u v := by
  constructor <;> (rw [g_flK _ _ _ _ _ (by omega)]; first | (rw [if_pos (by omega), if_pos (by omega)]; done) | (rw [if_pos (by omega), if_neg (by omega), if_pos (by omega)]; done))
theorem g_mem {t : List Int} {i : Nat} (h : i < t.length) : g t i ∈ t := by
  unfold g
  rw [List.getD_eq_getElem?_getD, List.getElem?_eq_getElem h]
  exact List.getElem_mem _
theorem flK_wf {t : List Int} {u v : Int} (hl : t.length = 18) (hw : ∀ x ∈ t, (Lit.int .i64 x).wf = true) (hu : (Lit.int .i64 u).wf = true) (hv : (Lit.int .i64 v).wf = true) (k : Nat) : ∀ x ∈ flK t u v k, (Lit.int .i64 x).wf = true := by
  intro x hx
  simp only [flK, List.mem_map, List.mem_range] at hx
  obtain ⟨i, hi, rfl⟩ := hx
  have := hw _ (g_mem (t := t) (i := i) (by omega))
  split
  · split
    · exact hu
    · split
      · exact hv
      · exact this
  · exact this

set_option maxHeartbeats 4000000 in
theorem flat_gen (t : List Int) (hl : t.length = 18) (hw : ∀ x ∈ t, (Lit.int .i64 x).wf = true) (u v px py : Int) (w : World) :
    Calls Try.prog 5 #[.agg (cs .i64 t), .int .i64 u, .int .i64 v, .int .i64 px, .int .i64 py] w fun e w' => e = .returned (.bool true) ∧ Below w.heap.size w w' := by
  have HW := Lib.hid hw
  clear hw
  have L1 := Below.refl w.heap.size w
  go_enter Try.func5, Try.ntmps5
  by_cases h0 : u < -134217728
  · have d0 : decide (u < -134217728) = true := by simpa using h0
    clear h0
    go_wp2_with fail
    refine (awake_any _).mono ?_
    rintro e w9 ⟨rfl, hb⟩
    have L9 : Below w.heap.size w w9 := by repeat' (first | (with_reducible exact Below.refl _ _) | (with_reducible refine Rd.below_step ?_ (by assumption)) | (with_reducible refine Rd.below_alloc ?_ _) | (with_reducible refine Rd.below_drewN ?_ _) | (with_reducible refine Below.drew ?_) | (with_reducible refine Below.setCell ?_ ?_ _) | (with_reducible refine Rd.below_setRow ?_ ?_ _) | go_size | (simp only [World.size_alloc]; omega) | omega)
    clear hb
    go_wp2
    go_ret
    exact ⟨rfl, L9⟩
  have d0 : decide (u < -134217728) = false := by simpa using h0
  have H0 := Lib.hid h0
  clear h0
  by_cases h1 : 134217728 < u
  · have d1 : decide (134217728 < u) = true := by simpa using h1
    clear h1
    go_wp2_with fail
    refine (awake_any _).mono ?_
    rintro e w9 ⟨rfl, hb⟩
    have L9 : Below w.heap.size w w9 := by repeat' (first | (with_reducible exact Below.refl _ _) | (with_reducible refine Rd.below_step ?_ (by assumption)) | (with_reducible refine Rd.below_alloc ?_ _) | (with_reducible refine Rd.below_drewN ?_ _) | (with_reducible refine Below.drew ?_) | (with_reducible refine Below.setCell ?_ ?_ _) | (with_reducible refine Rd.below_setRow ?_ ?_ _) | go_size | (simp only [World.size_alloc]; omega) | omega)
    clear hb
    go_wp2
    go_ret
    exact ⟨rfl, L9⟩
  have d1 : decide (134217728 < u) = false := by simpa using h1
  have H1 := Lib.hid h1
  clear h1
  by_cases h2 : v < -134217728
  · have d2 : decide (v < -134217728) = true := by simpa using h2
    clear h2
    go_wp2_with fail
    refine (awake_any _).mono ?_
    rintro e w9 ⟨rfl, hb⟩
    have L9 : Below w.heap.size w w9 := by repeat' (first | (with_reducible exact Below.refl _ _) | (with_reducible refine Rd.below_step ?_ (by assumption)) | (with_reducible refine Rd.below_alloc ?_ _) | (with_reducible refine Rd.below_drewN ?_ _) | (with_reducible refine Below.drew ?_) | (with_reducible refine Below.setCell ?_ ?_ _) | (with_reducible refine Rd.below_setRow ?_ ?_ _) | go_size | (simp only [World.size_alloc]; omega) | omega)
    clear hb
    go_wp2
    go_ret
    exact ⟨rfl, L9⟩
  have d2 : decide (v < -134217728) = false := by simpa using h2
  have H2 := Lib.hid h2
  clear h2
  by_cases h3 : 134217728 < v
  · have d3 : decide (134217728 < v) = true := by simpa using h3
    clear h3
    go_wp2_with fail
    refine (awake_any _).mono ?_
    rintro e w9 ⟨rfl, hb⟩
    have L9 : Below w.heap.size w w9 := by repeat' (first | (with_reducible exact Below.refl _ _) | (with_reducible refine Rd.below_step ?_ (by assumption)) | (with_reducible refine Rd.below_alloc ?_ _) | (with_reducible refine Rd.below_drewN ?_ _) | (with_reducible refine Below.drew ?_) | (with_reducible refine Below.setCell ?_ ?_ _) | (with_reducible refine Rd.below_setRow ?_ ?_ _) | go_size | (simp only [World.size_alloc]; omega) | omega)
    clear hb
    go_wp2
    go_ret
    exact ⟨rfl, L9⟩
  have d3 : decide (134217728 < v) = false := by simpa using h3
  have H3 := Lib.hid h3
  clear h3
  by_cases h4 : px < 0
  · have d4 : decide (px < 0) = true := by simpa using h4
    clear h4
    go_wp2_with fail
    refine (awake_any _).mono ?_
    rintro e w9 ⟨rfl, hb⟩
    have L9 : Below w.heap.size w w9 := by repeat' (first | (with_reducible exact Below.refl _ _) | (with_reducible refine Rd.below_step ?_ (by assumption)) | (with_reducible refine Rd.below_alloc ?_ _) | (with_reducible refine Rd.below_drewN ?_ _) | (with_reducible refine Below.drew ?_) | (with_reducible refine Below.setCell ?_ ?_ _) | (with_reducible refine Rd.below_setRow ?_ ?_ _) | go_size | (simp only [World.size_alloc]; omega) | omega)
    clear hb
    go_wp2
    go_ret
    exact ⟨rfl, L9⟩
  have d4 : decide (px < 0) = false := by simpa using h4
  have H4 := Lib.hid h4
  clear h4
  by_cases h5 : 31 < px
  · have d5 : decide (31 < px) = true := by simpa using h5
    clear h5
    go_wp2_with fail
    refine (awake_any _).mono ?_
    rintro e w9 ⟨rfl, hb⟩
    have L9 : Below w.heap.size w w9 := by repeat' (first | (with_reducible exact Below.refl _ _) | (with_reducible refine Rd.below_step ?_ (by assumption)) | (with_reducible refine Rd.below_alloc ?_ _) | (with_reducible refine Rd.below_drewN ?_ _) | (with_reducible refine Below.drew ?_) | (with_reducible refine Below.setCell ?_ ?_ _) | (with_reducible refine Rd.below_setRow ?_ ?_ _) | go_size | (simp only [World.size_alloc]; omega) | omega)
    clear hb
    go_wp2
    go_ret
    exact ⟨rfl, L9⟩
  have d5 : decide (31 < px) = false := by simpa using h5
  have H5 := Lib.hid h5
  clear h5
  by_cases h6 : py < 0
  · have d6 : decide (py < 0) = true := by simpa using h6
    clear h6
    go_wp2_with fail
    refine (awake_any _).mono ?_
    rintro e w9 ⟨rfl, hb⟩
    have L9 : Below w.heap.size w w9 := by repeat' (first | (with_reducible exact Below.refl _ _) | (with_reducible refine Rd.below_step ?_ (by assumption)) | (with_reducible refine Rd.below_alloc ?_ _) | (with_reducible refine Rd.below_drewN ?_ _) | (with_reducible refine Below.drew ?_) | (with_reducible refine Below.setCell ?_ ?_ _) | (with_reducible refine Rd.below_setRow ?_ ?_ _) | go_size | (simp only [World.size_alloc]; omega) | omega)
    clear hb
    go_wp2
    go_ret
    exact ⟨rfl, L9⟩
  have d6 : decide (py < 0) = false := by simpa using h6
  have H6 := Lib.hid h6
  clear h6
  by_cases h7 : 31 < py
  · have d7 : decide (31 < py) = true := by simpa using h7
    clear h7
    go_wp2_with fail
    refine (awake_any _).mono ?_
    rintro e w9 ⟨rfl, hb⟩
    have L9 : Below w.heap.size w w9 := by repeat' (first | (with_reducible exact Below.refl _ _) | (with_reducible refine Rd.below_step ?_ (by assumption)) | (with_reducible refine Rd.below_alloc ?_ _) | (with_reducible refine Rd.below_drewN ?_ _) | (with_reducible refine Below.drew ?_) | (with_reducible refine Below.setCell ?_ ?_ _) | (with_reducible refine Rd.below_setRow ?_ ?_ _) | go_size | (simp only [World.size_alloc]; omega) | omega)
    clear hb
    go_wp2
    go_ret
    exact ⟨rfl, L9⟩
  have d7 : decide (31 < py) = false := by simpa using h7
  have H7 := Lib.hid h7
  clear h7
  have hpx : P31 px := by
    have := H4.out
    have := H5.out
    omega
  have hpy : P31 py := by
    have := H6.out
    have := H7.out
    omega
  have hu : Hid ((Lit.int .i64 u).wf = true) := by
    have := H0.out
    have := H1.out
    exact wf_mk (by omega) (by omega)
  have hv : Hid ((Lit.int .i64 v).wf = true) := by
    have := H2.out
    have := H3.out
    exact wf_mk (by omega) (by omega)
  clear H0 H1 H2 H3 H4 H5 H6 H7
  go_wp2_with fail
  clear d0 d1 d2 d3 d4 d5 d6 d7
  go_loopw [11] (fun i wr => ∃ k : Nat, k ≤ 3 ∧ i = .int .i64 k ∧ Below w.heap.size w wr ∧ blk wr w.heap.size = some (.cells (cs .i64 (flK t u v k)) 24 (0, 0)) ∧ w.heap.size < wr.heap.size) (fun i _ => 3 - (intOf i).toNat)
  case atStart => exact ⟨0, by omega, rfl, by repeat' (first | (with_reducible exact Below.refl _ _) | (with_reducible refine Rd.below_step ?_ (by assumption)) | (with_reducible refine Rd.below_alloc ?_ _) | (with_reducible refine Rd.below_drewN ?_ _) | (with_reducible refine Below.drew ?_) | (with_reducible refine Below.setCell ?_ ?_ _) | (with_reducible refine Rd.below_setRow ?_ ?_ _) | go_size | (simp only [World.size_alloc]; omega) | omega), by rw [flK_0 _ _ _ hl]; exact blk_alloc_at _ _ _ rfl, by simp⟩
  case round =>
    obtain ⟨k, hk, rfl, hb, HB, hk1⟩ := hrel
    by_cases hlt : k < 3
    · have o0 : wr.cell? ⟨w.heap.size, k * 6 + 4, none⟩ = some (.int .i64 (g (flK t u v k) (k * 6 + 4))) := by rw [blk_cell HB]; exact cs_at (at_of (l := flK t u v k) (by rw [flK_len]; omega))
      have o1 : wr.cell? ⟨w.heap.size, k * 6 + 5, none⟩ = some (.int .i64 (g (flK t u v k) (k * 6 + 5))) := by rw [blk_cell HB]; exact cs_at (at_of (l := flK t u v k) (by rw [flK_len]; omega))
      have f0 : wr.frozen? ⟨w.heap.size, k * 6 + 4, none⟩ = false := blk_frozen HB _
      have f1 : wr.frozen? ⟨w.heap.size, k * 6 + 5, none⟩ = false := blk_frozen HB _
      have HB' := Lib.hid HB
      clear HB
      go_wp2
      refine ⟨⟨k + 1, by omega, by go_num, by repeat' (first | (with_reducible exact Below.refl _ _) | (with_reducible refine Rd.below_step ?_ (by assumption)) | (with_reducible refine Rd.below_alloc ?_ _) | (with_reducible refine Rd.below_drewN ?_ _) | (with_reducible refine Below.drew ?_) | (with_reducible refine Below.setCell ?_ ?_ _) | (with_reducible refine Rd.below_setRow ?_ ?_ _) | go_size | (simp only [World.size_alloc]; omega) | omega), ?_, by simpa using hk1⟩, by simp [intOf]; omega⟩
      rw [blk_set _ _ _ _ _ _ (blk_set _ _ _ _ _ _ HB'.out), set_cs, set_cs, flK_set _ _ _ _ hlt]
    · obtain rfl : k = 3 := by omega
      have mo := flK_len t u v 3
      have o := Lib.hid (one_of t u v)
      clear L1
      go_wp2_with fail
      refine (may_any _ mo (flK_wf hl HW.out hu.out hv.out 3) _).mono ?_
      rintro e w1 ⟨he, hb1⟩
      have hs1 := hb1.size
      have b1 := (blk_below hb1 _ hk1).trans HB
      have L1 : Below w.heap.size w w1 := by repeat' (first | (with_reducible exact Below.refl _ _) | (with_reducible refine Rd.below_step ?_ (by assumption)) | (with_reducible refine Rd.below_alloc ?_ _) | (with_reducible refine Rd.below_drewN ?_ _) | (with_reducible refine Below.drew ?_) | (with_reducible refine Below.setCell ?_ ?_ _) | (with_reducible refine Rd.below_setRow ?_ ?_ _) | go_size | (simp only [World.size_alloc]; omega) | omega)
      have k1 : w.heap.size < w1.heap.size := by omega
      clear hb1 hb HB
      rcases he with rfl | ⟨rfl, ht, ha⟩
      · go_wp2_with fail
        refine (awake_any _).mono ?_
        rintro e w9 ⟨rfl, hb⟩
        have L9 : Below w.heap.size w w9 := by repeat' (first | (with_reducible exact Below.refl _ _) | (with_reducible refine Rd.below_step ?_ (by assumption)) | (with_reducible refine Rd.below_alloc ?_ _) | (with_reducible refine Rd.below_drewN ?_ _) | (with_reducible refine Below.drew ?_) | (with_reducible refine Below.setCell ?_ ?_ _) | (with_reducible refine Rd.below_setRow ?_ ?_ _) | go_size | (simp only [World.size_alloc]; omega) | omega)
        clear hb
        go_wp2
        go_ret
        exact ⟨rfl, L9⟩
      have HT := Lib.hid ht
      have HA := Lib.hid ha
      clear ht ha
      go_wp2_with fail
      refine (covers_any _ HT.out HA.out px py hpx hpy _).mono ?_
      rintro e w2 ⟨he, hb2⟩
      have hs2 := hb2.size
      have b2 := (blk_below hb2 _ k1).trans b1
      have L2 : Below w.heap.size w w2 := by repeat' (first | (with_reducible exact Below.refl _ _) | (with_reducible refine Rd.below_step ?_ (by assumption)) | (with_reducible refine Rd.below_alloc ?_ _) | (with_reducible refine Rd.below_drewN ?_ _) | (with_reducible refine Below.drew ?_) | (with_reducible refine Below.setCell ?_ ?_ _) | (with_reducible refine Rd.below_setRow ?_ ?_ _) | go_size | (simp only [World.size_alloc]; omega) | omega)
      have k2 : w.heap.size < w2.heap.size := by omega
      clear hb2 b1 L1
      rcases he with rfl | ⟨rfl, e0, e1, e2⟩
      · go_wp2_with fail
        refine (awake_any _).mono ?_
        rintro e w9 ⟨rfl, hb⟩
        have L9 : Below w.heap.size w w9 := by repeat' (first | (with_reducible exact Below.refl _ _) | (with_reducible refine Rd.below_step ?_ (by assumption)) | (with_reducible refine Rd.below_alloc ?_ _) | (with_reducible refine Rd.below_drewN ?_ _) | (with_reducible refine Below.drew ?_) | (with_reducible refine Below.setCell ?_ ?_ _) | (with_reducible refine Rd.below_setRow ?_ ?_ _) | go_size | (simp only [World.size_alloc]; omega) | omega)
        clear hb
        go_wp2
        go_ret
        exact ⟨rfl, L9⟩
      have m1 := mid_bd hpx.1 hpx.2
      have m2 := mid_bd hpy.1 hpy.2
      have hin := in_sm ⟨HT.out, HA.out, (by omega : Pt (mid px)), (by omega : Pt (mid py)), e0, e1, e2⟩
      have C1 : Hid (∀ w : World, Calls Try.prog 12 #[.agg (cs .i64 (flK t u v 3)), .int .i64 px, .int .i64 py] w fun e w' => e = .returned (.tuple #[.int .i64 (zV (flK t u v 3) (mid px) (mid py)), .int .i64 u, .int .i64 v]) ∧ Below w.heap.size w w') := fun w => by
        have := At_any _ HT.out HA.out px py hpx hpy w
        rw [one_u o.out, one_v o.out, if_neg (by omega), if_neg (by omega)] at this
        exact this
      have C2 : Hid (∀ w : World, Calls Try.prog 14 #[.agg (cs .i64 (flK t u v 3)), .int .i64 px, .int .i64 py] w fun e w' => e = .returned (.tuple #[.int .i64 0, .int .i64 0, .int .i64 0, .int .i64 0]) ∧ Below w.heap.size w w') := fun w => by
        have := slopes_any _ HT.out px py hpx hpy w
        unfold ux vx uy vy at this
        rw [one_slu o.out _ _ _ _ hin, one_slv o.out _ _ _ _ hin, one_slu o.out _ _ _ _ hin, one_slv o.out _ _ _ _ hin] at this
        exact this
      clear m1 m2 hin e0 e1 e2 o
      go_wp2_with fail
      refine (C1.out _).mono ?_
      rintro e w3 ⟨rfl, hb3⟩
      have hs3 := hb3.size
      simp only [World.size_alloc] at hs3
      have b3 := (blk_below hb3 _ (by first | omega | (simp only [World.size_alloc]; omega))).trans ((blk_alloc_old _ _ _ k2).trans b2)
      have L3 : Below w.heap.size w w3 := by repeat' (first | (with_reducible exact Below.refl _ _) | (with_reducible refine Rd.below_step ?_ (by assumption)) | (with_reducible refine Rd.below_alloc ?_ _) | (with_reducible refine Rd.below_drewN ?_ _) | (with_reducible refine Below.drew ?_) | (with_reducible refine Below.setCell ?_ ?_ _) | (with_reducible refine Rd.below_setRow ?_ ?_ _) | go_size | (simp only [World.size_alloc]; omega) | omega)
      clear hb3 b2 L2
      go_wp2_with fail
      refine (C2.out _).mono ?_
      rintro e w4 ⟨rfl, hb4⟩
      have L4 : Below w.heap.size w w4 := by repeat' (first | (with_reducible exact Below.refl _ _) | (with_reducible refine Rd.below_step ?_ (by assumption)) | (with_reducible refine Rd.below_alloc ?_ _) | (with_reducible refine Rd.below_drewN ?_ _) | (with_reducible refine Below.drew ?_) | (with_reducible refine Below.setCell ?_ ?_ _) | (with_reducible refine Rd.below_setRow ?_ ?_ _) | go_size | (simp only [World.size_alloc]; omega) | omega)
      clear hb4 b3 L3
      go_wp2_with fail
      refine (awake_any _).mono ?_
      rintro e w9 ⟨rfl, hb⟩
      have L9 : Below w.heap.size w w9 := by repeat' (first | (with_reducible exact Below.refl _ _) | (with_reducible refine Rd.below_step ?_ (by assumption)) | (with_reducible refine Rd.below_alloc ?_ _) | (with_reducible refine Rd.below_drewN ?_ _) | (with_reducible refine Below.drew ?_) | (with_reducible refine Below.setCell ?_ ?_ _) | (with_reducible refine Rd.below_setRow ?_ ?_ _) | go_size | (simp only [World.size_alloc]; omega) | omega)
      clear hb
      go_wp2
      go_ret
      exact ⟨rfl, L9⟩
end Go.Proofs.Ytjbmochndpdolaa.TriM
