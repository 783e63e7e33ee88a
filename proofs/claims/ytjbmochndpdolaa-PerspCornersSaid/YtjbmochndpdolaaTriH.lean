/-
  What the document fixes ('awake'); PerspTells.
-/
import Derived.Test.YtjbmochndpdolaaTriG
import Derived.BigGuard
namespace Go.Proofs.Ytjbmochndpdolaa.TriH
open Go.RowKit FixA Num Rd Go.Proofs.Ytjbmochndpdolaa.Row TriA TriB TriC TriD TriE TriF TriG
set_option linter.unusedVariables false
set_option linter.unusedSimpArgs false
set_option maxRecDepth 10000
attribute [local go_sem ↓] load_tri store_tri load_w3 store_w3 load_spot load_pl store_pl
attribute [local go_sem] one_int one_bool run_load_pl run_store_pl run_load_spot run_load_tri run_load_w3 run_store_tri run_store_w3 rowLoad_eq rowStore_eq midLoad_eq ext0 ext1 ext2 blk_alloc_at blk_alloc_old blk_drew blk_drewN blk_set_far blk_set_far' blk_grow setRow_alloc_at setRow_alloc_old setRow_drew setRow_drewN all_map
attribute [local go_sem high] run_maxT run_minT

theorem eq_w3 (xs ys : List Int) (hx : xs.length = 3) (hy : ys.length = 3) (d : Nat) (w : World) : (Op.equalIn (d + 2) 27 (.agg (cs .i64 xs)) (.agg (cs .i64 ys))).run Try.prog w = .ok (decide (xs = ys)) w := by
  rw [Eq.run_equalIn_ints (P := Try.prog) w d 27 3 .i64 3 xs ys hx hy Try.underlying27 Try.underlying3 (fun _ => Try.isAgg3 _) (fun _ => Try.sizeOf3 _), Eq.all_decide xs ys hx hy]
theorem eq_w3_lit (xs : List Int) (b0 b1 b2 : Int) (hx : xs.length = 3) (d : Nat) (w : World) : (Op.equalIn (d + 2) 27 (.agg (cs .i64 xs)) (.agg #[.int .i64 b0, .int .i64 b1, .int .i64 b2])).run Try.prog w = .ok (decide (xs = [b0, b1, b2])) w :=
  eq_w3 xs [b0, b1, b2] hx rfl d w
theorem wV_len (t : List Int) (x y : Int) : (wV t x y).1.length = 3 := by unfold wV; split <;> rfl
attribute [local go_sem] eq_w3 eq_w3_lit

/-! awake -/
def TA : List Int := [0, 0, 0, 65536, 0, 0, 2560, 0, 1000, 65536, 655360, 0, 0, 2560, 0, 65536, 0, 655360]
theorem ta : Tri TA := ⟨rfl, ⟨by decide, by decide, by decide, by decide, by decide, by decide, by decide, by decide, by decide, by decide, by decide, by decide⟩, ⟨by decide, by decide, by decide, by decide, by decide, by decide, by decide, by decide, by decide, by decide, by decide, by decide⟩, ⟨by decide, by decide, by decide, by decide, by decide, by decide, by decide, by decide, by decide, by decide, by decide, by decide⟩⟩
theorem ta_area : 1 ≤ area TA := by decide
theorem ta_w : wV TA 0 0 = ([65536, 0, 0], true) := by decide +kernel
theorem ta_z : zV TA (mid 1) (mid 2) = 150 := by decide +kernel
theorem ta_u : atU TA (mid 1) (mid 2) = 98300 := by decide +kernel
theorem ta_v : atW TA (mid 1) (mid 2) = 163850 := by decide +kernel
theorem ta_ux : ux TA 1 2 = 65540 := by decide +kernel
theorem ta_vx : vx TA 1 2 = -10 := by decide +kernel
theorem ta_uy : uy TA 1 2 = 0 := by decide +kernel
theorem ta_vy : vy TA 1 2 = 65530 := by decide +kernel
theorem aw_w (w : World) : Calls Try.prog 10 #[.agg (cs .i64 TA), .int .i64 0, .int .i64 0] w fun e w' => e = .returned (.tuple #[.agg (cs .i64 [65536, 0, 0]), .bool true]) ∧ Below w.heap.size w w' := by
  have := weights_any TA ta 0 0 (by omega) (by omega) w
  rw [ta_w] at this; exact this
theorem aw_at (w : World) : Calls Try.prog 12 #[.agg (cs .i64 TA), .int .i64 1, .int .i64 2] w fun e w' => e = .returned (.tuple #[.int .i64 150, .int .i64 98300, .int .i64 163850]) ∧ Below w.heap.size w w' := by
  have := At_any TA ta ta_area 1 2 (by omega) (by omega) w
  rw [ta_z, ta_u, ta_v] at this; exact this
theorem aw_sl (w : World) : Calls Try.prog 14 #[.agg (cs .i64 TA), .int .i64 1, .int .i64 2] w fun e w' => e = .returned (.tuple #[.int .i64 65540, .int .i64 (-10), .int .i64 0, .int .i64 65530]) ∧ Below w.heap.size w w' := by
  have := slopes_any TA ta 1 2 (by omega) (by omega) w
  rw [ta_ux, ta_vx, ta_uy, ta_vy] at this; exact this
set_option maxHeartbeats 2000000 in
theorem awake_any (w : World) : Calls Try.prog 9 #[] w fun e w' => e = .returned (.bool true) ∧ Below w.heap.size w w' := by
  go_enter Try.func9, Try.ntmps9
  go_wp2_with fail
  refine (aw_w _).mono ?_
  rintro e w1 ⟨rfl, hb⟩
  have hs := hb.size
  simp only [World.size_alloc] at hs
  have b1 : blk w1 w.heap.size = some (.cells (cs .i64 TA) 24 (0, 0)) := (blk_below hb _ (by simp)).trans (by simp [blk_alloc_at, TA])
  have L1 : Below w.heap.size w w1 := by repeat' (first | (with_reducible exact Below.refl _ _) | (with_reducible refine Rd.below_step ?_ (by assumption)) | (with_reducible refine Rd.below_alloc ?_ _) | (with_reducible refine Rd.below_drewN ?_ _) | (with_reducible refine Below.drew ?_) | (with_reducible refine Below.setCell ?_ ?_ _) | (with_reducible refine Rd.below_setRow ?_ ?_ _) | go_size | (simp only [World.size_alloc]; omega) | omega)
  have k0 : w.heap.size < w1.heap.size := by omega
  clear hb
  have htl : TA.length = 18 := rfl
  go_wp2_with fail
  refine (aw_at _).mono ?_
  rintro e w2 ⟨rfl, hb⟩
  have hs2 := hb.size
  simp only [World.size_alloc] at hs2
  have b2 := (blk_below hb _ (by simp; omega)).trans ((blk_alloc_old _ _ _ k0).trans b1)
  have c2 : blk w2 w1.heap.size = some (.cells (cs .i64 [65536, 0, 0]) 27 (0, 0)) := (blk_below hb _ (by simp)).trans (blk_alloc_at _ _ _ rfl)
  have L2 : Below w.heap.size w w2 := by repeat' (first | (with_reducible exact Below.refl _ _) | (with_reducible refine Rd.below_step ?_ (by assumption)) | (with_reducible refine Rd.below_alloc ?_ _) | (with_reducible refine Rd.below_drewN ?_ _) | (with_reducible refine Below.drew ?_) | (with_reducible refine Below.setCell ?_ ?_ _) | (with_reducible refine Rd.below_setRow ?_ ?_ _) | go_size | (simp only [World.size_alloc]; omega) | omega)
  clear hb b1 L1
  go_wp2_with fail
  refine (aw_sl _).mono ?_
  rintro e w3 ⟨rfl, hb⟩
  have c3 := (blk_below hb _ (by omega)).trans c2
  have L3 : Below w.heap.size w w3 := by repeat' (first | (with_reducible exact Below.refl _ _) | (with_reducible refine Rd.below_step ?_ (by assumption)) | (with_reducible refine Rd.below_alloc ?_ _) | (with_reducible refine Rd.below_drewN ?_ _) | (with_reducible refine Below.drew ?_) | (with_reducible refine Below.setCell ?_ ?_ _) | (with_reducible refine Rd.below_setRow ?_ ?_ _) | go_size | (simp only [World.size_alloc]; omega) | omega)
  clear hb b2 c2 L2
  go_wp2
  go_ret
  exact ⟨rfl, by repeat' (first | (with_reducible exact Below.refl _ _) | (with_reducible refine Rd.below_step ?_ (by assumption)) | (with_reducible refine Rd.below_alloc ?_ _) | (with_reducible refine Rd.below_drewN ?_ _) | (with_reducible refine Below.drew ?_) | (with_reducible refine Below.setCell ?_ ?_ _) | (with_reducible refine Rd.below_setRow ?_ ?_ _) | go_size | (simp only [World.size_alloc]; omega) | omega)⟩

/-! PerspTells -/
set_option maxHeartbeats 4000000 in
theorem tells_gen (t : List Int) (hl : t.length = 18) (hw : ∀ x ∈ t, (Lit.int .i64 x).wf = true) (x y px py : Int) (w : World) :
    Calls Try.prog 3 #[.agg (cs .i64 t), .int .i64 x, .int .i64 y, .int .i64 px, .int .i64 py] w fun e w' => e = .returned (.bool true) ∧ Below w.heap.size w w' := by
  go_enter Try.func3, Try.ntmps3
  go_wp2_with fail
  refine (may_any t hl hw _).mono ?_
  rintro e w1 ⟨he, hb⟩
  have hs := hb.size
  simp only [World.size_alloc] at hs
  have b1 : blk w1 w.heap.size = some (.cells (cs .i64 t) 24 (0, 0)) := (blk_below hb _ (by simp)).trans (by simp [blk_alloc_at])
  have L1 : Below w.heap.size w w1 := by repeat' (first | (with_reducible exact Below.refl _ _) | (with_reducible refine Rd.below_step ?_ (by assumption)) | (with_reducible refine Rd.below_alloc ?_ _) | (with_reducible refine Rd.below_drewN ?_ _) | (with_reducible refine Below.drew ?_) | (with_reducible refine Below.setCell ?_ ?_ _) | (with_reducible refine Rd.below_setRow ?_ ?_ _) | go_size | (simp only [World.size_alloc]; omega) | omega)
  have k0 : w.heap.size < w1.heap.size := by omega
  clear hb
  rcases he with rfl | ⟨rfl, ht, ha⟩
  · go_wp2_with fail
    refine (awake_any _).mono ?_
    rintro e w2 ⟨rfl, hb⟩
    have L2 : Below w.heap.size w w2 := by repeat' (first | (with_reducible exact Below.refl _ _) | (with_reducible refine Rd.below_step ?_ (by assumption)) | (with_reducible refine Rd.below_alloc ?_ _) | (with_reducible refine Rd.below_drewN ?_ _) | (with_reducible refine Below.drew ?_) | (with_reducible refine Below.setCell ?_ ?_ _) | (with_reducible refine Rd.below_setRow ?_ ?_ _) | go_size | (simp only [World.size_alloc]; omega) | omega)
    clear hb L1
    go_wp2
    go_ret
    exact ⟨rfl, L2⟩
  have HT := Lib.hid ht
  have HA := Lib.hid ha
  clear ht ha
  by_cases h0 : x < -1024
  · have d0 : decide (x < -1024) = true := by simpa using h0
    clear h0
    go_wp2_with fail
    refine (awake_any _).mono ?_
    rintro e w2 ⟨rfl, hb⟩
    have L2 : Below w.heap.size w w2 := by repeat' (first | (with_reducible exact Below.refl _ _) | (with_reducible refine Rd.below_step ?_ (by assumption)) | (with_reducible refine Rd.below_alloc ?_ _) | (with_reducible refine Rd.below_drewN ?_ _) | (with_reducible refine Below.drew ?_) | (with_reducible refine Below.setCell ?_ ?_ _) | (with_reducible refine Rd.below_setRow ?_ ?_ _) | go_size | (simp only [World.size_alloc]; omega) | omega)
    clear hb L1
    go_wp2
    go_ret
    exact ⟨rfl, L2⟩
  have d0 : decide (x < -1024) = false := by simpa using h0
  have H0 := Lib.hid h0
  clear h0
  by_cases h1 : 32768 < x
  · have d1 : decide (32768 < x) = true := by simpa using h1
    clear h1
    go_wp2_with fail
    refine (awake_any _).mono ?_
    rintro e w2 ⟨rfl, hb⟩
    have L2 : Below w.heap.size w w2 := by repeat' (first | (with_reducible exact Below.refl _ _) | (with_reducible refine Rd.below_step ?_ (by assumption)) | (with_reducible refine Rd.below_alloc ?_ _) | (with_reducible refine Rd.below_drewN ?_ _) | (with_reducible refine Below.drew ?_) | (with_reducible refine Below.setCell ?_ ?_ _) | (with_reducible refine Rd.below_setRow ?_ ?_ _) | go_size | (simp only [World.size_alloc]; omega) | omega)
    clear hb L1
    go_wp2
    go_ret
    exact ⟨rfl, L2⟩
  have d1 : decide (32768 < x) = false := by simpa using h1
  have H1 := Lib.hid h1
  clear h1
  by_cases h2 : y < -1024
  · have d2 : decide (y < -1024) = true := by simpa using h2
    clear h2
    go_wp2_with fail
    refine (awake_any _).mono ?_
    rintro e w2 ⟨rfl, hb⟩
    have L2 : Below w.heap.size w w2 := by repeat' (first | (with_reducible exact Below.refl _ _) | (with_reducible refine Rd.below_step ?_ (by assumption)) | (with_reducible refine Rd.below_alloc ?_ _) | (with_reducible refine Rd.below_drewN ?_ _) | (with_reducible refine Below.drew ?_) | (with_reducible refine Below.setCell ?_ ?_ _) | (with_reducible refine Rd.below_setRow ?_ ?_ _) | go_size | (simp only [World.size_alloc]; omega) | omega)
    clear hb L1
    go_wp2
    go_ret
    exact ⟨rfl, L2⟩
  have d2 : decide (y < -1024) = false := by simpa using h2
  have H2 := Lib.hid h2
  clear h2
  by_cases h3 : 32768 < y
  · have d3 : decide (32768 < y) = true := by simpa using h3
    clear h3
    go_wp2_with fail
    refine (awake_any _).mono ?_
    rintro e w2 ⟨rfl, hb⟩
    have L2 : Below w.heap.size w w2 := by repeat' (first | (with_reducible exact Below.refl _ _) | (with_reducible refine Rd.below_step ?_ (by assumption)) | (with_reducible refine Rd.below_alloc ?_ _) | (with_reducible refine Rd.below_drewN ?_ _) | (with_reducible refine Below.drew ?_) | (with_reducible refine Below.setCell ?_ ?_ _) | (with_reducible refine Rd.below_setRow ?_ ?_ _) | go_size | (simp only [World.size_alloc]; omega) | omega)
    clear hb L1
    go_wp2
    go_ret
    exact ⟨rfl, L2⟩
  have d3 : decide (32768 < y) = false := by simpa using h3
  have H3 := Lib.hid h3
  clear h3
  by_cases h4 : px < 0
  · have d4 : decide (px < 0) = true := by simpa using h4
    clear h4
    go_wp2_with fail
    refine (awake_any _).mono ?_
    rintro e w2 ⟨rfl, hb⟩
    have L2 : Below w.heap.size w w2 := by repeat' (first | (with_reducible exact Below.refl _ _) | (with_reducible refine Rd.below_step ?_ (by assumption)) | (with_reducible refine Rd.below_alloc ?_ _) | (with_reducible refine Rd.below_drewN ?_ _) | (with_reducible refine Below.drew ?_) | (with_reducible refine Below.setCell ?_ ?_ _) | (with_reducible refine Rd.below_setRow ?_ ?_ _) | go_size | (simp only [World.size_alloc]; omega) | omega)
    clear hb L1
    go_wp2
    go_ret
    exact ⟨rfl, L2⟩
  have d4 : decide (px < 0) = false := by simpa using h4
  have H4 := Lib.hid h4
  clear h4
  by_cases h5 : 31 < px
  · have d5 : decide (31 < px) = true := by simpa using h5
    clear h5
    go_wp2_with fail
    refine (awake_any _).mono ?_
    rintro e w2 ⟨rfl, hb⟩
    have L2 : Below w.heap.size w w2 := by repeat' (first | (with_reducible exact Below.refl _ _) | (with_reducible refine Rd.below_step ?_ (by assumption)) | (with_reducible refine Rd.below_alloc ?_ _) | (with_reducible refine Rd.below_drewN ?_ _) | (with_reducible refine Below.drew ?_) | (with_reducible refine Below.setCell ?_ ?_ _) | (with_reducible refine Rd.below_setRow ?_ ?_ _) | go_size | (simp only [World.size_alloc]; omega) | omega)
    clear hb L1
    go_wp2
    go_ret
    exact ⟨rfl, L2⟩
  have d5 : decide (31 < px) = false := by simpa using h5
  have H5 := Lib.hid h5
  clear h5
  by_cases h6 : py < 0
  · have d6 : decide (py < 0) = true := by simpa using h6
    clear h6
    go_wp2_with fail
    refine (awake_any _).mono ?_
    rintro e w2 ⟨rfl, hb⟩
    have L2 : Below w.heap.size w w2 := by repeat' (first | (with_reducible exact Below.refl _ _) | (with_reducible refine Rd.below_step ?_ (by assumption)) | (with_reducible refine Rd.below_alloc ?_ _) | (with_reducible refine Rd.below_drewN ?_ _) | (with_reducible refine Below.drew ?_) | (with_reducible refine Below.setCell ?_ ?_ _) | (with_reducible refine Rd.below_setRow ?_ ?_ _) | go_size | (simp only [World.size_alloc]; omega) | omega)
    clear hb L1
    go_wp2
    go_ret
    exact ⟨rfl, L2⟩
  have d6 : decide (py < 0) = false := by simpa using h6
  have H6 := Lib.hid h6
  clear h6
  by_cases h7 : 31 < py
  · have d7 : decide (31 < py) = true := by simpa using h7
    clear h7
    go_wp2_with fail
    refine (awake_any _).mono ?_
    rintro e w2 ⟨rfl, hb⟩
    have L2 : Below w.heap.size w w2 := by repeat' (first | (with_reducible exact Below.refl _ _) | (with_reducible refine Rd.below_step ?_ (by assumption)) | (with_reducible refine Rd.below_alloc ?_ _) | (with_reducible refine Rd.below_drewN ?_ _) | (with_reducible refine Below.drew ?_) | (with_reducible refine Below.setCell ?_ ?_ _) | (with_reducible refine Rd.below_setRow ?_ ?_ _) | go_size | (simp only [World.size_alloc]; omega) | omega)
    clear hb L1
    go_wp2
    go_ret
    exact ⟨rfl, L2⟩
  have d7 : decide (31 < py) = false := by simpa using h7
  have H7 := Lib.hid h7
  clear h7
  have hx : Pt x := by
    have := H0.out
    have := H1.out
    omega
  have hy : Pt y := by
    have := H2.out
    have := H3.out
    omega
  have hpx : P31 px := by
    have := H4.out
    have := H5.out
    omega
  have hpy : P31 py := by
    have := H6.out
    have := H7.out
    omega
  have wl := wV_len t x y
  go_wp2_with fail
  refine (weights_any t HT.out x y hx hy _).mono ?_
  rintro e w2 ⟨rfl, hb⟩
  have hs2 := hb.size
  have b2 := (blk_below hb _ k0).trans b1
  have L2 : Below w.heap.size w w2 := by repeat' (first | (with_reducible exact Below.refl _ _) | (with_reducible refine Rd.below_step ?_ (by assumption)) | (with_reducible refine Rd.below_alloc ?_ _) | (with_reducible refine Rd.below_drewN ?_ _) | (with_reducible refine Below.drew ?_) | (with_reducible refine Below.setCell ?_ ?_ _) | (with_reducible refine Rd.below_setRow ?_ ?_ _) | go_size | (simp only [World.size_alloc]; omega) | omega)
  have k1 : w.heap.size < w2.heap.size := by omega
  clear hb b1 L1 d0 d1 d2 d3 d4 d5 d6 d7
  go_wp2_with fail
  refine (rweights_any t HT.out x y hx hy _).mono ?_
  rintro e w3 ⟨rfl, hb⟩
  have hs3 := hb.size
  simp only [World.size_alloc] at hs3
  have b3 := (blk_below hb _ (by simp; omega)).trans ((blk_alloc_old _ _ _ k1).trans b2)
  have c3 : blk w3 w2.heap.size = some (.cells (cs .i64 (wV t x y).1) 27 (0, 0)) := (blk_below hb _ (by simp)).trans (blk_alloc_at _ _ _ rfl)
  have L3 : Below w.heap.size w w3 := by repeat' (first | (with_reducible exact Below.refl _ _) | (with_reducible refine Rd.below_step ?_ (by assumption)) | (with_reducible refine Rd.below_alloc ?_ _) | (with_reducible refine Rd.below_drewN ?_ _) | (with_reducible refine Below.drew ?_) | (with_reducible refine Below.setCell ?_ ?_ _) | (with_reducible refine Rd.below_setRow ?_ ?_ _) | go_size | (simp only [World.size_alloc]; omega) | omega)
  have k2 : w.heap.size < w3.heap.size := by omega
  have k3 : w2.heap.size < w3.heap.size := by omega
  clear hb b2 L2
  go_wp2_with fail
  refine (At_any t HT.out HA.out px py hpx hpy _).mono ?_
  rintro e w4 ⟨rfl, hb⟩
  have hs4 := hb.size
  simp only [World.size_alloc] at hs4
  have b4 := (blk_below hb _ (by simp; omega)).trans ((blk_alloc_old _ _ _ k2).trans b3)
  have c4 := (blk_below hb _ (by simp; omega)).trans ((blk_alloc_old _ _ _ k3).trans c3)
  have e4 : blk w4 w3.heap.size = some (.cells (cs .i64 (wV t x y).1) 27 (0, 0)) := (blk_below hb _ (by simp)).trans (blk_alloc_at _ _ _ rfl)
  have L4 : Below w.heap.size w w4 := by repeat' (first | (with_reducible exact Below.refl _ _) | (with_reducible refine Rd.below_step ?_ (by assumption)) | (with_reducible refine Rd.below_alloc ?_ _) | (with_reducible refine Rd.below_drewN ?_ _) | (with_reducible refine Below.drew ?_) | (with_reducible refine Below.setCell ?_ ?_ _) | (with_reducible refine Rd.below_setRow ?_ ?_ _) | go_size | (simp only [World.size_alloc]; omega) | omega)
  clear hb b3 c3 L3
  go_wp2_with fail
  refine (rAt_any t HT.out HA.out px py hpx hpy _).mono ?_
  rintro e w5 ⟨rfl, hb⟩
  have hs5 := hb.size
  have b5 := (blk_below hb _ (by omega)).trans b4
  have c5 := (blk_below hb _ (by omega)).trans c4
  have e5 := (blk_below hb _ (by omega)).trans e4
  have L5 : Below w.heap.size w w5 := by repeat' (first | (with_reducible exact Below.refl _ _) | (with_reducible refine Rd.below_step ?_ (by assumption)) | (with_reducible refine Rd.below_alloc ?_ _) | (with_reducible refine Rd.below_drewN ?_ _) | (with_reducible refine Below.drew ?_) | (with_reducible refine Below.setCell ?_ ?_ _) | (with_reducible refine Rd.below_setRow ?_ ?_ _) | go_size | (simp only [World.size_alloc]; omega) | omega)
  clear hb b4 c4 e4 L4
  go_wp2_with fail
  refine (slopes_any t HT.out px py hpx hpy _).mono ?_
  rintro e w6 ⟨rfl, hb⟩
  have hs6 := hb.size
  have b6 := (blk_below hb _ (by omega)).trans b5
  have c6 := (blk_below hb _ (by omega)).trans c5
  have e6 := (blk_below hb _ (by omega)).trans e5
  have L6 : Below w.heap.size w w6 := by repeat' (first | (with_reducible exact Below.refl _ _) | (with_reducible refine Rd.below_step ?_ (by assumption)) | (with_reducible refine Rd.below_alloc ?_ _) | (with_reducible refine Rd.below_drewN ?_ _) | (with_reducible refine Below.drew ?_) | (with_reducible refine Below.setCell ?_ ?_ _) | (with_reducible refine Rd.below_setRow ?_ ?_ _) | go_size | (simp only [World.size_alloc]; omega) | omega)
  clear hb b5 c5 e5 L5
  go_wp2_with fail
  refine (rslopes_any t HT.out px py hpx hpy _).mono ?_
  rintro e w7 ⟨rfl, hb⟩
  have hs7 := hb.size
  have b7 := (blk_below hb _ (by omega)).trans b6
  have c7 := (blk_below hb _ (by omega)).trans c6
  have e7 := (blk_below hb _ (by omega)).trans e6
  have L7 : Below w.heap.size w w7 := by repeat' (first | (with_reducible exact Below.refl _ _) | (with_reducible refine Rd.below_step ?_ (by assumption)) | (with_reducible refine Rd.below_alloc ?_ _) | (with_reducible refine Rd.below_drewN ?_ _) | (with_reducible refine Below.drew ?_) | (with_reducible refine Below.setCell ?_ ?_ _) | (with_reducible refine Rd.below_setRow ?_ ?_ _) | go_size | (simp only [World.size_alloc]; omega) | omega)
  clear hb b6 c6 e6 L6
  go_wp2_with fail
  refine (awake_any _).mono ?_
  rintro e w8 ⟨rfl, hb⟩
  have L8 : Below w.heap.size w w8 := by repeat' (first | (with_reducible exact Below.refl _ _) | (with_reducible refine Rd.below_step ?_ (by assumption)) | (with_reducible refine Rd.below_alloc ?_ _) | (with_reducible refine Rd.below_drewN ?_ _) | (with_reducible refine Below.drew ?_) | (with_reducible refine Below.setCell ?_ ?_ _) | (with_reducible refine Rd.below_setRow ?_ ?_ _) | go_size | (simp only [World.size_alloc]; omega) | omega)
  clear hb L7
  go_wp2
  go_ret
  exact ⟨rfl, L8⟩
end Go.Proofs.Ytjbmochndpdolaa.TriH
