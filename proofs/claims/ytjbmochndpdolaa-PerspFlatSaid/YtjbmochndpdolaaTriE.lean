/-
  Depth and place at a pixel, how fast they go, both answers; which spots may be.
-/
import Derived.Test.YtjbmochndpdolaaTriD
namespace Go.Proofs.Ytjbmochndpdolaa.TriE
open Go.RowKit FixA Num Rd Go.Proofs.Ytjbmochndpdolaa.Row TriA TriB TriC TriD
set_option linter.unusedVariables false
set_option linter.unusedSimpArgs false
set_option maxRecDepth 10000
attribute [local go_sem ↓] load_tri store_tri load_w3 store_w3 load_spot load_pl store_pl
attribute [local go_sem] one_int one_bool run_load_pl run_store_pl run_load_spot run_load_tri run_load_w3 run_store_tri run_store_w3 rowLoad_eq rowStore_eq midLoad_eq ext0 ext1 ext2 blk_alloc_at blk_alloc_old blk_drew blk_drewN blk_set_far blk_set_far' blk_grow setRow_alloc_at setRow_alloc_old setRow_drew setRow_drewN
attribute [local go_sem high] run_maxT run_minT

def mid (p : Int) : Int := 256 * p + 128
theorem fold_mid (p : Int) : 256 * p + 128 = mid p := rfl
theorem mid_any (p : Int) (h0 : 0 ≤ p) (h1 : p ≤ 31) (w : World) :
    Calls Try.prog 27 #[.int .i64 p] w fun e w' => e = .returned (.int .i64 (mid p)) ∧ w = w' := middle_any p h0 h1 w
theorem mid_bd {p : Int} (h0 : 0 ≤ p) (h1 : p ≤ 31) : 128 ≤ mid p ∧ mid p ≤ 8064 := by unfold mid; omega
attribute [local go_sem] fold_mid

/-! How fast, one way -/
def sl (f : Int → Int → Int) (b : Int → Int → Bool) (x y dx dy : Int) : Int := slU (f (x - dx) (y - dy)) (f x y) (f (x + dx) (y + dy)) (b (x - dx) (y - dy)) (b x y) (b (x + dx) (y + dy))
set_option maxHeartbeats 1000000 in
theorem rslope_any (t : List Int) (h : Tri t) (x y dx dy : Int) (h1 : Pt x) (h2 : Pt y) (h3 : Pt (x + dx)) (h4 : Pt (y + dy)) (h5 : Pt (x - dx)) (h6 : Pt (y - dy)) (hdx : 0 ≤ dx ∧ dx ≤ 256) (hdy : 0 ≤ dy ∧ dy ≤ 256) (w : World) :
    Calls Try.prog 32 #[.agg (cs .i64 t), .int .i64 x, .int .i64 y, .int .i64 dx, .int .i64 dy] w fun e w' => e = .returned (.tuple #[.int .i64 (sl (atU t) (atB t) x y dx dy), .int .i64 (sl (atW t) (atB t) x y dx dy)]) ∧ Below w.heap.size w w' := by
  have hl := h.len
  have u1 := atU_bd h h1 h2
  have u2 := atU_bd h h3 h4
  have u3 := atU_bd h h5 h6
  have v1 := atW_bd h h1 h2
  have v2 := atW_bd h h3 h4
  have v3 := atW_bd h h5 h6
  have C1 := Lib.hid (fun w => uv_any t h x y h1 h2 w)
  have C2 := Lib.hid (fun w => uv_any t h (x + dx) (y + dy) h3 h4 w)
  have C3 := Lib.hid (fun w => uv_any t h (x - dx) (y - dy) h5 h6 w)
  have B1 : ∃ b, atB t x y = b := ⟨_, rfl⟩
  have B2 : ∃ b, atB t (x + dx) (y + dy) = b := ⟨_, rfl⟩
  have B3 : ∃ b, atB t (x - dx) (y - dy) = b := ⟨_, rfl⟩
  obtain ⟨b1, B1⟩ := B1
  obtain ⟨b2, B2⟩ := B2
  obtain ⟨b3, B3⟩ := B3
  rw [B1] at C1
  rw [B2] at C2
  rw [B3] at C3
  have e1 : sl (atU t) (atB t) x y dx dy = slU (atU t (x - dx) (y - dy)) (atU t x y) (atU t (x + dx) (y + dy)) b3 b1 b2 := by unfold sl; rw [B1, B2, B3]
  have e2 : sl (atW t) (atB t) x y dx dy = slU (atW t (x - dx) (y - dy)) (atW t x y) (atW t (x + dx) (y + dy)) b3 b1 b2 := by unfold sl; rw [B1, B2, B3]
  have E1 := Lib.hid e1
  have E2 := Lib.hid e2
  clear e1 e2 B1 B2 B3
  go_enter Try.func32, Try.ntmps32
  go_wp2_with fail
  refine (C1.out _).mono ?_
  rintro e w1 ⟨rfl, hb⟩
  have hs := hb.size
  simp only [World.size_alloc] at hs
  have b0 : blk w1 w.heap.size = some (.cells (cs .i64 t) 24 (0, 0)) := (blk_below hb _ (by simp)).trans (by simp [blk_alloc_at])
  have L1 : Below w.heap.size w w1 := by repeat' (first | (with_reducible exact Below.refl _ _) | (with_reducible refine Rd.below_step ?_ (by assumption)) | (with_reducible refine Rd.below_alloc ?_ _) | (with_reducible refine Rd.below_drewN ?_ _) | (with_reducible refine Below.drew ?_) | (with_reducible refine Below.setCell ?_ ?_ _) | (with_reducible refine Rd.below_setRow ?_ ?_ _) | go_size | (simp only [World.size_alloc]; omega) | omega)
  clear hb C1
  cases b1
  · go_wp2
    go_ret2
    exact ⟨by rw [E1.out, E2.out]; first | done | rfl, by repeat' (first | (with_reducible exact Below.refl _ _) | (with_reducible refine Rd.below_step ?_ (by assumption)) | (with_reducible refine Rd.below_alloc ?_ _) | (with_reducible refine Rd.below_drewN ?_ _) | (with_reducible refine Below.drew ?_) | (with_reducible refine Below.setCell ?_ ?_ _) | (with_reducible refine Rd.below_setRow ?_ ?_ _) | go_size | (simp only [World.size_alloc]; omega) | omega)⟩
  · go_wp2_with fail
    refine (C2.out _).mono ?_
    rintro e w2 ⟨rfl, hb⟩
    have hs2 := hb.size
    have b0' := (blk_below hb _ (by omega)).trans b0
    have L2 : Below w.heap.size w w2 := by repeat' (first | (with_reducible exact Below.refl _ _) | (with_reducible refine Rd.below_step ?_ (by assumption)) | (with_reducible refine Rd.below_alloc ?_ _) | (with_reducible refine Rd.below_drewN ?_ _) | (with_reducible refine Below.drew ?_) | (with_reducible refine Below.setCell ?_ ?_ _) | (with_reducible refine Rd.below_setRow ?_ ?_ _) | go_size | (simp only [World.size_alloc]; omega) | omega)
    clear hb b0 L1 C2
    cases b2
    · go_wp2_with fail
      refine (C3.out _).mono ?_
      rintro e w3 ⟨rfl, hb⟩
      have L3 : Below w.heap.size w w3 := by repeat' (first | (with_reducible exact Below.refl _ _) | (with_reducible refine Rd.below_step ?_ (by assumption)) | (with_reducible refine Rd.below_alloc ?_ _) | (with_reducible refine Rd.below_drewN ?_ _) | (with_reducible refine Below.drew ?_) | (with_reducible refine Below.setCell ?_ ?_ _) | (with_reducible refine Rd.below_setRow ?_ ?_ _) | go_size | (simp only [World.size_alloc]; omega) | omega)
      clear hb b0' L2 C3
      cases b3
      · go_wp2
        go_ret2
        exact ⟨by rw [E1.out, E2.out]; first | done | rfl, by repeat' (first | (with_reducible exact Below.refl _ _) | (with_reducible refine Rd.below_step ?_ (by assumption)) | (with_reducible refine Rd.below_alloc ?_ _) | (with_reducible refine Rd.below_drewN ?_ _) | (with_reducible refine Below.drew ?_) | (with_reducible refine Below.setCell ?_ ?_ _) | (with_reducible refine Rd.below_setRow ?_ ?_ _) | go_size | (simp only [World.size_alloc]; omega) | omega)⟩
      · go_wp2
        go_ret2
        exact ⟨by rw [E1.out, E2.out]; first | done | rfl, by repeat' (first | (with_reducible exact Below.refl _ _) | (with_reducible refine Rd.below_step ?_ (by assumption)) | (with_reducible refine Rd.below_alloc ?_ _) | (with_reducible refine Rd.below_drewN ?_ _) | (with_reducible refine Below.drew ?_) | (with_reducible refine Below.setCell ?_ ?_ _) | (with_reducible refine Rd.below_setRow ?_ ?_ _) | go_size | (simp only [World.size_alloc]; omega) | omega)⟩
    · go_wp2
      go_ret2
      exact ⟨by rw [E1.out, E2.out]; first | done | rfl, by repeat' (first | (with_reducible exact Below.refl _ _) | (with_reducible refine Rd.below_step ?_ (by assumption)) | (with_reducible refine Rd.below_alloc ?_ _) | (with_reducible refine Rd.below_drewN ?_ _) | (with_reducible refine Below.drew ?_) | (with_reducible refine Below.setCell ?_ ?_ _) | (with_reducible refine Rd.below_setRow ?_ ?_ _) | go_size | (simp only [World.size_alloc]; omega) | omega)⟩

def ux (t : List Int) (px py : Int) : Int := sl (atU t) (atB t) (mid px) (mid py) 256 0
def vx (t : List Int) (px py : Int) : Int := sl (atW t) (atB t) (mid px) (mid py) 256 0
def uy (t : List Int) (px py : Int) : Int := sl (atU t) (atB t) (mid px) (mid py) 0 256
def vy (t : List Int) (px py : Int) : Int := sl (atW t) (atB t) (mid px) (mid py) 0 256
abbrev P31 (p : Int) : Prop := 0 ≤ p ∧ p ≤ 31
set_option maxHeartbeats 1000000 in
theorem rslopes_any (t : List Int) (h : Tri t) (px py : Int) (hx : P31 px) (hy : P31 py) (w : World) :
    Calls Try.prog 15 #[.agg (cs .i64 t), .int .i64 px, .int .i64 py] w fun e w' => e = .returned (.tuple #[.int .i64 (ux t px py), .int .i64 (vx t px py), .int .i64 (uy t px py), .int .i64 (vy t px py)]) ∧ Below w.heap.size w w' := by
  have hl := h.len
  have m1 := mid_bd hx.1 hx.2
  have m2 := mid_bd hy.1 hy.2
  go_enter Try.func15, Try.ntmps15
  go_wp2_with fail
  refine (rslope_any t h (mid px) (mid py) 256 0 (by omega) (by omega) (by omega) (by omega) (by omega) (by omega) (by omega) (by omega) _).mono ?_
  rintro e w1 ⟨rfl, hb⟩
  have hs := hb.size
  simp only [World.size_alloc] at hs
  have b0 : blk w1 w.heap.size = some (.cells (cs .i64 t) 24 (0, 0)) := (blk_below hb _ (by simp)).trans (by simp [blk_alloc_at])
  have L1 : Below w.heap.size w w1 := by repeat' (first | (with_reducible exact Below.refl _ _) | (with_reducible refine Rd.below_step ?_ (by assumption)) | (with_reducible refine Rd.below_alloc ?_ _) | (with_reducible refine Rd.below_drewN ?_ _) | (with_reducible refine Below.drew ?_) | (with_reducible refine Below.setCell ?_ ?_ _) | (with_reducible refine Rd.below_setRow ?_ ?_ _) | go_size | (simp only [World.size_alloc]; omega) | omega)
  clear hb
  go_wp2_with fail
  refine (rslope_any t h (mid px) (mid py) 0 256 (by omega) (by omega) (by omega) (by omega) (by omega) (by omega) (by omega) (by omega) _).mono ?_
  rintro e w2 ⟨rfl, hb⟩
  have L2 : Below w.heap.size w w2 := by repeat' (first | (with_reducible exact Below.refl _ _) | (with_reducible refine Rd.below_step ?_ (by assumption)) | (with_reducible refine Rd.below_alloc ?_ _) | (with_reducible refine Rd.below_drewN ?_ _) | (with_reducible refine Below.drew ?_) | (with_reducible refine Below.setCell ?_ ?_ _) | (with_reducible refine Rd.below_setRow ?_ ?_ _) | go_size | (simp only [World.size_alloc]; omega) | omega)
  clear hb L1 b0
  go_wp2
  go_returns
  exact ⟨rfl, by repeat' (first | (with_reducible exact Below.refl _ _) | (with_reducible refine Rd.below_step ?_ (by assumption)) | (with_reducible refine Rd.below_alloc ?_ _) | (with_reducible refine Rd.below_drewN ?_ _) | (with_reducible refine Below.drew ?_) | (with_reducible refine Below.setCell ?_ ?_ _) | (with_reducible refine Rd.below_setRow ?_ ?_ _) | go_size | (simp only [World.size_alloc]; omega) | omega)⟩

/-- slope, at three points -/
theorem slope_at (t : List Int) (h : Tri t) (x y dx dy x1 y1 x2 y2 : Int) (e1 : x1 = x - dx) (e2 : y1 = y - dy) (e3 : x2 = x + dx) (e4 : y2 = y + dy) (h1 : Pt x) (h2 : Pt y) (h3 : Pt x2) (h4 : Pt y2) (h5 : Pt x1) (h6 : Pt y1) (w : World) :
    Calls Try.prog 31 #[.agg (plc (atU t x1 y1) (atW t x1 y1) (atB t x1 y1)), .agg (plc (atU t x y) (atW t x y) (atB t x y)), .agg (plc (atU t x2 y2) (atW t x2 y2) (atB t x2 y2))] w
      fun e w' => e = .returned (.tuple #[.int .i64 (sl (atU t) (atB t) x y dx dy), .int .i64 (sl (atW t) (atB t) x y dx dy)]) ∧ Below w.heap.size w w' := by
  subst e1; subst e2; subst e3; subst e4
  exact slope_any _ _ _ _ _ _ _ _ _ (atU_bd h h5 h6) (atW_bd h h5 h6) (atU_bd h h1 h2) (atW_bd h h1 h2) (atU_bd h h3 h4) (atW_bd h h3 h4) w
set_option maxHeartbeats 2000000 in
theorem slopes_any (t : List Int) (h : Tri t) (px py : Int) (hx : P31 px) (hy : P31 py) (w : World) :
    Calls Try.prog 14 #[.agg (cs .i64 t), .int .i64 px, .int .i64 py] w fun e w' => e = .returned (.tuple #[.int .i64 (ux t px py), .int .i64 (vx t px py), .int .i64 (uy t px py), .int .i64 (vy t px py)]) ∧ Below w.heap.size w w' := by
  have hl := h.len
  have m1 := mid_bd hx.1 hx.2
  have m2 := mid_bd hy.1 hy.2
  go_enter Try.func14, Try.ntmps14
  go_wp2_with (go_at_call 27; (first | (with_reducible refine (mid_any px hx.1 hx.2 _).mono ?_) | (with_reducible refine (mid_any py hy.1 hy.2 _).mono ?_)); rintro e w' ⟨rfl, rfl⟩)
  refine (at_any t h (mid px) (mid py) (by omega) (by omega) _).mono ?_
  rintro e w1 ⟨rfl, hb⟩
  have hs := hb.size
  simp only [World.size_alloc] at hs
  have b0 : blk w1 w.heap.size = some (.cells (cs .i64 t) 24 (0, 0)) := (blk_below hb _ (by simp)).trans (by simp [blk_alloc_at])
  have L1 : Below w.heap.size w w1 := by repeat' (first | (with_reducible exact Below.refl _ _) | (with_reducible refine Rd.below_step ?_ (by assumption)) | (with_reducible refine Rd.below_alloc ?_ _) | (with_reducible refine Rd.below_drewN ?_ _) | (with_reducible refine Below.drew ?_) | (with_reducible refine Below.setCell ?_ ?_ _) | (with_reducible refine Rd.below_setRow ?_ ?_ _) | go_size | (simp only [World.size_alloc]; omega) | omega)
  have k0 : w.heap.size < w1.heap.size := by omega
  clear hb
  go_wp2
  (refine wp_region_quiet_below (by kernel_rfl) (by kernel_rfl) ?_; (repeat (go_big_quiet_step ((first | (with_reducible exact Calls.regrown_of (at_any t h (mid px - 256) (mid py) (by omega) (by omega) _)) | (with_reducible exact Calls.regrown_of (at_any t h (mid px + 256) (mid py) (by omega) (by omega) _)) | (with_reducible exact Calls.regrown_of (slope_at t h (mid px) (mid py) 256 0 (mid px - 256) (mid py) (mid px + 256) (mid py) rfl (by omega) rfl (by omega) (by omega) (by omega) (by omega) (by omega) (by omega) (by omega) _)))))); refine wpQuiet_nil ?_)
  intro U hU
  have KU := Rd.below_of_regrown hU
  clear hU
  have hs := KU.size
  simp only [World.size_alloc] at hs
  have b1 : blk U w.heap.size = some (.cells (cs .i64 t) 24 (0, 0)) := (blk_below KU _ (by simp; omega)).trans ((blk_alloc_old _ _ _ k0).trans b0)
  have p1 : blk U w1.heap.size = some (.cells (plc (atU t (mid px) (mid py)) (atW t (mid px) (mid py)) (atB t (mid px) (mid py))) 47 (0, 0)) := (blk_below KU _ (by simp)).trans (blk_alloc_at _ _ _ rfl)
  have L2 : Below w.heap.size w U := by repeat' (first | (with_reducible exact Below.refl _ _) | (with_reducible refine Rd.below_step ?_ (by assumption)) | (with_reducible refine Rd.below_alloc ?_ _) | (with_reducible refine Rd.below_drewN ?_ _) | (with_reducible refine Below.drew ?_) | (with_reducible refine Below.setCell ?_ ?_ _) | (with_reducible refine Rd.below_setRow ?_ ?_ _) | go_size | (simp only [World.size_alloc]; omega) | omega)
  have k3 : w.heap.size < U.heap.size := by omega
  have k4 : w1.heap.size < U.heap.size := by omega
  clear KU b0 L1
  go_wp2
  (refine wp_region_quiet_below (by kernel_rfl) (by kernel_rfl) ?_; (repeat (go_big_quiet_step ((first | (with_reducible exact Calls.regrown_of (at_any t h (mid px) (mid py - 256) (by omega) (by omega) _)) | (with_reducible exact Calls.regrown_of (at_any t h (mid px) (mid py + 256) (by omega) (by omega) _)) | (with_reducible exact Calls.regrown_of (slope_at t h (mid px) (mid py) 0 256 (mid px) (mid py - 256) (mid px) (mid py + 256) (by omega) rfl (by omega) rfl (by omega) (by omega) (by omega) (by omega) (by omega) (by omega) _)))))); refine wpQuiet_nil ?_)
  intro U2 hU
  have KU := Rd.below_of_regrown hU
  clear hU
  have L3 : Below w.heap.size w U2 := by repeat' (first | (with_reducible exact Below.refl _ _) | (with_reducible refine Rd.below_step ?_ (by assumption)) | (with_reducible refine Rd.below_alloc ?_ _) | (with_reducible refine Rd.below_drewN ?_ _) | (with_reducible refine Below.drew ?_) | (with_reducible refine Below.setCell ?_ ?_ _) | (with_reducible refine Rd.below_setRow ?_ ?_ _) | go_size | (simp only [World.size_alloc]; omega) | omega)
  clear KU L2 b1 p1
  go_wp2
  go_returns
  exact ⟨rfl, by repeat' (first | (with_reducible exact Below.refl _ _) | (with_reducible refine Rd.below_step ?_ (by assumption)) | (with_reducible refine Rd.below_alloc ?_ _) | (with_reducible refine Rd.below_drewN ?_ _) | (with_reducible refine Below.drew ?_) | (with_reducible refine Below.setCell ?_ ?_ _) | (with_reducible refine Rd.below_setRow ?_ ?_ _) | go_size | (simp only [World.size_alloc]; omega) | omega)⟩

/-! Depth and place -/
def zS (t : List Int) (x y : Int) : Int := ed0 t x y * g t 2 + ed1 t x y * g t 8 + ed2 t x y * g t 14
theorem zP {t : List Int} {x y : Int} (h : Tri t) (hx : Pt x) (hy : Pt y) : (-70367670435840 ≤ ed0 t x y * g t 2 ∧ ed0 t x y * g t 2 ≤ 70367670435840) ∧ (-70367670435840 ≤ ed1 t x y * g t 8 ∧ ed1 t x y * g t 8 ≤ 70367670435840) ∧ (-70367670435840 ≤ ed2 t x y * g t 14 ∧ ed2 t x y * g t 14 ≤ 70367670435840) :=
  ⟨prod_bd (A := 1073741824) (B := 65535) (ed0_bd h hx hy).1 (ed0_bd h hx hy).2 (by have := h.s0.z0; omega) h.s0.z1, prod_bd (A := 1073741824) (B := 65535) (ed1_bd h hx hy).1 (ed1_bd h hx hy).2 (by have := h.s1.z0; omega) h.s1.z1, prod_bd (A := 1073741824) (B := 65535) (ed2_bd h hx hy).1 (ed2_bd h hx hy).2 (by have := h.s2.z0; omega) h.s2.z1⟩
theorem zS_bd {t : List Int} {x y : Int} (h : Tri t) (hx : Pt x) (hy : Pt y) : -211103011307520 ≤ zS t x y ∧ zS t x y ≤ 211103011307520 := by
  obtain ⟨a, b, c⟩ := zP h hx hy
  unfold zS; omega
def zN (t : List Int) (x y : Int) : Int := near (zS t x y) (area t)
def zV (t : List Int) (x y : Int) : Int := max 0 (min (zN t x y) 65535)
theorem fold_z (t : List Int) (x y : Int) : ed0 t x y * g t 2 + ed1 t x y * g t 8 + ed2 t x y * g t 14 = zS t x y := rfl
theorem zN_bd {t : List Int} {x y : Int} (h : Tri t) (ha : 1 ≤ area t) (hx : Pt x) (hy : Pt y) : -211103011307521 ≤ zN t x y ∧ zN t x y ≤ 211103011307521 := by
  have := near_bd (zS t x y) (area t) 211103011307520 (by omega) (zS_bd h hx hy).1 (zS_bd h hx hy).2
  unfold zN; omega
theorem round_z (t : List Int) (h : Tri t) (ha : 1 ≤ area t) (x y : Int) (hx : Pt x) (hy : Pt y) (w : World) :
    Calls Try.prog 19 #[.int .i64 (zS t x y), .int .i64 (area t)] w fun e w' => e = .returned (.tuple #[.int .i64 (zN t x y), .int .i64 0]) ∧ Below w.heap.size w w' := by
  have a := zS_bd h hx hy
  have b := area_bd h
  exact round_mid _ _ w (by omega) (by omega) ha (by omega)
section
attribute [local go_sem] fold_z
set_option maxHeartbeats 2000000 in
theorem At_any (t : List Int) (h : Tri t) (ha : 1 ≤ area t) (px py : Int) (hx : P31 px) (hy : P31 py) (w : World) :
    Calls Try.prog 12 #[.agg (cs .i64 t), .int .i64 px, .int .i64 py] w fun e w' => e = .returned (.tuple #[.int .i64 (zV t (mid px) (mid py)), .int .i64 (atU t (mid px) (mid py)), .int .i64 (atW t (mid px) (mid py))]) ∧ Below w.heap.size w w' := by
  have hl := h.len
  have m1 := mid_bd hx.1 hx.2
  have m2 := mid_bd hy.1 hy.2
  have hX : Pt (mid px) := by omega
  have hY : Pt (mid py) := by omega
  obtain ⟨z1, z2, z3⟩ := zP h hX hY
  have z4 := zS_bd h hX hY
  have z5 := zN_bd h ha hX hY
  go_enter Try.func12, Try.ntmps12
  go_wp2_with (go_at_call 27; (first | (with_reducible refine (mid_any px hx.1 hx.2 _).mono ?_) | (with_reducible refine (mid_any py hy.1 hy.2 _).mono ?_)); rintro e w' ⟨rfl, rfl⟩)
  refine (edges_any t h (mid px) (mid py) hX hY _).mono ?_
  rintro e w1 ⟨rfl, hb⟩
  have hs := hb.size
  simp only [World.size_alloc] at hs
  have b0 : blk w1 w.heap.size = some (.cells (cs .i64 t) 24 (0, 0)) := (blk_below hb _ (by simp)).trans (by simp [blk_alloc_at])
  have L1 : Below w.heap.size w w1 := by repeat' (first | (with_reducible exact Below.refl _ _) | (with_reducible refine Rd.below_step ?_ (by assumption)) | (with_reducible refine Rd.below_alloc ?_ _) | (with_reducible refine Rd.below_drewN ?_ _) | (with_reducible refine Below.drew ?_) | (with_reducible refine Below.setCell ?_ ?_ _) | (with_reducible refine Rd.below_setRow ?_ ?_ _) | go_size | (simp only [World.size_alloc]; omega) | omega)
  have k0 : w.heap.size < w1.heap.size := by omega
  clear hb
  go_wp2_with fail
  refine Rd.name_world ?_
  intro w2 hw
  have b2 : blk w2 w.heap.size = some (.cells (cs .i64 t) 24 (0, 0)) := by rw [hw, blk_alloc_old _ _ _ k0]; exact b0
  have e2 : blk w2 w1.heap.size = some (.cells (cs .i64 (edL t (mid px) (mid py))) 27 (0, 0)) := by rw [hw, blk_alloc_at _ _ _ rfl]
  have k2 : w1.heap.size < w2.heap.size := by rw [hw]; simp
  have L2 : Below w.heap.size w w2 := by
    rw [hw]
    repeat' (first | (with_reducible exact Below.refl _ _) | (with_reducible refine Rd.below_step ?_ (by assumption)) | (with_reducible refine Rd.below_alloc ?_ _) | (with_reducible refine Rd.below_drewN ?_ _) | (with_reducible refine Below.drew ?_) | (with_reducible refine Below.setCell ?_ ?_ _) | (with_reducible refine Rd.below_setRow ?_ ?_ _) | go_size | (simp only [World.size_alloc]; omega) | omega)
  clear hw b0 L1 hs
  have g0 := Go.cell_regrown (w := w2) (a := ⟨w.heap.size, 2, none⟩) (v := .int .i64 (g t 2)) (by rw [blk_cell b2]; exact cs_at (at_of (l := t) (by omega)))
  have g1 := Go.cell_regrown (w := w2) (a := ⟨w.heap.size, 8, none⟩) (v := .int .i64 (g t 8)) (by rw [blk_cell b2]; exact cs_at (at_of (l := t) (by omega)))
  have g2 := Go.cell_regrown (w := w2) (a := ⟨w.heap.size, 14, none⟩) (v := .int .i64 (g t 14)) (by rw [blk_cell b2]; exact cs_at (at_of (l := t) (by omega)))
  have g3 := Go.cell_regrown (w := w2) (a := ⟨w1.heap.size, 0, none⟩) (v := .int .i64 (ed0 t (mid px) (mid py))) (by rw [blk_cell e2]; rfl)
  have g4 := Go.cell_regrown (w := w2) (a := ⟨w1.heap.size, 1, none⟩) (v := .int .i64 (ed1 t (mid px) (mid py))) (by rw [blk_cell e2]; rfl)
  have g5 := Go.cell_regrown (w := w2) (a := ⟨w1.heap.size, 2, none⟩) (v := .int .i64 (ed2 t (mid px) (mid py))) (by rw [blk_cell e2]; rfl)
  have k3 : w.heap.size < w2.heap.size := by omega
  (refine wp_region_quiet_below (by kernel_rfl) (by kernel_rfl) ?_; (repeat (go_big_quiet_step ((first | (with_reducible exact Calls.regrown_of (area_any t h _)) | (with_reducible exact Calls.regrown_of (round_z t h ha (mid px) (mid py) hX hY _)))))); refine wpQuiet_nil ?_)
  intro U hU
  have KU := Rd.below_of_regrown hU
  clear hU g0 g1 g2 g3 g4 g5
  have b3 := (blk_below KU _ k3).trans b2
  have L3 : Below w.heap.size w U := by repeat' (first | (with_reducible exact Below.refl _ _) | (with_reducible refine Rd.below_step ?_ (by assumption)) | (with_reducible refine Rd.below_alloc ?_ _) | (with_reducible refine Rd.below_drewN ?_ _) | (with_reducible refine Below.drew ?_) | (with_reducible refine Below.setCell ?_ ?_ _) | (with_reducible refine Rd.below_setRow ?_ ?_ _) | go_size | (simp only [World.size_alloc]; omega) | omega)
  have hs := KU.size
  clear KU b2 e2 L2
  go_wp2_with fail
  refine (at_any t h (mid px) (mid py) hX hY _).mono ?_
  rintro e w4 ⟨rfl, hb⟩
  have L4 : Below w.heap.size w w4 := by repeat' (first | (with_reducible exact Below.refl _ _) | (with_reducible refine Rd.below_step ?_ (by assumption)) | (with_reducible refine Rd.below_alloc ?_ _) | (with_reducible refine Rd.below_drewN ?_ _) | (with_reducible refine Below.drew ?_) | (with_reducible refine Below.setCell ?_ ?_ _) | (with_reducible refine Rd.below_setRow ?_ ?_ _) | go_size | (simp only [World.size_alloc]; omega) | omega)
  clear hb L3 b3
  go_wp2
  go_quiet (fail)
  go_wp2
  go_returns
  exact ⟨rfl, by repeat' (first | (with_reducible exact Below.refl _ _) | (with_reducible refine Rd.below_step ?_ (by assumption)) | (with_reducible refine Rd.below_alloc ?_ _) | (with_reducible refine Rd.below_drewN ?_ _) | (with_reducible refine Below.drew ?_) | (with_reducible refine Below.setCell ?_ ?_ _) | (with_reducible refine Rd.below_setRow ?_ ?_ _) | go_size | (simp only [World.size_alloc]; omega) | omega)⟩
end
end Go.Proofs.Ytjbmochndpdolaa.TriE
