/-
  Edges, Area, and the small functions on whole numbers.
-/
import Derived.Test.YtjbmochndpdolaaTriA
namespace Go.Proofs.Ytjbmochndpdolaa.TriB
open Go.RowKit FixA Num Rd Go.Proofs.Ytjbmochndpdolaa.Row TriA
set_option linter.unusedVariables false
set_option linter.unusedSimpArgs false
set_option maxRecDepth 10000
attribute [local go_sem ↓] load_tri store_tri load_w3 store_w3 load_spot
attribute [local go_sem] one_int run_load_spot run_load_tri run_load_w3 run_store_tri run_store_w3 rowLoad_eq rowStore_eq midLoad_eq ext0 ext1 ext2 blk_alloc_at blk_alloc_old blk_drew blk_drewN blk_set_far blk_set_far' blk_grow setRow_alloc_at setRow_alloc_old setRow_drew setRow_drewN

theorem info_w3 : (Try.prog.info? 27).map (·.size) = some 3 := by kernel_rfl
theorem ret_w3 {fn : Func} {R : Ending → World → Prop} {a : Act} {W : World} {p : Tmp} (h : fn.results = #[.cell p 27]) (g : Nat) (l : List Int) (hp : a.tmps.getD p undef = .pointer (some ⟨g, 0, none⟩)) (hl : l.length = 3)
    (hg : blk W g = some (.cells (cs .i64 l) 27 (0, 0))) (hd : a.defers = []) (hR : R (.returned (.agg (cs .i64 l))) W) : bodyPost Try.prog fn R .ret a W :=
  bodyPost_ret (results_row1 h _ _ g _ _ _ _ hp hg Try.underlying27 rfl (by rw [info_w3]; simp [hl])) hd hR
theorem ret_w3b {fn : Func} {R : Ending → World → Prop} {a : Act} {W : World} {p q : Tmp} (h : fn.results = #[.cell p 27, .tmp q]) (g : Nat) (l : List Int) (hp : a.tmps.getD p undef = .pointer (some ⟨g, 0, none⟩)) (hl : l.length = 3)
    (hg : blk W g = some (.cells (cs .i64 l) 27 (0, 0))) (hd : a.defers = []) (hR : R (.returned (.tuple #[.agg (cs .i64 l), a.tmps.getD q undef])) W) : bodyPost Try.prog fn R .ret a W :=
  bodyPost_ret (results_row2 h _ _ g _ _ _ _ hp hg Try.underlying27 rfl (by rw [info_w3]; simp [hl])) hd hR

def ed0 (t : List Int) (x y : Int) : Int := sideV (g t 6) (g t 7) (g t 12) (g t 13) x y
def ed1 (t : List Int) (x y : Int) : Int := sideV (g t 12) (g t 13) (g t 0) (g t 1) x y
def ed2 (t : List Int) (x y : Int) : Int := sideV (g t 0) (g t 1) (g t 6) (g t 7) x y
def area (t : List Int) : Int := sideV (g t 0) (g t 1) (g t 6) (g t 7) (g t 12) (g t 13)
abbrev edL (t : List Int) (x y : Int) : List Int := [ed0 t x y, ed1 t x y, ed2 t x y]
theorem ed0_bd {t : List Int} {x y : Int} (h : Tri t) (hx : Pt x) (hy : Pt y) : -1073741824 ≤ ed0 t x y ∧ ed0 t x y ≤ 1073741824 := sideV_bd h.s1.x0 h.s1.x1 h.s1.y0 h.s1.y1 h.s2.x0 h.s2.x1 h.s2.y0 h.s2.y1 hx hy
theorem ed1_bd {t : List Int} {x y : Int} (h : Tri t) (hx : Pt x) (hy : Pt y) : -1073741824 ≤ ed1 t x y ∧ ed1 t x y ≤ 1073741824 := sideV_bd h.s2.x0 h.s2.x1 h.s2.y0 h.s2.y1 h.s0.x0 h.s0.x1 h.s0.y0 h.s0.y1 hx hy
theorem ed2_bd {t : List Int} {x y : Int} (h : Tri t) (hx : Pt x) (hy : Pt y) : -1073741824 ≤ ed2 t x y ∧ ed2 t x y ≤ 1073741824 := sideV_bd h.s0.x0 h.s0.x1 h.s0.y0 h.s0.y1 h.s1.x0 h.s1.x1 h.s1.y0 h.s1.y1 hx hy
theorem area_bd {t : List Int} (h : Tri t) : -1073741824 ≤ area t ∧ area t ≤ 1073741824 := sideV_bd h.s0.x0 h.s0.x1 h.s0.y0 h.s0.y1 h.s1.x0 h.s1.x1 h.s1.y0 h.s1.y1 ⟨by have := h.s2.x0; omega, by have := h.s2.x1; omega⟩ ⟨by have := h.s2.y0; omega, by have := h.s2.y1; omega⟩

theorem side01 (t : List Int) (h : Tri t) (x y : Int) (hx : Pt x) (hy : Pt y) (w : World) :
    Calls Try.prog 34 #[.agg (cs .i64 (sp t 0)), .agg (cs .i64 (sp t 1)), .int .i64 x, .int .i64 y] w fun e w' => e = .returned (.int .i64 (ed2 t x y)) ∧ Below w.heap.size w w' := by
  have := side_any (sp t 0) (sp t 1) h.sp0 h.sp1 x y hx hy w
  rw [sp_g _ _ 0 (by omega), sp_g _ _ 1 (by omega), sp_g _ _ 0 (by omega), sp_g _ _ 1 (by omega)] at this
  exact this
theorem side12 (t : List Int) (h : Tri t) (x y : Int) (hx : Pt x) (hy : Pt y) (w : World) :
    Calls Try.prog 34 #[.agg (cs .i64 (sp t 1)), .agg (cs .i64 (sp t 2)), .int .i64 x, .int .i64 y] w fun e w' => e = .returned (.int .i64 (ed0 t x y)) ∧ Below w.heap.size w w' := by
  have := side_any (sp t 1) (sp t 2) h.sp1 h.sp2 x y hx hy w
  rw [sp_g _ _ 0 (by omega), sp_g _ _ 1 (by omega), sp_g _ _ 0 (by omega), sp_g _ _ 1 (by omega)] at this
  exact this
theorem side20 (t : List Int) (h : Tri t) (x y : Int) (hx : Pt x) (hy : Pt y) (w : World) :
    Calls Try.prog 34 #[.agg (cs .i64 (sp t 2)), .agg (cs .i64 (sp t 0)), .int .i64 x, .int .i64 y] w fun e w' => e = .returned (.int .i64 (ed1 t x y)) ∧ Below w.heap.size w w' := by
  have := side_any (sp t 2) (sp t 0) h.sp2 h.sp0 x y hx hy w
  rw [sp_g _ _ 0 (by omega), sp_g _ _ 1 (by omega), sp_g _ _ 0 (by omega), sp_g _ _ 1 (by omega)] at this
  exact this
theorem rside01 (t : List Int) (h : Tri t) (x y : Int) (hx : Pt x) (hy : Pt y) (w : World) :
    Calls Try.prog 33 #[.agg (cs .i64 (sp t 0)), .agg (cs .i64 (sp t 1)), .int .i64 x, .int .i64 y] w fun e w' => e = .returned (.int .i64 (ed2 t x y)) ∧ Below w.heap.size w w' := by
  have := rside_any (sp t 0) (sp t 1) h.sp0 h.sp1 x y hx hy w
  rw [sp_g _ _ 0 (by omega), sp_g _ _ 1 (by omega), sp_g _ _ 0 (by omega), sp_g _ _ 1 (by omega)] at this
  exact this
theorem rside12 (t : List Int) (h : Tri t) (x y : Int) (hx : Pt x) (hy : Pt y) (w : World) :
    Calls Try.prog 33 #[.agg (cs .i64 (sp t 1)), .agg (cs .i64 (sp t 2)), .int .i64 x, .int .i64 y] w fun e w' => e = .returned (.int .i64 (ed0 t x y)) ∧ Below w.heap.size w w' := by
  have := rside_any (sp t 1) (sp t 2) h.sp1 h.sp2 x y hx hy w
  rw [sp_g _ _ 0 (by omega), sp_g _ _ 1 (by omega), sp_g _ _ 0 (by omega), sp_g _ _ 1 (by omega)] at this
  exact this
theorem rside20 (t : List Int) (h : Tri t) (x y : Int) (hx : Pt x) (hy : Pt y) (w : World) :
    Calls Try.prog 33 #[.agg (cs .i64 (sp t 2)), .agg (cs .i64 (sp t 0)), .int .i64 x, .int .i64 y] w fun e w' => e = .returned (.int .i64 (ed1 t x y)) ∧ Below w.heap.size w w' := by
  have := rside_any (sp t 2) (sp t 0) h.sp2 h.sp0 x y hx hy w
  rw [sp_g _ _ 0 (by omega), sp_g _ _ 1 (by omega), sp_g _ _ 0 (by omega), sp_g _ _ 1 (by omega)] at this
  exact this

theorem edges_any (t : List Int) (h : Tri t) (x y : Int) (hx : Pt x) (hy : Pt y) (w : World) :
    Calls Try.prog 18 #[.agg (cs .i64 t), .int .i64 x, .int .i64 y] w fun e w' => e = .returned (.agg (cs .i64 (edL t x y))) ∧ Below w.heap.size w w' := by
  have hl := h.len
  go_enter Try.func18, Try.ntmps18
  go_wp2
  (refine Reg.below_tail 22 (by kernel_rfl) (by kernel_rfl) ?_; simp only [List.take_succ_cons, List.take_zero, List.drop_succ_cons, List.drop_zero]; (repeat (go_big_quiet_step ((first | (with_reducible exact Calls.regrown_of (side12 t h x y hx hy _)) | (with_reducible exact Calls.regrown_of (side20 t h x y hx hy _)) | (with_reducible exact Calls.regrown_of (side01 t h x y hx hy _)))))); refine wpQuiet_nil ?_)
  intro U hU
  have KU := Rd.below_of_regrown hU
  clear hU
  have z1 : blk U (w.heap.size + 1) = some (.cells (cs .i64 [0, 0, 0]) 27 (0, 0)) := (blk_below KU _ (by simp)).trans (by simp [blk_alloc_at, blk_alloc_old])
  have L : Below w.heap.size w U := by repeat' (first | (with_reducible exact Below.refl _ _) | (with_reducible refine Rd.below_step ?_ (by assumption)) | (with_reducible refine Rd.below_alloc ?_ _) | (with_reducible refine Rd.below_drewN ?_ _) | (with_reducible refine Below.drew ?_) | (with_reducible refine Below.setCell ?_ ?_ _) | (with_reducible refine Rd.below_setRow ?_ ?_ _) | go_size | (simp only [World.size_alloc]; omega) | omega)
  clear KU
  go_wp2
  exact ret_w3 rfl (w.heap.size + 1) (edL t x y) rfl rfl (blk_setRow_of z1 _) rfl ⟨rfl, by repeat' (first | (with_reducible exact Below.refl _ _) | (with_reducible refine Rd.below_step ?_ (by assumption)) | (with_reducible refine Rd.below_alloc ?_ _) | (with_reducible refine Rd.below_drewN ?_ _) | (with_reducible refine Below.drew ?_) | (with_reducible refine Below.setCell ?_ ?_ _) | (with_reducible refine Rd.below_setRow ?_ ?_ _) | go_size | (simp only [World.size_alloc]; omega) | omega)⟩
theorem redges_any (t : List Int) (h : Tri t) (x y : Int) (hx : Pt x) (hy : Pt y) (w : World) :
    Calls Try.prog 22 #[.agg (cs .i64 t), .int .i64 x, .int .i64 y] w fun e w' => e = .returned (.agg (cs .i64 (edL t x y))) ∧ Below w.heap.size w w' := by
  have hl := h.len
  go_enter Try.func22, Try.ntmps22
  go_wp2
  (refine Reg.below_tail 22 (by kernel_rfl) (by kernel_rfl) ?_; simp only [List.take_succ_cons, List.take_zero, List.drop_succ_cons, List.drop_zero]; (repeat (go_big_quiet_step ((first | (with_reducible exact Calls.regrown_of (rside12 t h x y hx hy _)) | (with_reducible exact Calls.regrown_of (rside20 t h x y hx hy _)) | (with_reducible exact Calls.regrown_of (rside01 t h x y hx hy _)))))); refine wpQuiet_nil ?_)
  intro U hU
  have KU := Rd.below_of_regrown hU
  clear hU
  have z1 : blk U (w.heap.size + 1) = some (.cells (cs .i64 [0, 0, 0]) 27 (0, 0)) := (blk_below KU _ (by simp)).trans (by simp [blk_alloc_at, blk_alloc_old])
  have L : Below w.heap.size w U := by repeat' (first | (with_reducible exact Below.refl _ _) | (with_reducible refine Rd.below_step ?_ (by assumption)) | (with_reducible refine Rd.below_alloc ?_ _) | (with_reducible refine Rd.below_drewN ?_ _) | (with_reducible refine Below.drew ?_) | (with_reducible refine Below.setCell ?_ ?_ _) | (with_reducible refine Rd.below_setRow ?_ ?_ _) | go_size | (simp only [World.size_alloc]; omega) | omega)
  clear KU
  go_wp2
  exact ret_w3 rfl (w.heap.size + 1) (edL t x y) rfl rfl (blk_setRow_of z1 _) rfl ⟨rfl, by repeat' (first | (with_reducible exact Below.refl _ _) | (with_reducible refine Rd.below_step ?_ (by assumption)) | (with_reducible refine Rd.below_alloc ?_ _) | (with_reducible refine Rd.below_drewN ?_ _) | (with_reducible refine Below.drew ?_) | (with_reducible refine Below.setCell ?_ ?_ _) | (with_reducible refine Rd.below_setRow ?_ ?_ _) | go_size | (simp only [World.size_alloc]; omega) | omega)⟩

theorem spt2 {t : List Int} (h : Tri t) : Pt (g t 12) ∧ Pt (g t 13) := ⟨⟨by have := h.s2.x0; omega, by have := h.s2.x1; omega⟩, ⟨by have := h.s2.y0; omega, by have := h.s2.y1; omega⟩⟩
theorem area_any (t : List Int) (h : Tri t) (w : World) :
    Calls Try.prog 28 #[.agg (cs .i64 t)] w fun e w' => e = .returned (.int .i64 (area t)) ∧ Below w.heap.size w w' := by
  have hl := h.len
  have l12 : 12 < t.length := by omega
  have l13 : 13 < t.length := by omega
  have e12 : g t 12 = t[12] := by simp [g, List.getD, l12]
  have e13 : g t 13 = t[13] := by simp [g, List.getD, l13]
  have P12 : Pt t[12] := e12 ▸ (spt2 h).1
  have P13 : Pt t[13] := e13 ▸ (spt2 h).2
  have EA : ed2 t t[12] t[13] = area t := by unfold ed2 area; rw [e12, e13]
  clear e12 e13
  have HE := Lib.hid EA
  clear EA
  go_enter Try.func28, Try.ntmps28
  go_wp2_with (go_at_call 34; refine (side01 t h _ _ P12 P13 _).mono ?_; rintro e w' ⟨rfl, hb⟩)
  go_ret
  exact ⟨Num.ret_int HE.out, by repeat' (first | (with_reducible exact Below.refl _ _) | (with_reducible refine Rd.below_step ?_ (by assumption)) | (with_reducible refine Rd.below_alloc ?_ _) | (with_reducible refine Rd.below_drewN ?_ _) | (with_reducible refine Below.drew ?_) | (with_reducible refine Below.setCell ?_ ?_ _) | (with_reducible refine Rd.below_setRow ?_ ?_ _) | go_size | (simp only [World.size_alloc]; omega) | omega)⟩
theorem rarea_any (t : List Int) (h : Tri t) (w : World) :
    Calls Try.prog 17 #[.agg (cs .i64 t)] w fun e w' => e = .returned (.int .i64 (area t)) ∧ Below w.heap.size w w' := by
  have hl := h.len
  have l12 : 12 < t.length := by omega
  have l13 : 13 < t.length := by omega
  have e12 : g t 12 = t[12] := by simp [g, List.getD, l12]
  have e13 : g t 13 = t[13] := by simp [g, List.getD, l13]
  have P12 : Pt t[12] := e12 ▸ (spt2 h).1
  have P13 : Pt t[13] := e13 ▸ (spt2 h).2
  have EA : ed2 t t[12] t[13] = area t := by unfold ed2 area; rw [e12, e13]
  clear e12 e13
  have HE := Lib.hid EA
  clear EA
  go_enter Try.func17, Try.ntmps17
  go_wp2_with (go_at_call 33; refine (rside01 t h _ _ P12 P13 _).mono ?_; rintro e w' ⟨rfl, hb⟩)
  go_ret
  exact ⟨Num.ret_int HE.out, by repeat' (first | (with_reducible exact Below.refl _ _) | (with_reducible refine Rd.below_step ?_ (by assumption)) | (with_reducible refine Rd.below_alloc ?_ _) | (with_reducible refine Rd.below_drewN ?_ _) | (with_reducible refine Below.drew ?_) | (with_reducible refine Below.setCell ?_ ?_ _) | (with_reducible refine Rd.below_setRow ?_ ?_ _) | go_size | (simp only [World.size_alloc]; omega) | omega)⟩

theorem middle_any (p : Int) (h0 : 0 ≤ p) (h1 : p ≤ 31) (w : World) :
    Calls Try.prog 27 #[.int .i64 p] w fun e w' => e = .returned (.int .i64 (256 * p + 128)) ∧ w = w' := by
  go_enter Try.func27, Try.ntmps27
  go_wp2
  go_ret
  exact ⟨rfl, rfl⟩
def hold (n a b : Int) : Int := max a (min n b)
section
attribute [local go_sem high] run_maxT run_minT
theorem hold_any (n a b : Int) (h : a ≤ b) (w : World) :
    Calls Try.prog 26 #[.int .i64 n, .int .i64 a, .int .i64 b] w fun e w' => e = .returned (.int .i64 (hold n a b)) ∧ w = w' := by
  go_enter Try.func26, Try.ntmps26
  go_wp2
  go_ret
  exact ⟨Num.ret_int (by unfold hold; omega), rfl⟩
end
theorem pdown_any (n d : Int) (w : World) (h1 : -4611686018427387904 ≤ n) (h2 : n ≤ 4611686018427387904) (hz2 : 1 ≤ d) (hd2 : d ≤ 4398046511104) :
    Calls Try.prog 21 #[.int .i64 n, .int .i64 d] w fun e w' => e = .returned (.int .i64 (n / d)) ∧ w = w' := by
  have F := Lib.hid (tdiv_parts n d (by omega))
  have G := Lib.hid (tdiv_bd n d 4611686018427387904 (by omega) h1 h2)
  go_enter Try.func21, Try.ntmps21
  obtain ⟨-, a, b, -, -⟩ := F.out
  have G' := G.out
  go_wp2
  all_goals
    go_ret
    refine ⟨Num.ret_int ?_, rfl⟩
    first
      | exact (ediv_neg n d (by omega) (by omega)).symm
      | exact (ediv_pos n d (by omega) (by omega)).symm
theorem rdown_any (n d : Int) (w : World) (h1 : -4611686018427387904 ≤ n) (h2 : n ≤ 4611686018427387904) (hz2 : 1 ≤ d) (hd2 : d ≤ 4398046511104) :
    Calls Try.prog 25 #[.int .i64 n, .int .i64 d] w fun e w' => e = .returned (.int .i64 (n / d)) ∧ w = w' := by
  have F := Lib.hid (tdiv_parts n d (by omega))
  have G := Lib.hid (tdiv_bd n d 4611686018427387904 (by omega) h1 h2)
  go_enter Try.func25, Try.ntmps25
  obtain ⟨-, a, b, -, -⟩ := F.out
  have G' := G.out
  go_wp2
  all_goals
    go_ret
    refine ⟨Num.ret_int ?_, rfl⟩
    first
      | exact (ediv_neg n d (by omega) (by omega)).symm
      | exact (ediv_pos n d (by omega) (by omega)).symm
end Go.Proofs.Ytjbmochndpdolaa.TriB
