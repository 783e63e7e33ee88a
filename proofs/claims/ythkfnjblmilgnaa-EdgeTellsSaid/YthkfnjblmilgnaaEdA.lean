/-
  Side, Area, Turned, upperOrLeft, Edges: both answers.
-/
import Derived.Test.YthkfnjblmilgnaaEdM
import Derived.Test.YthkfnjblmilgnaaMid
import Derived.Test.YthkfnjblmilgnaaNum
import Derived.Test.YthkfnjblmilgnaaEq
namespace Go.Proofs.Ythkfnjblmilgnaa.EdA
open Go.RowKit FixA Num Rd Go.Proofs.Ythkfnjblmilgnaa.Row Mid EdM
set_option linter.unusedVariables false
set_option linter.unusedSimpArgs false
set_option maxRecDepth 10000
theorem cs_extract (t : List Int) (i : Nat) : (cs .i64 t).extract (6 * i) (6 * i + 6) = cs .i64 (sp t i) := by
  simp only [cs, sp, List.extract_toArray, List.map_take, List.map_drop]
  simp [List.extract_eq_take_drop]
theorem load_hit (x : Value) : Instr.loadAt 31 x = loadRow 31 x := rfl
theorem store_hit (x v : Value) : Instr.storeAt 31 x v = storeRow 31 x v := rfl
theorem store_spot (x v : Value) : Instr.storeAt 23 x v = storeRow 23 x v := rfl
theorem run_load_hit (g o : Nat) (W : World) : (loadRow 31 (.pointer (some ⟨g, o, none⟩))).run Try.prog W = midLoad Try.prog 31 5 g o W := run_loadMid Try.underlying31 rfl (by kernel_rfl) g o W
theorem run_store_hit (g o : Nat) (c : Array Value) (W : World) : (storeRow 31 (.pointer (some ⟨g, o, none⟩)) (.agg c)).run Try.prog W = rowStore Try.prog 31 5 g o c W := run_storeRow (by kernel_rfl) g o c W
theorem run_store_spot (g o : Nat) (c : Array Value) (W : World) : (storeRow 23 (.pointer (some ⟨g, o, none⟩)) (.agg c)).run Try.prog W = rowStore Try.prog 23 6 g o c W := run_storeRow (by kernel_rfl) g o c W
theorem load_spot (x : Value) : Instr.loadAt 23 x = loadRow 23 x := rfl
theorem load_tri (x : Value) : Instr.loadAt 24 x = loadRow 24 x := rfl
theorem load_w3 (x : Value) : Instr.loadAt 29 x = loadRow 29 x := rfl
theorem store_tri (x v : Value) : Instr.storeAt 24 x v = storeRow 24 x v := rfl
theorem store_w3 (x v : Value) : Instr.storeAt 29 x v = storeRow 29 x v := rfl
theorem run_load_spot (g o : Nat) (W : World) : (loadRow 23 (.pointer (some ⟨g, o, none⟩))).run Try.prog W = midLoad Try.prog 23 6 g o W := run_loadMid Try.underlying23 rfl (by kernel_rfl) g o W
theorem run_load_tri (g o : Nat) (W : World) : (loadRow 24 (.pointer (some ⟨g, o, none⟩))).run Try.prog W = rowLoad Try.prog 24 18 g o W := run_loadRow Try.underlying24 rfl (by kernel_rfl) g o W
theorem run_load_w3 (g o : Nat) (W : World) : (loadRow 29 (.pointer (some ⟨g, o, none⟩))).run Try.prog W = rowLoad Try.prog 29 3 g o W := run_loadRow Try.underlying29 rfl (by kernel_rfl) g o W
theorem run_store_tri (g o : Nat) (c : Array Value) (W : World) : (storeRow 24 (.pointer (some ⟨g, o, none⟩)) (.agg c)).run Try.prog W = rowStore Try.prog 24 18 g o c W := run_storeRow (by kernel_rfl) g o c W
theorem run_store_w3 (g o : Nat) (c : Array Value) (W : World) : (storeRow 29 (.pointer (some ⟨g, o, none⟩)) (.agg c)).run Try.prog W = rowStore Try.prog 29 3 g o c W := run_storeRow (by kernel_rfl) g o c W
theorem ext0 (t : List Int) : piece (cs .i64 t) 0 6 = cs .i64 (sp t 0) := cs_extract t 0
theorem ext1 (t : List Int) : piece (cs .i64 t) 6 6 = cs .i64 (sp t 1) := cs_extract t 1
theorem ext2 (t : List Int) : piece (cs .i64 t) 12 6 = cs .i64 (sp t 2) := cs_extract t 2
theorem ret_int {k : IntKind} {a b : Int} (h : a = b) : Ending.returned (.int k a) = .returned (.int k b) := by rw [h]
theorem sd_bd {ax ay bx by_ x y : Int} (ha : Bd ax ay) (hb : Bd bx by_) (hx : Pt x) (hy : Pt y) :
    -1800000000 ≤ sd ax ay bx by_ x y ∧ sd ax ay bx by_ x y ≤ 1800000000 := by
  obtain ⟨a0, a1, a2, a3⟩ := ha
  obtain ⟨b0, b1, b2, b3⟩ := hb
  have p := prod_bd (a := bx - ax) (b := y - ay) (A := 16384) (B := 49152) (by omega) (by omega) (by omega) (by omega)
  have q := prod_bd (a := by_ - ay) (b := x - ax) (A := 16384) (B := 49152) (by omega) (by omega) (by omega) (by omega)
  unfold sd
  omega
theorem Tri.ed0_bd {t : List Int} {x y : Int} (h : Tri t) (hx : Pt x) (hy : Pt y) : -1800000000 ≤ ed0 t x y ∧ ed0 t x y ≤ 1800000000 := sd_bd h.b1 h.b2 hx hy
theorem Tri.ed1_bd {t : List Int} {x y : Int} (h : Tri t) (hx : Pt x) (hy : Pt y) : -1800000000 ≤ ed1 t x y ∧ ed1 t x y ≤ 1800000000 := sd_bd h.b2 h.b0 hx hy
theorem Tri.ed2_bd {t : List Int} {x y : Int} (h : Tri t) (hx : Pt x) (hy : Pt y) : -1800000000 ≤ ed2 t x y ∧ ed2 t x y ≤ 1800000000 := sd_bd h.b0 h.b1 hx hy
theorem bd_pt {x y : Int} (h : Bd x y) : Pt x ∧ Pt y := by obtain ⟨a, b, c, d⟩ := h; exact ⟨⟨by omega, by omega⟩, ⟨by omega, by omega⟩⟩
theorem Tri.area_bd {t : List Int} (h : Tri t) : -1800000000 ≤ area t ∧ area t ≤ 1800000000 := sd_bd h.b0 h.b1 (bd_pt h.b2).1 (bd_pt h.b2).2
attribute [local go_sem ↓] load_tri store_tri load_w3 store_w3 load_spot store_spot load_hit store_hit
attribute [local go_sem] one_int run_load_spot run_load_tri run_load_w3 run_load_hit run_store_tri run_store_w3 run_store_spot run_store_hit rowLoad_eq rowStore_eq midLoad_eq ext0 ext1 ext2 blk_alloc_at blk_alloc_old blk_drew blk_drewN blk_set_far blk_set_far' blk_grow setRow_alloc_at setRow_alloc_old setRow_drew setRow_drewN all_map

theorem side_any (a b : List Int) (ha : SpL a) (hb : SpL b) (x y : Int) (hx : Pt x) (hy : Pt y) (w : World) :
    Calls Try.prog 16 #[.agg (cs .i64 a), .agg (cs .i64 b), .int .i64 x, .int .i64 y] w fun e w' => e = .returned (.int .i64 (sd (g a 0) (g a 1) (g b 0) (g b 1) x y)) ∧ Below w.heap.size w w' := by
  obtain ⟨la, ⟨a0, a1, a2, a3⟩⟩ := ha
  obtain ⟨lb, ⟨b0, b1, b2, b3⟩⟩ := hb
  have la0 : 0 < a.length := by omega
  have la1 : 1 < a.length := by omega
  have lb0 : 0 < b.length := by omega
  have lb1 : 1 < b.length := by omega
  simp only [g, List.getD, la0, la1, lb0, lb1, List.getElem?_eq_getElem, Option.getD_some] at a0 a1 a2 a3 b0 b1 b2 b3 ⊢
  obtain ⟨p0, p1⟩ := prod_bd (a := b[0] - a[0]) (b := y - a[1]) (A := 16384) (B := 49152) (by omega) (by omega) (by omega) (by omega)
  obtain ⟨q0, q1⟩ := prod_bd (a := b[1] - a[1]) (b := x - a[0]) (A := 16384) (B := 49152) (by omega) (by omega) (by omega) (by omega)
  go_enter Try.func16, Try.ntmps16
  go_wp2
  go_ret
  exact ⟨rfl, by repeat' (first | (with_reducible exact Below.refl _ _) | (with_reducible refine Rd.below_step ?_ (by assumption)) | (with_reducible refine Rd.below_alloc ?_ _) | (with_reducible refine Rd.below_drewN ?_ _) | (with_reducible refine Below.drew ?_) | (with_reducible refine Below.setCell ?_ ?_ _) | (with_reducible refine Rd.below_setRow ?_ ?_ _) | go_size | (simp only [World.size_alloc]; omega) | omega)⟩

theorem rside_any (a b : List Int) (ha : SpL a) (hb : SpL b) (x y : Int) (hx : Pt x) (hy : Pt y) (w : World) :
    Calls Try.prog 17 #[.agg (cs .i64 a), .agg (cs .i64 b), .int .i64 x, .int .i64 y] w fun e w' => e = .returned (.int .i64 (sd (g a 0) (g a 1) (g b 0) (g b 1) x y)) ∧ Below w.heap.size w w' := by
  obtain ⟨la, ⟨a0, a1, a2, a3⟩⟩ := ha
  obtain ⟨lb, ⟨b0, b1, b2, b3⟩⟩ := hb
  have la0 : 0 < a.length := by omega
  have la1 : 1 < a.length := by omega
  have lb0 : 0 < b.length := by omega
  have lb1 : 1 < b.length := by omega
  simp only [g, List.getD, la0, la1, lb0, lb1, List.getElem?_eq_getElem, Option.getD_some] at a0 a1 a2 a3 b0 b1 b2 b3 ⊢
  obtain ⟨p0, p1⟩ := prod_bd (a := b[0] - a[0]) (b := y - a[1]) (A := 16384) (B := 49152) (by omega) (by omega) (by omega) (by omega)
  obtain ⟨q0, q1⟩ := prod_bd (a := b[1] - a[1]) (b := x - a[0]) (A := 16384) (B := 49152) (by omega) (by omega) (by omega) (by omega)
  go_enter Try.func17, Try.ntmps17
  go_wp2
  go_ret
  exact ⟨rfl, by repeat' (first | (with_reducible exact Below.refl _ _) | (with_reducible refine Rd.below_step ?_ (by assumption)) | (with_reducible refine Rd.below_alloc ?_ _) | (with_reducible refine Rd.below_drewN ?_ _) | (with_reducible refine Below.drew ?_) | (with_reducible refine Below.setCell ?_ ?_ _) | (with_reducible refine Rd.below_setRow ?_ ?_ _) | go_size | (simp only [World.size_alloc]; omega) | omega)⟩
theorem side01 (t : List Int) (h : Tri t) (x y : Int) (hx : Pt x) (hy : Pt y) (w : World) :
    Calls Try.prog 16 #[.agg (cs .i64 (sp t 0)), .agg (cs .i64 (sp t 1)), .int .i64 x, .int .i64 y] w fun e w' => e = .returned (.int .i64 (ed2 t x y)) ∧ Below w.heap.size w w' := by
  have := side_any (sp t 0) (sp t 1) h.sp0 h.sp1 x y hx hy w
  rw [sp_g _ _ 0 (by omega), sp_g _ _ 1 (by omega), sp_g _ _ 0 (by omega), sp_g _ _ 1 (by omega)] at this
  exact this
theorem side12 (t : List Int) (h : Tri t) (x y : Int) (hx : Pt x) (hy : Pt y) (w : World) :
    Calls Try.prog 16 #[.agg (cs .i64 (sp t 1)), .agg (cs .i64 (sp t 2)), .int .i64 x, .int .i64 y] w fun e w' => e = .returned (.int .i64 (ed0 t x y)) ∧ Below w.heap.size w w' := by
  have := side_any (sp t 1) (sp t 2) h.sp1 h.sp2 x y hx hy w
  rw [sp_g _ _ 0 (by omega), sp_g _ _ 1 (by omega), sp_g _ _ 0 (by omega), sp_g _ _ 1 (by omega)] at this
  exact this
theorem side20 (t : List Int) (h : Tri t) (x y : Int) (hx : Pt x) (hy : Pt y) (w : World) :
    Calls Try.prog 16 #[.agg (cs .i64 (sp t 2)), .agg (cs .i64 (sp t 0)), .int .i64 x, .int .i64 y] w fun e w' => e = .returned (.int .i64 (ed1 t x y)) ∧ Below w.heap.size w w' := by
  have := side_any (sp t 2) (sp t 0) h.sp2 h.sp0 x y hx hy w
  rw [sp_g _ _ 0 (by omega), sp_g _ _ 1 (by omega), sp_g _ _ 0 (by omega), sp_g _ _ 1 (by omega)] at this
  exact this
theorem rside01 (t : List Int) (h : Tri t) (x y : Int) (hx : Pt x) (hy : Pt y) (w : World) :
    Calls Try.prog 17 #[.agg (cs .i64 (sp t 0)), .agg (cs .i64 (sp t 1)), .int .i64 x, .int .i64 y] w fun e w' => e = .returned (.int .i64 (ed2 t x y)) ∧ Below w.heap.size w w' := by
  have := rside_any (sp t 0) (sp t 1) h.sp0 h.sp1 x y hx hy w
  rw [sp_g _ _ 0 (by omega), sp_g _ _ 1 (by omega), sp_g _ _ 0 (by omega), sp_g _ _ 1 (by omega)] at this
  exact this
theorem rside12 (t : List Int) (h : Tri t) (x y : Int) (hx : Pt x) (hy : Pt y) (w : World) :
    Calls Try.prog 17 #[.agg (cs .i64 (sp t 1)), .agg (cs .i64 (sp t 2)), .int .i64 x, .int .i64 y] w fun e w' => e = .returned (.int .i64 (ed0 t x y)) ∧ Below w.heap.size w w' := by
  have := rside_any (sp t 1) (sp t 2) h.sp1 h.sp2 x y hx hy w
  rw [sp_g _ _ 0 (by omega), sp_g _ _ 1 (by omega), sp_g _ _ 0 (by omega), sp_g _ _ 1 (by omega)] at this
  exact this
theorem rside20 (t : List Int) (h : Tri t) (x y : Int) (hx : Pt x) (hy : Pt y) (w : World) :
    Calls Try.prog 17 #[.agg (cs .i64 (sp t 2)), .agg (cs .i64 (sp t 0)), .int .i64 x, .int .i64 y] w fun e w' => e = .returned (.int .i64 (ed1 t x y)) ∧ Below w.heap.size w w' := by
  have := rside_any (sp t 2) (sp t 0) h.sp2 h.sp0 x y hx hy w
  rw [sp_g _ _ 0 (by omega), sp_g _ _ 1 (by omega), sp_g _ _ 0 (by omega), sp_g _ _ 1 (by omega)] at this
  exact this
theorem area_any (t : List Int) (h : Tri t) (w : World) :
    Calls Try.prog 14 #[.agg (cs .i64 t)] w fun e w' => e = .returned (.int .i64 (area t)) ∧ Below w.heap.size w w' := by
  have hl := h.len
  have l12 : 12 < t.length := by omega
  have l13 : 13 < t.length := by omega
  have e12 : g t 12 = t[12] := by simp [g, List.getD, l12]
  have e13 : g t 13 = t[13] := by simp [g, List.getD, l13]
  have P12 : Pt t[12] := e12 ▸ (bd_pt h.b2).1
  have P13 : Pt t[13] := e13 ▸ (bd_pt h.b2).2
  have EA : ed2 t t[12] t[13] = area t := by unfold ed2 area; rw [e12, e13]
  clear e12 e13
  have HE := Lib.hid EA
  clear EA
  go_enter Try.func14, Try.ntmps14
  go_wp2_with (go_at_call 16; refine (side01 t h _ _ P12 P13 _).mono ?_; rintro e w' ⟨rfl, hb⟩)
  go_ret
  exact ⟨Num.ret_int HE.out, by repeat' (first | (with_reducible exact Below.refl _ _) | (with_reducible refine Rd.below_step ?_ (by assumption)) | (with_reducible refine Rd.below_alloc ?_ _) | (with_reducible refine Rd.below_drewN ?_ _) | (with_reducible refine Below.drew ?_) | (with_reducible refine Below.setCell ?_ ?_ _) | (with_reducible refine Rd.below_setRow ?_ ?_ _) | go_size | (simp only [World.size_alloc]; omega) | omega)⟩
theorem rarea_any (t : List Int) (h : Tri t) (w : World) :
    Calls Try.prog 15 #[.agg (cs .i64 t)] w fun e w' => e = .returned (.int .i64 (area t)) ∧ Below w.heap.size w w' := by
  have hl := h.len
  have l12 : 12 < t.length := by omega
  have l13 : 13 < t.length := by omega
  have e12 : g t 12 = t[12] := by simp [g, List.getD, l12]
  have e13 : g t 13 = t[13] := by simp [g, List.getD, l13]
  have P12 : Pt t[12] := e12 ▸ (bd_pt h.b2).1
  have P13 : Pt t[13] := e13 ▸ (bd_pt h.b2).2
  have EA : ed2 t t[12] t[13] = area t := by unfold ed2 area; rw [e12, e13]
  clear e12 e13
  have HE := Lib.hid EA
  clear EA
  go_enter Try.func15, Try.ntmps15
  go_wp2_with (go_at_call 17; refine (rside01 t h _ _ P12 P13 _).mono ?_; rintro e w' ⟨rfl, hb⟩)
  go_ret
  exact ⟨Num.ret_int HE.out, by repeat' (first | (with_reducible exact Below.refl _ _) | (with_reducible refine Rd.below_step ?_ (by assumption)) | (with_reducible refine Rd.below_alloc ?_ _) | (with_reducible refine Rd.below_drewN ?_ _) | (with_reducible refine Below.drew ?_) | (with_reducible refine Below.setCell ?_ ?_ _) | (with_reducible refine Rd.below_setRow ?_ ?_ _) | go_size | (simp only [World.size_alloc]; omega) | omega)⟩
theorem info_w3 : (Try.prog.info? 29).map (·.size) = some 3 := by kernel_rfl
theorem info_tri : (Try.prog.info? 24).map (·.size) = some 18 := by kernel_rfl
theorem info_hit : (Try.prog.info? 31).map (·.size) = some 5 := by kernel_rfl
theorem ret_w3 {fn : Func} {R : Ending → World → Prop} {a : Act} {W : World} {p : Tmp} (h : fn.results = #[.cell p 29]) (g : Nat) (l : List Int) (hp : a.tmps.getD p undef = .pointer (some ⟨g, 0, none⟩)) (hl : l.length = 3)
    (hg : blk W g = some (.cells (cs .i64 l) 29 (0, 0))) (hd : a.defers = []) (hR : R (.returned (.agg (cs .i64 l))) W) : bodyPost Try.prog fn R .ret a W :=
  bodyPost_ret (results_row1 h _ _ g _ _ _ _ hp hg Try.underlying29 rfl (by rw [info_w3]; simp [hl])) hd hR
theorem ret_w3b {fn : Func} {R : Ending → World → Prop} {a : Act} {W : World} {p q : Tmp} (h : fn.results = #[.cell p 29, .tmp q]) (g : Nat) (l : List Int) (hp : a.tmps.getD p undef = .pointer (some ⟨g, 0, none⟩)) (hl : l.length = 3)
    (hg : blk W g = some (.cells (cs .i64 l) 29 (0, 0))) (hd : a.defers = []) (hR : R (.returned (.tuple #[.agg (cs .i64 l), a.tmps.getD q undef])) W) : bodyPost Try.prog fn R .ret a W :=
  bodyPost_ret (results_row2 h _ _ g _ _ _ _ hp hg Try.underlying29 rfl (by rw [info_w3]; simp [hl])) hd hR
theorem ret_tri2 {fn : Func} {R : Ending → World → Prop} {a : Act} {W : World} {p q : Tmp} (h : fn.results = #[.cell p 24, .tmp q]) (g : Nat) (l : List Int) (hp : a.tmps.getD p undef = .pointer (some ⟨g, 0, none⟩)) (hl : l.length = 18)
    (hg : blk W g = some (.cells (cs .i64 l) 24 (0, 0))) (hd : a.defers = []) (hR : R (.returned (.tuple #[.agg (cs .i64 l), a.tmps.getD q undef])) W) : bodyPost Try.prog fn R .ret a W :=
  bodyPost_ret (results_row2 h _ _ g _ _ _ _ hp hg Try.underlying24 rfl (by rw [info_tri]; simp [hl])) hd hR
theorem ret_hit2 {fn : Func} {R : Ending → World → Prop} {a : Act} {W : World} {p q : Tmp} (h : fn.results = #[.cell p 31, .tmp q]) (g : Nat) (l : List Int) (hp : a.tmps.getD p undef = .pointer (some ⟨g, 0, none⟩)) (hl : l.length = 5)
    (hg : blk W g = some (.cells (cs .i64 l) 31 (0, 0))) (hd : a.defers = []) (hR : R (.returned (.tuple #[.agg (cs .i64 l), a.tmps.getD q undef])) W) : bodyPost Try.prog fn R .ret a W :=
  bodyPost_ret (results_row2 h _ _ g _ _ _ _ hp hg Try.underlying31 rfl (by rw [info_hit]; simp [hl])) hd hR
theorem len6 {l : List Int} (h : l.length = 6) : ∃ a b c d e f, l = [a, b, c, d, e, f] := by
  match l, h with
  | [a, b, c, d, e, f], _ => exact ⟨a, b, c, d, e, f, rfl⟩
theorem run_build_tri (a b c : List Int) (w : World) (ha : a.length = 6) (hb : b.length = 6) (hc : c.length = 6) : (Instr.build 24 #[(0, .agg (cs .i64 a)), (1, .agg (cs .i64 b)), (2, .agg (cs .i64 c))]).run Try.prog w = .ok (.agg (cs .i64 (a ++ b ++ c))) w := by
  obtain ⟨a0, a1, a2, a3, a4, a5, rfl⟩ := len6 ha
  obtain ⟨b0, b1, b2, b3, b4, b5, rfl⟩ := len6 hb
  obtain ⟨c0, c1, c2, c3, c4, c5, rfl⟩ := len6 hc
  exact run_build _ _ _ _ (by kernel_rfl)
theorem built_tri (a b c : List Int) (ha : a.length = 6) (hb : b.length = 6) (hc : c.length = 6) : Try.prog.built 24 [(0, .agg (cs .i64 a)), (1, .agg (cs .i64 b)), (2, .agg (cs .i64 c))] = some (cs .i64 (a ++ b ++ c)) := by
  obtain ⟨a0, a1, a2, a3, a4, a5, rfl⟩ := len6 ha
  obtain ⟨b0, b1, b2, b3, b4, b5, rfl⟩ := len6 hb
  obtain ⟨c0, c1, c2, c3, c4, c5, rfl⟩ := len6 hc
  kernel_rfl
theorem wpList_build_tri {ops : Array Oper} {rest : List Oper} {o : Oper} {a : Act} {w : World} {Q : Exit → Act → World → Prop} (hg : o.guard = none) (x y z : Operand) (ho : o.op = .build 24 #[(0, x), (1, y), (2, z)])
    (p q r : List Int) (hx : a.eval x = .agg (cs .i64 p)) (hy : a.eval y = .agg (cs .i64 q)) (hz : a.eval z = .agg (cs .i64 r)) (lp : p.length = 6) (lq : q.length = 6) (lr : r.length = 6)
    (h : wpList Try.prog ops Q rest (a.put o.dst (.agg (cs .i64 (p ++ q ++ r)))) w) : wpList Try.prog ops Q (o :: rest) a w := by
  have e : Try.prog.built 24 ((#[(0, x), (1, y), (2, z)] : Array (Nat × Operand)).map fun (i, x) => (i, a.eval x)).toList = some (cs .i64 (p ++ q ++ r)) := by
    simp only [List.map_toArray, List.map_cons, List.map_nil, hx, hy, hz]
    exact built_tri p q r lp lq lr
  refine wpList_build hg 24 #[(0, x), (1, y), (2, z)] ho (by rw [e]; rfl) ?_
  rw [e]
  exact h
theorem fold_turn (t : List Int) : sp t 0 ++ sp t 2 ++ sp t 1 = turnL t := rfl
attribute [local go_sem] fold_turn
theorem tri_app (t : List Int) : piece (cs .i64 t) 0 6 ++ piece (cs .i64 t) 12 6 ++ piece (cs .i64 t) 6 6 = cs .i64 (turnL t) := by
  rw [ext0, ext1, ext2]
  simp [turnL, cs, List.map_append]
theorem turned_any (t : List Int) (h : Tri t) (w : World) :
    Calls Try.prog 10 #[.agg (cs .i64 t)] w fun e w' => e = .returned (.tuple #[.agg (cs .i64 (turnedV t)), .bool (turnedB t)]) ∧ Below w.heap.size w w' := by
  have hl := h.len
  have l0 := sp_len hl 0 (by omega)
  have l1 := sp_len hl 1 (by omega)
  have l2 := sp_len hl 2 (by omega)
  have lt := turn_len hl
  have CA : Hid (∀ X : World, Calls Try.prog 14 #[.agg (cs .i64 t)] X fun e w' => e = .returned (.int .i64 (area t)) ∧ Below X.heap.size X w') := Lib.hid fun X => area_any t h X
  unfold turnedV turnedB
  obtain ⟨n, en⟩ : ∃ n, area t = n := ⟨_, rfl⟩
  rw [en] at CA ⊢
  clear en
  by_cases hp : 0 < n
  · rw [if_pos hp, decide_eq_true (show n ≠ 0 by omega)]
    go_enter Try.func10, Try.ntmps10
    go_wp2_with fail
    refine (CA.out _).mono ?_
    rintro e w1 ⟨rfl, hb⟩
    have b1 : blk w1 w.heap.size = some (.cells (cs .i64 t) 24 (0, 0)) := (blk_below hb _ (by simp; omega)).trans (blk2_0 _ _ _)
    have z1 : blk w1 (w.heap.size + 1) = some (.cells (cs .i64 zeroL) 24 (0, 0)) := (blk_below hb _ (by simp)).trans (blk2_1 _ _ _)
    have L1 : Below w.heap.size w w1 := by repeat' (first | (with_reducible exact Below.refl _ _) | (with_reducible refine Rd.below_step ?_ (by assumption)) | (with_reducible refine Rd.below_alloc ?_ _) | (with_reducible refine Rd.below_drewN ?_ _) | (with_reducible refine Below.drew ?_) | (with_reducible refine Below.setCell ?_ ?_ _) | (with_reducible refine Rd.below_setRow ?_ ?_ _) | go_size | (simp only [World.size_alloc]; omega) | omega)
    clear hb
    go_wp2
    refine ret_tri2 rfl (w.heap.size + 1) t rfl hl (blk_setRow_of z1 _) rfl ⟨rfl, ?_⟩
    exact Rd.below_setRow L1 (by omega) _
  · by_cases hn : n < 0
    · rw [if_neg hp, if_pos hn, decide_eq_true (show n ≠ 0 by omega)]
      go_enter Try.func10, Try.ntmps10
      go_wp2_with fail
      refine (CA.out _).mono ?_
      rintro e w1 ⟨rfl, hb⟩
      have b1 : blk w1 w.heap.size = some (.cells (cs .i64 t) 24 (0, 0)) := (blk_below hb _ (by simp; omega)).trans (blk2_0 _ _ _)
      have z1 : blk w1 (w.heap.size + 1) = some (.cells (cs .i64 zeroL) 24 (0, 0)) := (blk_below hb _ (by simp)).trans (blk2_1 _ _ _)
      have L1 : Below w.heap.size w w1 := by repeat' (first | (with_reducible exact Below.refl _ _) | (with_reducible refine Rd.below_step ?_ (by assumption)) | (with_reducible refine Rd.below_alloc ?_ _) | (with_reducible refine Rd.below_drewN ?_ _) | (with_reducible refine Below.drew ?_) | (with_reducible refine Below.setCell ?_ ?_ _) | (with_reducible refine Rd.below_setRow ?_ ?_ _) | go_size | (simp only [World.size_alloc]; omega) | omega)
      clear hb
      go_wp2_with (refine wpList_build_tri rfl (.tmp 15) (.tmp 17) (.tmp 19) rfl (sp t 0) (sp t 2) (sp t 1) rfl rfl rfl l0 l2 l1 ?_; rw [fold_turn])
      refine ret_tri2 rfl (w.heap.size + 1) (turnL t) rfl (turn_len hl) ?_ rfl ⟨rfl, ?_⟩
      · exact blk_setRow_of z1 _
      · exact Rd.below_setRow L1 (by omega) _
    · rw [if_neg hp, if_neg hn, decide_eq_false (show ¬ n ≠ 0 by omega)]
      go_enter Try.func10, Try.ntmps10
      go_wp2_with fail
      refine (CA.out _).mono ?_
      rintro e w1 ⟨rfl, hb⟩
      have b1 : blk w1 w.heap.size = some (.cells (cs .i64 t) 24 (0, 0)) := (blk_below hb _ (by simp; omega)).trans (blk2_0 _ _ _)
      have z1 : blk w1 (w.heap.size + 1) = some (.cells (cs .i64 zeroL) 24 (0, 0)) := (blk_below hb _ (by simp)).trans (blk2_1 _ _ _)
      have L1 : Below w.heap.size w w1 := by repeat' (first | (with_reducible exact Below.refl _ _) | (with_reducible refine Rd.below_step ?_ (by assumption)) | (with_reducible refine Rd.below_alloc ?_ _) | (with_reducible refine Rd.below_drewN ?_ _) | (with_reducible refine Below.drew ?_) | (with_reducible refine Below.setCell ?_ ?_ _) | (with_reducible refine Rd.below_setRow ?_ ?_ _) | go_size | (simp only [World.size_alloc]; omega) | omega)
      clear hb
      go_wp2
      refine ret_tri2 rfl (w.heap.size + 1) zeroL rfl rfl (blk_setRow_of z1 _) rfl ⟨rfl, ?_⟩
      exact Rd.below_setRow L1 (by omega) _
theorem rturned_any (t : List Int) (h : Tri t) (w : World) :
    Calls Try.prog 11 #[.agg (cs .i64 t)] w fun e w' => e = .returned (.tuple #[.agg (cs .i64 (turnedV t)), .bool (turnedB t)]) ∧ Below w.heap.size w w' := by
  have hl := h.len
  have l0 := sp_len hl 0 (by omega)
  have l1 := sp_len hl 1 (by omega)
  have l2 := sp_len hl 2 (by omega)
  have lt := turn_len hl
  have CA : Hid (∀ X : World, Calls Try.prog 15 #[.agg (cs .i64 t)] X fun e w' => e = .returned (.int .i64 (area t)) ∧ Below X.heap.size X w') := Lib.hid fun X => rarea_any t h X
  unfold turnedV turnedB
  obtain ⟨n, en⟩ : ∃ n, area t = n := ⟨_, rfl⟩
  rw [en] at CA ⊢
  clear en
  by_cases hp : 0 < n
  · rw [if_pos hp, decide_eq_true (show n ≠ 0 by omega)]
    go_enter Try.func11, Try.ntmps11
    go_wp2_with fail
    refine (CA.out _).mono ?_
    rintro e w1 ⟨rfl, hb⟩
    have b1 : blk w1 w.heap.size = some (.cells (cs .i64 t) 24 (0, 0)) := (blk_below hb _ (by simp; omega)).trans (blk2_0 _ _ _)
    have z1 : blk w1 (w.heap.size + 1) = some (.cells (cs .i64 zeroL) 24 (0, 0)) := (blk_below hb _ (by simp)).trans (blk2_1 _ _ _)
    have L1 : Below w.heap.size w w1 := by repeat' (first | (with_reducible exact Below.refl _ _) | (with_reducible refine Rd.below_step ?_ (by assumption)) | (with_reducible refine Rd.below_alloc ?_ _) | (with_reducible refine Rd.below_drewN ?_ _) | (with_reducible refine Below.drew ?_) | (with_reducible refine Below.setCell ?_ ?_ _) | (with_reducible refine Rd.below_setRow ?_ ?_ _) | go_size | (simp only [World.size_alloc]; omega) | omega)
    clear hb
    go_wp2
    refine ret_tri2 rfl (w.heap.size + 1) t rfl hl (blk_setRow_of z1 _) rfl ⟨rfl, ?_⟩
    exact Rd.below_setRow L1 (by omega) _
  · by_cases hn : n < 0
    · rw [if_neg hp, if_pos hn, decide_eq_true (show n ≠ 0 by omega)]
      go_enter Try.func11, Try.ntmps11
      go_wp2_with fail
      refine (CA.out _).mono ?_
      rintro e w1 ⟨rfl, hb⟩
      have b1 : blk w1 w.heap.size = some (.cells (cs .i64 t) 24 (0, 0)) := (blk_below hb _ (by simp; omega)).trans (blk2_0 _ _ _)
      have z1 : blk w1 (w.heap.size + 1) = some (.cells (cs .i64 zeroL) 24 (0, 0)) := (blk_below hb _ (by simp)).trans (blk2_1 _ _ _)
      have L1 : Below w.heap.size w w1 := by repeat' (first | (with_reducible exact Below.refl _ _) | (with_reducible refine Rd.below_step ?_ (by assumption)) | (with_reducible refine Rd.below_alloc ?_ _) | (with_reducible refine Rd.below_drewN ?_ _) | (with_reducible refine Below.drew ?_) | (with_reducible refine Below.setCell ?_ ?_ _) | (with_reducible refine Rd.below_setRow ?_ ?_ _) | go_size | (simp only [World.size_alloc]; omega) | omega)
      clear hb
      go_wp2_with (refine wpList_build_tri rfl (.tmp 15) (.tmp 17) (.tmp 19) rfl (sp t 0) (sp t 2) (sp t 1) rfl rfl rfl l0 l2 l1 ?_; rw [fold_turn])
      refine ret_tri2 rfl (w.heap.size + 1) (turnL t) rfl (turn_len hl) ?_ rfl ⟨rfl, ?_⟩
      · exact blk_setRow_of z1 _
      · exact Rd.below_setRow L1 (by omega) _
    · rw [if_neg hp, if_neg hn, decide_eq_false (show ¬ n ≠ 0 by omega)]
      go_enter Try.func11, Try.ntmps11
      go_wp2_with fail
      refine (CA.out _).mono ?_
      rintro e w1 ⟨rfl, hb⟩
      have b1 : blk w1 w.heap.size = some (.cells (cs .i64 t) 24 (0, 0)) := (blk_below hb _ (by simp; omega)).trans (blk2_0 _ _ _)
      have z1 : blk w1 (w.heap.size + 1) = some (.cells (cs .i64 zeroL) 24 (0, 0)) := (blk_below hb _ (by simp)).trans (blk2_1 _ _ _)
      have L1 : Below w.heap.size w w1 := by repeat' (first | (with_reducible exact Below.refl _ _) | (with_reducible refine Rd.below_step ?_ (by assumption)) | (with_reducible refine Rd.below_alloc ?_ _) | (with_reducible refine Rd.below_drewN ?_ _) | (with_reducible refine Below.drew ?_) | (with_reducible refine Below.setCell ?_ ?_ _) | (with_reducible refine Rd.below_setRow ?_ ?_ _) | go_size | (simp only [World.size_alloc]; omega) | omega)
      clear hb
      go_wp2
      refine ret_tri2 rfl (w.heap.size + 1) zeroL rfl rfl (blk_setRow_of z1 _) rfl ⟨rfl, ?_⟩
      exact Rd.below_setRow L1 (by omega) _
end Go.Proofs.Ythkfnjblmilgnaa.EdA
