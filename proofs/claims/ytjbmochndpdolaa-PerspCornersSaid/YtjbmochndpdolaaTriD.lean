/-
  What is at a point, and how fast it goes: both answers.
-/
import Derived.Test.YtjbmochndpdolaaTriC
namespace Go.Proofs.Ytjbmochndpdolaa.TriD
open Go.RowKit FixA Num Rd Go.Proofs.Ytjbmochndpdolaa.Row TriA TriB TriC
set_option linter.unusedVariables false
set_option linter.unusedSimpArgs false
set_option maxRecDepth 10000
theorem load_pl (x : Value) : Instr.loadAt 47 x = loadRow 47 x := rfl
theorem store_pl (x v : Value) : Instr.storeAt 47 x v = storeRow 47 x v := rfl
theorem run_load_pl (g o : Nat) (W : World) : (loadRow 47 (.pointer (some ⟨g, o, none⟩))).run Try.prog W = rowLoad Try.prog 47 3 g o W := run_loadRow Try.underlying47 rfl (by kernel_rfl) g o W
theorem run_store_pl (g o : Nat) (c : Array Value) (W : World) : (storeRow 47 (.pointer (some ⟨g, o, none⟩)) (.agg c)).run Try.prog W = rowStore Try.prog 47 3 g o c W := run_storeRow (by kernel_rfl) g o c W
theorem one_bool (b : Bool) : (Value.bool b).oneCell' = true := rfl
theorem info_pl : (Try.prog.info? 47).map (·.size) = some 3 := by kernel_rfl
abbrev plc (u v : Int) (b : Bool) : Array Value := #[.int .i64 u, .int .i64 v, .bool b]
theorem ret_pl {fn : Func} {R : Ending → World → Prop} {a : Act} {W : World} {p : Tmp} (h : fn.results = #[.cell p 47]) (g : Nat) (c : Array Value) (hp : a.tmps.getD p undef = .pointer (some ⟨g, 0, none⟩)) (hl : c.size = 3)
    (hg : blk W g = some (.cells c 47 (0, 0))) (hd : a.defers = []) (hR : R (.returned (.agg c)) W) : bodyPost Try.prog fn R .ret a W :=
  bodyPost_ret (results_row1 h _ _ g _ _ _ _ hp hg Try.underlying47 rfl (by rw [info_pl]; simp [hl])) hd hR
attribute [local go_sem ↓] load_tri store_tri load_w3 store_w3 load_spot load_pl store_pl
attribute [local go_sem] one_int one_bool run_load_pl run_store_pl run_load_spot run_load_tri run_load_w3 run_store_tri run_store_w3 rowLoad_eq rowStore_eq midLoad_eq ext0 ext1 ext2 blk_alloc_at blk_alloc_old blk_drew blk_drewN blk_set_far blk_set_far' blk_grow setRow_alloc_at setRow_alloc_old setRow_drew setRow_drewN
attribute [local go_sem high] run_maxT run_minT

def q0 (t : List Int) (x y : Int) : Int := wOne (n0 t x y) (sm t x y)
def q1 (t : List Int) (x y : Int) : Int := wOne (n1 t x y) (sm t x y)
def q2 (t : List Int) (x y : Int) : Int := 65536 - q0 t x y - q1 t x y
theorem weights_no (t : List Int) (h : Tri t) (x y : Int) (hx : Pt x) (hy : Pt y) (hlt : sm t x y < 1) (w : World) :
    Calls Try.prog 10 #[.agg (cs .i64 t), .int .i64 x, .int .i64 y] w fun e w' => e = .returned (.tuple #[.agg (cs .i64 [0, 0, 0]), .bool false]) ∧ Below w.heap.size w w' := by
  have := weights_any t h x y hx hy w
  unfold wV at this; rw [if_pos hlt] at this; exact this
theorem weights_yes (t : List Int) (h : Tri t) (x y : Int) (hx : Pt x) (hy : Pt y) (hlt : 1 ≤ sm t x y) (w : World) :
    Calls Try.prog 10 #[.agg (cs .i64 t), .int .i64 x, .int .i64 y] w fun e w' => e = .returned (.tuple #[.agg (cs .i64 [q0 t x y, q1 t x y, q2 t x y]), .bool true]) ∧ Below w.heap.size w w' := by
  have := weights_any t h x y hx hy w
  unfold wV at this; rw [if_neg (by omega)] at this; exact this
theorem rweights_no (t : List Int) (h : Tri t) (x y : Int) (hx : Pt x) (hy : Pt y) (hlt : sm t x y < 1) (w : World) :
    Calls Try.prog 11 #[.agg (cs .i64 t), .int .i64 x, .int .i64 y] w fun e w' => e = .returned (.tuple #[.agg (cs .i64 [0, 0, 0]), .bool false]) ∧ Below w.heap.size w w' := by
  have := rweights_any t h x y hx hy w
  unfold wV at this; rw [if_pos hlt] at this; exact this
theorem rweights_yes (t : List Int) (h : Tri t) (x y : Int) (hx : Pt x) (hy : Pt y) (hlt : 1 ≤ sm t x y) (w : World) :
    Calls Try.prog 11 #[.agg (cs .i64 t), .int .i64 x, .int .i64 y] w fun e w' => e = .returned (.tuple #[.agg (cs .i64 [q0 t x y, q1 t x y, q2 t x y]), .bool true]) ∧ Below w.heap.size w w' := by
  have := rweights_any t h x y hx hy w
  unfold wV at this; rw [if_neg (by omega)] at this; exact this
def uS (t : List Int) (x y : Int) : Int := q0 t x y * g t 4 + q1 t x y * g t 10 + q2 t x y * g t 16
def vS (t : List Int) (x y : Int) : Int := q0 t x y * g t 5 + q1 t x y * g t 11 + q2 t x y * g t 17
def uV (t : List Int) (x y : Int) : Int := (uS t x y + 32768) / 65536
def vV (t : List Int) (x y : Int) : Int := (vS t x y + 32768) / 65536
def atU (t : List Int) (x y : Int) : Int := if sm t x y < 1 then 0 else uV t x y
def atW (t : List Int) (x y : Int) : Int := if sm t x y < 1 then 0 else vV t x y
def atB (t : List Int) (x y : Int) : Bool := if sm t x y < 1 then false else true
structure QB (t : List Int) (x y : Int) : Prop where
  a : -1048576 ≤ q0 t x y ∧ q0 t x y ≤ 1048576
  b : -1048576 ≤ q1 t x y ∧ q1 t x y ≤ 1048576
  c : -4194304 ≤ q2 t x y ∧ q2 t x y ≤ 4194304
theorem sm_bd {t : List Int} {x y : Int} (h : Tri t) (hx : Pt x) (hy : Pt y) : -3458764513820540928 ≤ sm t x y ∧ sm t x y ≤ 3458764513820540928 := by
  have := n0_bd h hx hy
  have := n1_bd h hx hy
  have := n2_bd h hx hy
  unfold sm; omega
theorem qb {t : List Int} {x y : Int} (h : Tri t) (hx : Pt x) (hy : Pt y) (hlt : ¬ sm t x y < 1) : QB t x y := by
  have a := wOne_bd (n := n0 t x y) (s := sm t x y) (by omega) (sm_bd h hx hy).2
  have b := wOne_bd (n := n1 t x y) (s := sm t x y) (by omega) (sm_bd h hx hy).2
  exact ⟨a, b, by unfold q2 q0 q1; omega⟩
theorem uP {t : List Int} {x y : Int} (h : Tri t) (q : QB t x y) : (-140737488355328 ≤ q0 t x y * g t 4 ∧ q0 t x y * g t 4 ≤ 140737488355328) ∧ (-140737488355328 ≤ q1 t x y * g t 10 ∧ q1 t x y * g t 10 ≤ 140737488355328) ∧ (-562949953421312 ≤ q2 t x y * g t 16 ∧ q2 t x y * g t 16 ≤ 562949953421312) :=
  ⟨prod_bd (A := 1048576) (B := 134217728) q.a.1 q.a.2 h.s0.u0 h.s0.u1, prod_bd (A := 1048576) (B := 134217728) q.b.1 q.b.2 h.s1.u0 h.s1.u1, prod_bd (A := 4194304) (B := 134217728) q.c.1 q.c.2 h.s2.u0 h.s2.u1⟩
theorem vP {t : List Int} {x y : Int} (h : Tri t) (q : QB t x y) : (-140737488355328 ≤ q0 t x y * g t 5 ∧ q0 t x y * g t 5 ≤ 140737488355328) ∧ (-140737488355328 ≤ q1 t x y * g t 11 ∧ q1 t x y * g t 11 ≤ 140737488355328) ∧ (-562949953421312 ≤ q2 t x y * g t 17 ∧ q2 t x y * g t 17 ≤ 562949953421312) :=
  ⟨prod_bd (A := 1048576) (B := 134217728) q.a.1 q.a.2 h.s0.v0 h.s0.v1, prod_bd (A := 1048576) (B := 134217728) q.b.1 q.b.2 h.s1.v0 h.s1.v1, prod_bd (A := 4194304) (B := 134217728) q.c.1 q.c.2 h.s2.v0 h.s2.v1⟩
theorem uV_bd {t : List Int} {x y : Int} (h : Tri t) (q : QB t x y) : -68719476736 ≤ uV t x y ∧ uV t x y ≤ 68719476736 := by
  obtain ⟨a, b, c⟩ := uP h q
  unfold uV uS; omega
theorem vV_bd {t : List Int} {x y : Int} (h : Tri t) (q : QB t x y) : -68719476736 ≤ vV t x y ∧ vV t x y ≤ 68719476736 := by
  obtain ⟨a, b, c⟩ := vP h q
  unfold vV vS; omega
theorem atU_bd {t : List Int} {x y : Int} (h : Tri t) (hx : Pt x) (hy : Pt y) : -68719476736 ≤ atU t x y ∧ atU t x y ≤ 68719476736 := by
  unfold atU; split
  · omega
  · exact uV_bd h (qb h hx hy (by assumption))
theorem atW_bd {t : List Int} {x y : Int} (h : Tri t) (hx : Pt x) (hy : Pt y) : -68719476736 ≤ atW t x y ∧ atW t x y ≤ 68719476736 := by
  unfold atW; split
  · omega
  · exact vV_bd h (qb h hx hy (by assumption))
theorem fold_u (t : List Int) (x y : Int) : q0 t x y * g t 4 + q1 t x y * g t 10 + q2 t x y * g t 16 = uS t x y := rfl
theorem fold_v (t : List Int) (x y : Int) : q0 t x y * g t 5 + q1 t x y * g t 11 + q2 t x y * g t 17 = vS t x y := rfl
theorem pdown_u (t : List Int) (x y : Int) (h : -1000000000000000 ≤ uS t x y ∧ uS t x y ≤ 1000000000000000) (w : World) :
    Calls Try.prog 21 #[.int .i64 (uS t x y + 32768), .int .i64 65536] w fun e w' => e = .returned (.int .i64 (uV t x y)) ∧ w = w' := pdown_any _ _ w (by omega) (by omega) (by omega) (by omega)
theorem pdown_v (t : List Int) (x y : Int) (h : -1000000000000000 ≤ vS t x y ∧ vS t x y ≤ 1000000000000000) (w : World) :
    Calls Try.prog 21 #[.int .i64 (vS t x y + 32768), .int .i64 65536] w fun e w' => e = .returned (.int .i64 (vV t x y)) ∧ w = w' := pdown_any _ _ w (by omega) (by omega) (by omega) (by omega)
section
attribute [local go_sem] fold_u fold_v
set_option maxHeartbeats 1000000 in
theorem at_any (t : List Int) (h : Tri t) (x y : Int) (hx : Pt x) (hy : Pt y) (w : World) :
    Calls Try.prog 29 #[.agg (cs .i64 t), .int .i64 x, .int .i64 y] w fun e w' => e = .returned (.agg (plc (atU t x y) (atW t x y) (atB t x y))) ∧ Below w.heap.size w w' := by
  have hl := h.len
  by_cases hlt : sm t x y < 1
  · have e1 : atU t x y = 0 := by unfold atU; rw [if_pos hlt]
    have e2 : atW t x y = 0 := by unfold atW; rw [if_pos hlt]
    have e3 : atB t x y = false := by unfold atB; rw [if_pos hlt]
    have E1 := Lib.hid e1
    have E2 := Lib.hid e2
    have E3 := Lib.hid e3
    clear e1 e2 e3
    go_enter Try.func29, Try.ntmps29
    go_wp2_with fail
    refine (weights_no t h x y hx hy hlt _).mono ?_
    rintro e w1 ⟨rfl, hb⟩
    have hs := hb.size
    simp only [World.size_alloc] at hs
    have z1 : blk w1 (w.heap.size + 1) = some (.cells (plc 0 0 false) 47 (0, 0)) := (blk_below hb _ (by simp)).trans (by simp [blk_alloc_at, blk_alloc_old])
    have L1 : Below w.heap.size w w1 := by repeat' (first | (with_reducible exact Below.refl _ _) | (with_reducible refine Rd.below_step ?_ (by assumption)) | (with_reducible refine Rd.below_alloc ?_ _) | (with_reducible refine Rd.below_drewN ?_ _) | (with_reducible refine Below.drew ?_) | (with_reducible refine Below.setCell ?_ ?_ _) | (with_reducible refine Rd.below_setRow ?_ ?_ _) | go_size | (simp only [World.size_alloc]; omega) | omega)
    have k1 : w.heap.size + 1 < w1.heap.size := by omega
    clear hb
    go_wp2
    exact ret_pl rfl (w.heap.size + 1) (plc 0 0 false) rfl rfl ((blk_alloc_old _ _ _ (by simp; omega)).trans (blk_setRow_of z1 _)) rfl ⟨by rw [E1.out, E2.out, E3.out]; first | done | rfl, by repeat' (first | (with_reducible exact Below.refl _ _) | (with_reducible refine Rd.below_step ?_ (by assumption)) | (with_reducible refine Rd.below_alloc ?_ _) | (with_reducible refine Rd.below_drewN ?_ _) | (with_reducible refine Below.drew ?_) | (with_reducible refine Below.setCell ?_ ?_ _) | (with_reducible refine Rd.below_setRow ?_ ?_ _) | go_size | (simp only [World.size_alloc]; omega) | omega)⟩
  · have e1 : atU t x y = uV t x y := by unfold atU; rw [if_neg hlt]
    have e2 : atW t x y = vV t x y := by unfold atW; rw [if_neg hlt]
    have e3 : atB t x y = true := by unfold atB; rw [if_neg hlt]
    have E1 := Lib.hid e1
    have E2 := Lib.hid e2
    have E3 := Lib.hid e3
    clear e1 e2 e3
    have q := qb h hx hy hlt
    have hlt' : 1 ≤ sm t x y := by omega
    clear hlt
    go_enter Try.func29, Try.ntmps29
    go_wp2_with fail
    refine (weights_yes t h x y hx hy hlt' _).mono ?_
    rintro e w1 ⟨rfl, hb⟩
    have hs := hb.size
    simp only [World.size_alloc] at hs
    have b0 : blk w1 w.heap.size = some (.cells (cs .i64 t) 24 (0, 0)) := (blk_below hb _ (by simp; omega)).trans (by simp [blk_alloc_at, blk_alloc_old])
    have z1 : blk w1 (w.heap.size + 1) = some (.cells (plc 0 0 false) 47 (0, 0)) := (blk_below hb _ (by simp)).trans (by simp [blk_alloc_at, blk_alloc_old])
    have L1 : Below w.heap.size w w1 := by repeat' (first | (with_reducible exact Below.refl _ _) | (with_reducible refine Rd.below_step ?_ (by assumption)) | (with_reducible refine Rd.below_alloc ?_ _) | (with_reducible refine Rd.below_drewN ?_ _) | (with_reducible refine Below.drew ?_) | (with_reducible refine Below.setCell ?_ ?_ _) | (with_reducible refine Rd.below_setRow ?_ ?_ _) | go_size | (simp only [World.size_alloc]; omega) | omega)
    have k0 : w.heap.size < w1.heap.size := by omega
    have k1 : w.heap.size + 1 < w1.heap.size := by omega
    clear hb
    obtain ⟨a1, a2, a3⟩ := uP h q
    obtain ⟨a4, a5, a6⟩ := vP h q
    have a7 : -1000000000000000 ≤ uS t x y ∧ uS t x y ≤ 1000000000000000 := by unfold uS; omega
    have a8 : -1000000000000000 ≤ vS t x y ∧ vS t x y ≤ 1000000000000000 := by unfold vS; omega
    clear q
    have c4 : w1.cell? ⟨w.heap.size, 4, none⟩ = some (.int .i64 (g t 4)) := by rw [blk_cell b0]; exact cs_at (at_of (l := t) (by omega))
    have c10 : w1.cell? ⟨w.heap.size, 10, none⟩ = some (.int .i64 (g t 10)) := by rw [blk_cell b0]; exact cs_at (at_of (l := t) (by omega))
    have c16 : w1.cell? ⟨w.heap.size, 16, none⟩ = some (.int .i64 (g t 16)) := by rw [blk_cell b0]; exact cs_at (at_of (l := t) (by omega))
    have c5 : w1.cell? ⟨w.heap.size, 5, none⟩ = some (.int .i64 (g t 5)) := by rw [blk_cell b0]; exact cs_at (at_of (l := t) (by omega))
    have c11 : w1.cell? ⟨w.heap.size, 11, none⟩ = some (.int .i64 (g t 11)) := by rw [blk_cell b0]; exact cs_at (at_of (l := t) (by omega))
    have c17 : w1.cell? ⟨w.heap.size, 17, none⟩ = some (.int .i64 (g t 17)) := by rw [blk_cell b0]; exact cs_at (at_of (l := t) (by omega))
    go_wp2_with (go_at_call 21; (first | (with_reducible refine (pdown_u t x y a7 _).mono ?_) | (with_reducible refine (pdown_v t x y a8 _).mono ?_)); rintro e w' ⟨rfl, rfl⟩)
    exact ret_pl rfl (w.heap.size + 1) (plc (uV t x y) (vV t x y) true) rfl rfl ((blk_alloc_old _ _ _ (by simp; omega)).trans (blk_setRow_of z1 _)) rfl ⟨by rw [E1.out, E2.out, E3.out]; first | done | rfl, by repeat' (first | (with_reducible exact Below.refl _ _) | (with_reducible refine Rd.below_step ?_ (by assumption)) | (with_reducible refine Rd.below_alloc ?_ _) | (with_reducible refine Rd.below_drewN ?_ _) | (with_reducible refine Below.drew ?_) | (with_reducible refine Below.setCell ?_ ?_ _) | (with_reducible refine Rd.below_setRow ?_ ?_ _) | go_size | (simp only [World.size_alloc]; omega) | omega)⟩
end

/-! The document's own -/
theorem rdown_u (t : List Int) (x y : Int) (h : -1000000000000000 ≤ uS t x y ∧ uS t x y ≤ 1000000000000000) (w : World) :
    Calls Try.prog 25 #[.int .i64 (32768 + q0 t x y * g t 4 + q1 t x y * g t 10 + q2 t x y * g t 16), .int .i64 65536] w fun e w' => e = .returned (.int .i64 (uV t x y)) ∧ w = w' := by
  have e : 32768 + q0 t x y * g t 4 + q1 t x y * g t 10 + q2 t x y * g t 16 = uS t x y + 32768 := by unfold uS; omega
  rw [e]
  exact TriB.rdown_any _ _ w (by omega) (by omega) (by omega) (by omega)
theorem rdown_v (t : List Int) (x y : Int) (h : -1000000000000000 ≤ vS t x y ∧ vS t x y ≤ 1000000000000000) (w : World) :
    Calls Try.prog 25 #[.int .i64 (32768 + q0 t x y * g t 5 + q1 t x y * g t 11 + q2 t x y * g t 17), .int .i64 65536] w fun e w' => e = .returned (.int .i64 (vV t x y)) ∧ w = w' := by
  have e : 32768 + q0 t x y * g t 5 + q1 t x y * g t 11 + q2 t x y * g t 17 = vS t x y + 32768 := by unfold vS; omega
  rw [e]
  exact TriB.rdown_any _ _ w (by omega) (by omega) (by omega) (by omega)
set_option maxHeartbeats 1000000 in
theorem uv_any (t : List Int) (h : Tri t) (x y : Int) (hx : Pt x) (hy : Pt y) (w : World) :
    Calls Try.prog 30 #[.agg (cs .i64 t), .int .i64 x, .int .i64 y] w fun e w' => e = .returned (.tuple #[.int .i64 (atU t x y), .int .i64 (atW t x y), .bool (atB t x y)]) ∧ Below w.heap.size w w' := by
  have hl := h.len
  by_cases hlt : sm t x y < 1
  · have e1 : atU t x y = 0 := by unfold atU; rw [if_pos hlt]
    have e2 : atW t x y = 0 := by unfold atW; rw [if_pos hlt]
    have e3 : atB t x y = false := by unfold atB; rw [if_pos hlt]
    have E1 := Lib.hid e1
    have E2 := Lib.hid e2
    have E3 := Lib.hid e3
    clear e1 e2 e3
    go_enter Try.func30, Try.ntmps30
    go_wp2_with fail
    refine (rweights_no t h x y hx hy hlt _).mono ?_
    rintro e w1 ⟨rfl, hb⟩
    have hs := hb.size
    simp only [World.size_alloc] at hs
    have L1 : Below w.heap.size w w1 := by repeat' (first | (with_reducible exact Below.refl _ _) | (with_reducible refine Rd.below_step ?_ (by assumption)) | (with_reducible refine Rd.below_alloc ?_ _) | (with_reducible refine Rd.below_drewN ?_ _) | (with_reducible refine Below.drew ?_) | (with_reducible refine Below.setCell ?_ ?_ _) | (with_reducible refine Rd.below_setRow ?_ ?_ _) | go_size | (simp only [World.size_alloc]; omega) | omega)
    clear hb
    go_wp2
    go_returns
    exact ⟨by rw [E1.out, E2.out, E3.out]; first | done | rfl, by repeat' (first | (with_reducible exact Below.refl _ _) | (with_reducible refine Rd.below_step ?_ (by assumption)) | (with_reducible refine Rd.below_alloc ?_ _) | (with_reducible refine Rd.below_drewN ?_ _) | (with_reducible refine Below.drew ?_) | (with_reducible refine Below.setCell ?_ ?_ _) | (with_reducible refine Rd.below_setRow ?_ ?_ _) | go_size | (simp only [World.size_alloc]; omega) | omega)⟩
  · have e1 : atU t x y = uV t x y := by unfold atU; rw [if_neg hlt]
    have e2 : atW t x y = vV t x y := by unfold atW; rw [if_neg hlt]
    have e3 : atB t x y = true := by unfold atB; rw [if_neg hlt]
    have E1 := Lib.hid e1
    have E2 := Lib.hid e2
    have E3 := Lib.hid e3
    clear e1 e2 e3
    have q := qb h hx hy hlt
    have hlt' : 1 ≤ sm t x y := by omega
    clear hlt
    go_enter Try.func30, Try.ntmps30
    go_wp2_with fail
    refine (rweights_yes t h x y hx hy hlt' _).mono ?_
    rintro e w1 ⟨rfl, hb⟩
    have hs := hb.size
    simp only [World.size_alloc] at hs
    have b0 : blk w1 w.heap.size = some (.cells (cs .i64 t) 24 (0, 0)) := (blk_below hb _ (by simp)).trans (by simp [blk_alloc_at, blk_alloc_old])
    have L1 : Below w.heap.size w w1 := by repeat' (first | (with_reducible exact Below.refl _ _) | (with_reducible refine Rd.below_step ?_ (by assumption)) | (with_reducible refine Rd.below_alloc ?_ _) | (with_reducible refine Rd.below_drewN ?_ _) | (with_reducible refine Below.drew ?_) | (with_reducible refine Below.setCell ?_ ?_ _) | (with_reducible refine Rd.below_setRow ?_ ?_ _) | go_size | (simp only [World.size_alloc]; omega) | omega)
    have k0 : w.heap.size < w1.heap.size := by omega
    clear hb
    obtain ⟨a1, a2, a3⟩ := uP h q
    obtain ⟨a4, a5, a6⟩ := vP h q
    have a7 : -1000000000000000 ≤ uS t x y ∧ uS t x y ≤ 1000000000000000 := by unfold uS; omega
    have a8 : -1000000000000000 ≤ vS t x y ∧ vS t x y ≤ 1000000000000000 := by unfold vS; omega
    clear q
    have c4 : w1.cell? ⟨w.heap.size, 4, none⟩ = some (.int .i64 (g t 4)) := by rw [blk_cell b0]; exact cs_at (at_of (l := t) (by omega))
    have c10 : w1.cell? ⟨w.heap.size, 10, none⟩ = some (.int .i64 (g t 10)) := by rw [blk_cell b0]; exact cs_at (at_of (l := t) (by omega))
    have c16 : w1.cell? ⟨w.heap.size, 16, none⟩ = some (.int .i64 (g t 16)) := by rw [blk_cell b0]; exact cs_at (at_of (l := t) (by omega))
    have c5 : w1.cell? ⟨w.heap.size, 5, none⟩ = some (.int .i64 (g t 5)) := by rw [blk_cell b0]; exact cs_at (at_of (l := t) (by omega))
    have c11 : w1.cell? ⟨w.heap.size, 11, none⟩ = some (.int .i64 (g t 11)) := by rw [blk_cell b0]; exact cs_at (at_of (l := t) (by omega))
    have c17 : w1.cell? ⟨w.heap.size, 17, none⟩ = some (.int .i64 (g t 17)) := by rw [blk_cell b0]; exact cs_at (at_of (l := t) (by omega))
    go_wp2
    refine wp_loop_rounds 4 ?_
    iterate 3 (rw [rounds_succ]; go_wp2; go_quiet (fail); go_wp2; go_quiet (fail); go_wp2)
    rw [rounds_succ]
    go_wp2_with (go_at_call 25; (first | (with_reducible refine (rdown_u t x y a7 _).mono ?_) | (with_reducible refine (rdown_v t x y a8 _).mono ?_)); rintro e w' ⟨rfl, rfl⟩)
    go_returns
    exact ⟨by rw [E1.out, E2.out, E3.out]; first | done | rfl, by repeat' (first | (with_reducible exact Below.refl _ _) | (with_reducible refine Rd.below_step ?_ (by assumption)) | (with_reducible refine Rd.below_alloc ?_ _) | (with_reducible refine Rd.below_drewN ?_ _) | (with_reducible refine Below.drew ?_) | (with_reducible refine Below.setCell ?_ ?_ _) | (with_reducible refine Rd.below_setRow ?_ ?_ _) | go_size | (simp only [World.size_alloc]; omega) | omega)⟩

/-! How fast -/
def slU (au hu bu : Int) (ab hb bb : Bool) : Int := if hb && bb then bu - hu else if hb && ab then hu - au else 0
abbrev Pb (u : Int) : Prop := -68719476736 ≤ u ∧ u ≤ 68719476736
theorem slope_any (au av hu hv bu bv : Int) (ab hb bb : Bool) (h1 : Pb au) (h2 : Pb av) (h3 : Pb hu) (h4 : Pb hv) (h5 : Pb bu) (h6 : Pb bv) (w : World) :
    Calls Try.prog 31 #[.agg (plc au av ab), .agg (plc hu hv hb), .agg (plc bu bv bb)] w fun e w' => e = .returned (.tuple #[.int .i64 (slU au hu bu ab hb bb), .int .i64 (slU av hv bv ab hb bb)]) ∧ Below w.heap.size w w' := by
  cases hb
  · go_enter Try.func31, Try.ntmps31
    go_wp2
    go_ret2
    exact ⟨rfl, by repeat' (first | (with_reducible exact Below.refl _ _) | (with_reducible refine Rd.below_step ?_ (by assumption)) | (with_reducible refine Rd.below_alloc ?_ _) | (with_reducible refine Rd.below_drewN ?_ _) | (with_reducible refine Below.drew ?_) | (with_reducible refine Below.setCell ?_ ?_ _) | (with_reducible refine Rd.below_setRow ?_ ?_ _) | go_size | (simp only [World.size_alloc]; omega) | omega)⟩
  · cases bb
    · cases ab
      · go_enter Try.func31, Try.ntmps31
        go_wp2
        go_ret2
        exact ⟨rfl, by repeat' (first | (with_reducible exact Below.refl _ _) | (with_reducible refine Rd.below_step ?_ (by assumption)) | (with_reducible refine Rd.below_alloc ?_ _) | (with_reducible refine Rd.below_drewN ?_ _) | (with_reducible refine Below.drew ?_) | (with_reducible refine Below.setCell ?_ ?_ _) | (with_reducible refine Rd.below_setRow ?_ ?_ _) | go_size | (simp only [World.size_alloc]; omega) | omega)⟩
      · go_enter Try.func31, Try.ntmps31
        go_wp2
        go_quiet (fail)
        go_wp2
        go_ret2
        exact ⟨rfl, by repeat' (first | (with_reducible exact Below.refl _ _) | (with_reducible refine Rd.below_step ?_ (by assumption)) | (with_reducible refine Rd.below_alloc ?_ _) | (with_reducible refine Rd.below_drewN ?_ _) | (with_reducible refine Below.drew ?_) | (with_reducible refine Below.setCell ?_ ?_ _) | (with_reducible refine Rd.below_setRow ?_ ?_ _) | go_size | (simp only [World.size_alloc]; omega) | omega)⟩
    · go_enter Try.func31, Try.ntmps31
      go_wp2
      go_quiet (fail)
      go_wp2
      go_ret2
      exact ⟨rfl, by repeat' (first | (with_reducible exact Below.refl _ _) | (with_reducible refine Rd.below_step ?_ (by assumption)) | (with_reducible refine Rd.below_alloc ?_ _) | (with_reducible refine Rd.below_drewN ?_ _) | (with_reducible refine Below.drew ?_) | (with_reducible refine Below.setCell ?_ ?_ _) | (with_reducible refine Rd.below_setRow ?_ ?_ _) | go_size | (simp only [World.size_alloc]; omega) | omega)⟩
end Go.Proofs.Ytjbmochndpdolaa.TriD
