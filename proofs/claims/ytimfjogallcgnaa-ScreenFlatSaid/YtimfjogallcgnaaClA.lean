/-
  How far one is inside; where a way is cut: both answers.
-/
import Derived.Test.YtimfjogallcgnaaNum
import Derived.Test.YtimfjogallcgnaaMid
import Derived.Test.YtimfjogallcgnaaClM
import Derived.BigGuard
namespace Go.Proofs.Ytimfjogallcgnaa.ClA
open Go.RowKit FixA Num Rd Go.Proofs.Ytimfjogallcgnaa.Row Mid ClM
set_option linter.unusedVariables false
set_option linter.unusedSimpArgs false
set_option maxRecDepth 10000
theorem load_vec (x : Value) : Instr.loadAt 23 x = loadRow 23 x := rfl
theorem load_vx (x : Value) : Instr.loadAt 25 x = loadRow 25 x := rfl
theorem store_vx (x v : Value) : Instr.storeAt 25 x v = storeRow 25 x v := rfl
theorem run_load_vec (g o : Nat) (W : World) : (loadRow 23 (.pointer (some ⟨g, o, none⟩))).run Try.prog W = midLoad Try.prog 23 4 g o W := run_loadMid Try.underlying23 rfl (by kernel_rfl) g o W
theorem run_load_vx (g o : Nat) (W : World) : (loadRow 25 (.pointer (some ⟨g, o, none⟩))).run Try.prog W = midLoad Try.prog 25 6 g o W := run_loadMid Try.underlying25 rfl (by kernel_rfl) g o W
theorem run_store_vx (g o : Nat) (c : Array Value) (W : World) : (storeRow 25 (.pointer (some ⟨g, o, none⟩)) (.agg c)).run Try.prog W = rowStore Try.prog 25 6 g o c W := run_storeRow (by kernel_rfl) g o c W
def vec (v : List Int) : List Int := v.take 4
theorem pc_vec (v : List Int) : piece (cs .i64 v) 0 4 = cs .i64 (vec v) := by rw [piece_cs]; rfl
theorem pc_vx (v : List Int) (h : v.length = 6) : piece (cs .i64 v) 0 6 = cs .i64 v := by
  rw [piece_cs, List.drop_zero, List.take_of_length_le (by omega)]
theorem vec_g (v : List Int) (i : Nat) (hi : i < 4) : ClM.g (vec v) i = ClM.g v i := by
  simp [ClM.g, vec, List.getD, List.getElem?_take, hi]
theorem vec_ins (v : List Int) (k : Int) : insV (vec v) k = insV v k := by
  unfold insV
  rw [vec_g _ 0 (by omega), vec_g _ 1 (by omega), vec_g _ 2 (by omega), vec_g _ 3 (by omega)]
theorem info_vx : (Try.prog.info? 25).map (·.size) = some 6 := by kernel_rfl
theorem ret_vx {fn : Func} {R : Ending → World → Prop} {a : Act} {W : World} {p : Tmp} (h : fn.results = #[.cell p 25]) (g : Nat) (l : List Int) (hp : a.tmps.getD p undef = .pointer (some ⟨g, 0, none⟩)) (hl : l.length = 6)
    (hg : blk W g = some (.cells (cs .i64 l) 25 (0, 0))) (hd : a.defers = []) (hR : R (.returned (.agg (cs .i64 l))) W) : bodyPost Try.prog fn R .ret a W :=
  bodyPost_ret (results_row1 h _ _ g _ _ _ _ hp hg Try.underlying25 rfl (by rw [info_vx]; simp [hl])) hd hR
attribute [local go_sem ↓] load_vec load_vx store_vx
attribute [local go_sem] one_int run_load_vec run_load_vx run_store_vx rowLoad_eq rowStore_eq midLoad_eq pc_vec pc_vx blk_alloc_at blk_alloc_old blk_drew blk_drewN blk_set_far blk_set_far' blk_grow setRow_alloc_at setRow_alloc_old setRow_drew setRow_drewN
attribute [local go_sem high] run_maxT run_minT

structure Vc (p : List Int) : Prop where
  len : p.length = 4
  x0 : -536870912 ≤ ClM.g p 0
  x1 : ClM.g p 0 ≤ 536870912
  y0 : -536870912 ≤ ClM.g p 1
  y1 : ClM.g p 1 ≤ 536870912
  z0 : -536870912 ≤ ClM.g p 2
  z1 : ClM.g p 2 ≤ 536870912
  w0 : -536870912 ≤ ClM.g p 3
  w1 : ClM.g p 3 ≤ 536870912
theorem vc_of {v : List Int} (h : Vx v) : Vc (vec v) := by
  obtain ⟨l, a0, a1, a2, a3, a4, a5, a6, a7, _, _, _, _⟩ := h
  refine ⟨by simp [vec, l], ?_, ?_, ?_, ?_, ?_, ?_, ?_, ?_⟩ <;> (rw [vec_g _ _ (by omega)]; assumption)

set_option maxHeartbeats 1000000 in
theorem inside_any (p : List Int) (h : Vc p) (k : Int) (w : World) :
    Calls Try.prog 36 #[.agg (cs .i64 p), .int .i64 k] w fun e w' => e = .returned (.int .i64 (insV p k)) ∧ Below w.heap.size w w' := by
  obtain ⟨hl, a0, a1, a2, a3, a4, a5, a6, a7⟩ := h
  have l0 : 0 < p.length := by omega
  have l1 : 1 < p.length := by omega
  have l2 : 2 < p.length := by omega
  have l3 : 3 < p.length := by omega
  have e0 : ClM.g p 0 = p[0] := by simp [ClM.g, List.getD, l0]
  have e1 : ClM.g p 1 = p[1] := by simp [ClM.g, List.getD, l1]
  have e2 : ClM.g p 2 = p[2] := by simp [ClM.g, List.getD, l2]
  have e3 : ClM.g p 3 = p[3] := by simp [ClM.g, List.getD, l3]
  rw [e0] at a0 a1
  rw [e1] at a2 a3
  rw [e2] at a4 a5
  rw [e3] at a6 a7
  by_cases k0 : k = 0
  · subst k0
    have E := Lib.hid (show insV p 0 = p[3] - 256 from by unfold insV; simp only [e0, e1, e2, e3]; first | rfl | decide | simp)
    clear e0 e1 e2 e3
    go_enter Try.func36, Try.ntmps36
    go_wp2
    go_quiet (fail)
    go_wp2
    go_ret
    exact ⟨Num.ret_int E.out.symm, by repeat' (first | (with_reducible exact Below.refl _ _) | (with_reducible refine Rd.below_step ?_ (by assumption)) | (with_reducible refine Rd.below_alloc ?_ _) | (with_reducible refine Rd.below_drewN ?_ _) | (with_reducible refine Below.drew ?_) | (with_reducible refine Below.setCell ?_ ?_ _) | (with_reducible refine Rd.below_setRow ?_ ?_ _) | go_size | (simp only [World.size_alloc]; omega) | omega)⟩
  by_cases k1 : k = 1
  · subst k1
    have E := Lib.hid (show insV p 1 = p[3] + p[0] from by unfold insV; simp only [e0, e1, e2, e3]; first | rfl | decide | simp)
    clear e0 e1 e2 e3
    go_enter Try.func36, Try.ntmps36
    go_wp2
    go_quiet (fail)
    go_wp2
    go_ret
    exact ⟨Num.ret_int E.out.symm, by repeat' (first | (with_reducible exact Below.refl _ _) | (with_reducible refine Rd.below_step ?_ (by assumption)) | (with_reducible refine Rd.below_alloc ?_ _) | (with_reducible refine Rd.below_drewN ?_ _) | (with_reducible refine Below.drew ?_) | (with_reducible refine Below.setCell ?_ ?_ _) | (with_reducible refine Rd.below_setRow ?_ ?_ _) | go_size | (simp only [World.size_alloc]; omega) | omega)⟩
  by_cases k2 : k = 2
  · subst k2
    have E := Lib.hid (show insV p 2 = p[3] - p[0] from by unfold insV; simp only [e0, e1, e2, e3]; first | rfl | decide | simp)
    clear e0 e1 e2 e3
    go_enter Try.func36, Try.ntmps36
    go_wp2
    go_quiet (fail)
    go_wp2
    go_ret
    exact ⟨Num.ret_int E.out.symm, by repeat' (first | (with_reducible exact Below.refl _ _) | (with_reducible refine Rd.below_step ?_ (by assumption)) | (with_reducible refine Rd.below_alloc ?_ _) | (with_reducible refine Rd.below_drewN ?_ _) | (with_reducible refine Below.drew ?_) | (with_reducible refine Below.setCell ?_ ?_ _) | (with_reducible refine Rd.below_setRow ?_ ?_ _) | go_size | (simp only [World.size_alloc]; omega) | omega)⟩
  by_cases k3 : k = 3
  · subst k3
    have E := Lib.hid (show insV p 3 = p[3] + p[1] from by unfold insV; simp only [e0, e1, e2, e3]; first | rfl | decide | simp)
    clear e0 e1 e2 e3
    go_enter Try.func36, Try.ntmps36
    go_wp2
    go_quiet (fail)
    go_wp2
    go_ret
    exact ⟨Num.ret_int E.out.symm, by repeat' (first | (with_reducible exact Below.refl _ _) | (with_reducible refine Rd.below_step ?_ (by assumption)) | (with_reducible refine Rd.below_alloc ?_ _) | (with_reducible refine Rd.below_drewN ?_ _) | (with_reducible refine Below.drew ?_) | (with_reducible refine Below.setCell ?_ ?_ _) | (with_reducible refine Rd.below_setRow ?_ ?_ _) | go_size | (simp only [World.size_alloc]; omega) | omega)⟩
  by_cases k4 : k = 4
  · subst k4
    have E := Lib.hid (show insV p 4 = p[3] - p[1] from by unfold insV; simp only [e0, e1, e2, e3]; first | rfl | decide | simp)
    clear e0 e1 e2 e3
    go_enter Try.func36, Try.ntmps36
    go_wp2
    go_quiet (fail)
    go_wp2
    go_ret
    exact ⟨Num.ret_int E.out.symm, by repeat' (first | (with_reducible exact Below.refl _ _) | (with_reducible refine Rd.below_step ?_ (by assumption)) | (with_reducible refine Rd.below_alloc ?_ _) | (with_reducible refine Rd.below_drewN ?_ _) | (with_reducible refine Below.drew ?_) | (with_reducible refine Below.setCell ?_ ?_ _) | (with_reducible refine Rd.below_setRow ?_ ?_ _) | go_size | (simp only [World.size_alloc]; omega) | omega)⟩
  by_cases k5 : k = 5
  · subst k5
    have E := Lib.hid (show insV p 5 = p[3] + p[2] from by unfold insV; simp only [e0, e1, e2, e3]; first | rfl | decide | simp)
    clear e0 e1 e2 e3
    go_enter Try.func36, Try.ntmps36
    go_wp2
    go_quiet (fail)
    go_wp2
    go_ret
    exact ⟨Num.ret_int E.out.symm, by repeat' (first | (with_reducible exact Below.refl _ _) | (with_reducible refine Rd.below_step ?_ (by assumption)) | (with_reducible refine Rd.below_alloc ?_ _) | (with_reducible refine Rd.below_drewN ?_ _) | (with_reducible refine Below.drew ?_) | (with_reducible refine Below.setCell ?_ ?_ _) | (with_reducible refine Rd.below_setRow ?_ ?_ _) | go_size | (simp only [World.size_alloc]; omega) | omega)⟩
  by_cases k6 : k = 6
  · subst k6
    have E := Lib.hid (show insV p 6 = p[3] - p[2] from by unfold insV; simp only [e0, e1, e2, e3]; first | rfl | decide | simp)
    clear e0 e1 e2 e3
    go_enter Try.func36, Try.ntmps36
    go_wp2
    go_quiet (fail)
    go_wp2
    go_ret
    exact ⟨Num.ret_int E.out.symm, by repeat' (first | (with_reducible exact Below.refl _ _) | (with_reducible refine Rd.below_step ?_ (by assumption)) | (with_reducible refine Rd.below_alloc ?_ _) | (with_reducible refine Rd.below_drewN ?_ _) | (with_reducible refine Below.drew ?_) | (with_reducible refine Below.setCell ?_ ?_ _) | (with_reducible refine Rd.below_setRow ?_ ?_ _) | go_size | (simp only [World.size_alloc]; omega) | omega)⟩
  have E := Lib.hid (show insV p k = 0 from by unfold insV; rw [if_neg k0, if_neg k1, if_neg k2, if_neg k3, if_neg k4, if_neg k5, if_neg k6])
  clear e0 e1 e2 e3
  go_enter Try.func36, Try.ntmps36
  go_wp2
  go_quiet (fail)
  go_wp2
  go_ret
  exact ⟨Num.ret_int E.out.symm, by repeat' (first | (with_reducible exact Below.refl _ _) | (with_reducible refine Rd.below_step ?_ (by assumption)) | (with_reducible refine Rd.below_alloc ?_ _) | (with_reducible refine Rd.below_drewN ?_ _) | (with_reducible refine Below.drew ?_) | (with_reducible refine Below.setCell ?_ ?_ _) | (with_reducible refine Rd.below_setRow ?_ ?_ _) | go_size | (simp only [World.size_alloc]; omega) | omega)⟩

set_option maxHeartbeats 1000000 in
theorem rinside_any (p : List Int) (h : Vc p) (k : Int) (w : World) :
    Calls Try.prog 38 #[.agg (cs .i64 p), .int .i64 k] w fun e w' => e = .returned (.int .i64 (insV p k)) ∧ Below w.heap.size w w' := by
  obtain ⟨hl, a0, a1, a2, a3, a4, a5, a6, a7⟩ := h
  have l0 : 0 < p.length := by omega
  have l1 : 1 < p.length := by omega
  have l2 : 2 < p.length := by omega
  have l3 : 3 < p.length := by omega
  have e0 : ClM.g p 0 = p[0] := by simp [ClM.g, List.getD, l0]
  have e1 : ClM.g p 1 = p[1] := by simp [ClM.g, List.getD, l1]
  have e2 : ClM.g p 2 = p[2] := by simp [ClM.g, List.getD, l2]
  have e3 : ClM.g p 3 = p[3] := by simp [ClM.g, List.getD, l3]
  rw [e0] at a0 a1
  rw [e1] at a2 a3
  rw [e2] at a4 a5
  rw [e3] at a6 a7
  by_cases k0 : k = 0
  · subst k0
    have E := Lib.hid (show insV p 0 = p[3] - 256 from by unfold insV; simp only [e0, e1, e2, e3]; first | rfl | decide | simp)
    clear e0 e1 e2 e3
    go_enter Try.func38, Try.ntmps38
    go_wp2
    go_ret
    exact ⟨Num.ret_int E.out.symm, by repeat' (first | (with_reducible exact Below.refl _ _) | (with_reducible refine Rd.below_step ?_ (by assumption)) | (with_reducible refine Rd.below_alloc ?_ _) | (with_reducible refine Rd.below_drewN ?_ _) | (with_reducible refine Below.drew ?_) | (with_reducible refine Below.setCell ?_ ?_ _) | (with_reducible refine Rd.below_setRow ?_ ?_ _) | go_size | (simp only [World.size_alloc]; omega) | omega)⟩
  by_cases k1 : k = 1
  · subst k1
    have E := Lib.hid (show insV p 1 = p[3] + p[0] from by unfold insV; simp only [e0, e1, e2, e3]; first | rfl | decide | simp)
    clear e0 e1 e2 e3
    go_enter Try.func38, Try.ntmps38
    go_wp2
    go_ret
    exact ⟨Num.ret_int E.out.symm, by repeat' (first | (with_reducible exact Below.refl _ _) | (with_reducible refine Rd.below_step ?_ (by assumption)) | (with_reducible refine Rd.below_alloc ?_ _) | (with_reducible refine Rd.below_drewN ?_ _) | (with_reducible refine Below.drew ?_) | (with_reducible refine Below.setCell ?_ ?_ _) | (with_reducible refine Rd.below_setRow ?_ ?_ _) | go_size | (simp only [World.size_alloc]; omega) | omega)⟩
  by_cases k2 : k = 2
  · subst k2
    have E := Lib.hid (show insV p 2 = p[3] - p[0] from by unfold insV; simp only [e0, e1, e2, e3]; first | rfl | decide | simp)
    clear e0 e1 e2 e3
    go_enter Try.func38, Try.ntmps38
    go_wp2
    go_ret
    exact ⟨Num.ret_int E.out.symm, by repeat' (first | (with_reducible exact Below.refl _ _) | (with_reducible refine Rd.below_step ?_ (by assumption)) | (with_reducible refine Rd.below_alloc ?_ _) | (with_reducible refine Rd.below_drewN ?_ _) | (with_reducible refine Below.drew ?_) | (with_reducible refine Below.setCell ?_ ?_ _) | (with_reducible refine Rd.below_setRow ?_ ?_ _) | go_size | (simp only [World.size_alloc]; omega) | omega)⟩
  by_cases k3 : k = 3
  · subst k3
    have E := Lib.hid (show insV p 3 = p[3] + p[1] from by unfold insV; simp only [e0, e1, e2, e3]; first | rfl | decide | simp)
    clear e0 e1 e2 e3
    go_enter Try.func38, Try.ntmps38
    go_wp2
    go_ret
    exact ⟨Num.ret_int E.out.symm, by repeat' (first | (with_reducible exact Below.refl _ _) | (with_reducible refine Rd.below_step ?_ (by assumption)) | (with_reducible refine Rd.below_alloc ?_ _) | (with_reducible refine Rd.below_drewN ?_ _) | (with_reducible refine Below.drew ?_) | (with_reducible refine Below.setCell ?_ ?_ _) | (with_reducible refine Rd.below_setRow ?_ ?_ _) | go_size | (simp only [World.size_alloc]; omega) | omega)⟩
  by_cases k4 : k = 4
  · subst k4
    have E := Lib.hid (show insV p 4 = p[3] - p[1] from by unfold insV; simp only [e0, e1, e2, e3]; first | rfl | decide | simp)
    clear e0 e1 e2 e3
    go_enter Try.func38, Try.ntmps38
    go_wp2
    go_ret
    exact ⟨Num.ret_int E.out.symm, by repeat' (first | (with_reducible exact Below.refl _ _) | (with_reducible refine Rd.below_step ?_ (by assumption)) | (with_reducible refine Rd.below_alloc ?_ _) | (with_reducible refine Rd.below_drewN ?_ _) | (with_reducible refine Below.drew ?_) | (with_reducible refine Below.setCell ?_ ?_ _) | (with_reducible refine Rd.below_setRow ?_ ?_ _) | go_size | (simp only [World.size_alloc]; omega) | omega)⟩
  by_cases k5 : k = 5
  · subst k5
    have E := Lib.hid (show insV p 5 = p[3] + p[2] from by unfold insV; simp only [e0, e1, e2, e3]; first | rfl | decide | simp)
    clear e0 e1 e2 e3
    go_enter Try.func38, Try.ntmps38
    go_wp2
    go_ret
    exact ⟨Num.ret_int E.out.symm, by repeat' (first | (with_reducible exact Below.refl _ _) | (with_reducible refine Rd.below_step ?_ (by assumption)) | (with_reducible refine Rd.below_alloc ?_ _) | (with_reducible refine Rd.below_drewN ?_ _) | (with_reducible refine Below.drew ?_) | (with_reducible refine Below.setCell ?_ ?_ _) | (with_reducible refine Rd.below_setRow ?_ ?_ _) | go_size | (simp only [World.size_alloc]; omega) | omega)⟩
  by_cases k6 : k = 6
  · subst k6
    have E := Lib.hid (show insV p 6 = p[3] - p[2] from by unfold insV; simp only [e0, e1, e2, e3]; first | rfl | decide | simp)
    clear e0 e1 e2 e3
    go_enter Try.func38, Try.ntmps38
    go_wp2
    go_ret
    exact ⟨Num.ret_int E.out.symm, by repeat' (first | (with_reducible exact Below.refl _ _) | (with_reducible refine Rd.below_step ?_ (by assumption)) | (with_reducible refine Rd.below_alloc ?_ _) | (with_reducible refine Rd.below_drewN ?_ _) | (with_reducible refine Below.drew ?_) | (with_reducible refine Below.setCell ?_ ?_ _) | (with_reducible refine Rd.below_setRow ?_ ?_ _) | go_size | (simp only [World.size_alloc]; omega) | omega)⟩
  have E := Lib.hid (show insV p k = 0 from by unfold insV; rw [if_neg k0, if_neg k1, if_neg k2, if_neg k3, if_neg k4, if_neg k5, if_neg k6])
  clear e0 e1 e2 e3
  go_enter Try.func38, Try.ntmps38
  go_wp2
  go_ret
  exact ⟨Num.ret_int E.out.symm, by repeat' (first | (with_reducible exact Below.refl _ _) | (with_reducible refine Rd.below_step ?_ (by assumption)) | (with_reducible refine Rd.below_alloc ?_ _) | (with_reducible refine Rd.below_drewN ?_ _) | (with_reducible refine Below.drew ?_) | (with_reducible refine Below.setCell ?_ ?_ _) | (with_reducible refine Rd.below_setRow ?_ ?_ _) | go_size | (simp only [World.size_alloc]; omega) | omega)⟩

theorem t_bd {a b t A : Int} (h0 : 0 ≤ t) (h1 : t ≤ 65536) (a0 : -A ≤ a) (a1 : a ≤ A) (b0 : -A ≤ b) (b1 : b ≤ A) : -(65536 * (2 * A)) ≤ t * (b - a) ∧ t * (b - a) ≤ 65536 * (2 * A) := by
  have p1 := Mid.prod_bd (a := t) (b := b - a) (A := 65536) (B := 2 * A) (by omega) (by omega) (by omega) (by omega)
  omega
theorem between_any (a b t : Int) (h0 : 0 ≤ t) (h1 : t ≤ 65536) (a0 : -536870912 ≤ a) (a1 : a ≤ 536870912) (b0 : -536870912 ≤ b) (b1 : b ≤ 536870912) (w : World) :
    Calls Try.prog 42 #[.int .i64 a, .int .i64 b, .int .i64 t] w fun e w' => e = .returned (.int .i64 (btw a b t)) ∧ Below w.heap.size w w' := by
  have p := t_bd (A := 536870912) h0 h1 a0 a1 b0 b1
  have q := near_bd (t * (b - a)) 65536 70368744177664 (by omega) (by omega) (by omega)
  go_enter Try.func42, Try.ntmps42
  go_wp2_with (go_at_call 18; refine (round_mid _ _ _ (by omega) (by omega) (by omega) (by omega)).mono ?_; rintro e w' ⟨rfl, hb⟩)
  go_ret
  exact ⟨rfl, by repeat' (first | (with_reducible exact Below.refl _ _) | (with_reducible refine Rd.below_step ?_ (by assumption)) | (with_reducible refine Rd.below_alloc ?_ _) | (with_reducible refine Rd.below_drewN ?_ _) | (with_reducible refine Below.drew ?_) | (with_reducible refine Below.setCell ?_ ?_ _) | (with_reducible refine Rd.below_setRow ?_ ?_ _) | go_size | (simp only [World.size_alloc]; omega) | omega)⟩
theorem way_any (a b t : Int) (h0 : 0 ≤ t) (h1 : t ≤ 65536) (a0 : -536870912 ≤ a) (a1 : a ≤ 536870912) (b0 : -536870912 ≤ b) (b1 : b ≤ 536870912) (w : World) :
    Calls Try.prog 41 #[.int .i64 a, .int .i64 b, .int .i64 t] w fun e w' => e = .returned (.int .i64 (btw a b t)) ∧ Below w.heap.size w w' := by
  have p := t_bd (A := 536870912) h0 h1 a0 a1 b0 b1
  have q := near_bd (t * (b - a)) 65536 70368744177664 (by omega) (by omega) (by omega)
  go_enter Try.func41, Try.ntmps41
  go_wp2_with (go_at_call 21; refine (rnear_any _ _ _ (by omega) (by omega) (by omega) (by omega)).mono ?_; rintro e w' ⟨rfl, rfl⟩)
  go_ret
  exact ⟨rfl, by repeat' (first | (with_reducible exact Below.refl _ _) | (with_reducible refine Rd.below_step ?_ (by assumption)) | (with_reducible refine Rd.below_alloc ?_ _) | (with_reducible refine Rd.below_drewN ?_ _) | (with_reducible refine Below.drew ?_) | (with_reducible refine Below.setCell ?_ ?_ _) | (with_reducible refine Rd.below_setRow ?_ ?_ _) | go_size | (simp only [World.size_alloc]; omega) | omega)⟩
end Go.Proofs.Ytimfjogallcgnaa.ClA
