/-
  The document's own Edges and Covers.
-/
import Derived.Test.YthkfnjblmilgnaaEdB
namespace Go.Proofs.Ythkfnjblmilgnaa.EdC
open Go.RowKit FixA Num Rd Go.Proofs.Ythkfnjblmilgnaa.Row Mid EdM EdA EdB
open Go.Proofs.Ythkfnjblmilgnaa.Pred (Is is_stab Stab)
set_option linter.unusedVariables false
set_option linter.unusedSimpArgs false
set_option maxRecDepth 10000
attribute [local go_sem ↓] load_tri store_tri load_w3 store_w3 load_spot store_spot load_hit store_hit
attribute [local go_sem] one_int run_load_spot run_load_tri run_load_w3 run_load_hit run_store_tri run_store_w3 run_store_spot run_store_hit rowLoad_eq rowStore_eq midLoad_eq ext0 ext1 ext2 blk_alloc_at blk_alloc_old blk_drew blk_drewN blk_set_far blk_set_far' blk_grow setRow_alloc_at setRow_alloc_old setRow_drew setRow_drewN all_map
attribute [local go_sem] sp_sp piece_five fold_mid
theorem redges_any (t : List Int) (h : Tri t) (x y : Int) (hx : Pt x) (hy : Pt y) (w : World) :
    Calls Try.prog 21 #[.agg (cs .i64 t), .int .i64 x, .int .i64 y] w fun e w' => e = .returned (.agg (cs .i64 (edL t x y))) ∧ Below w.heap.size w w' := by
  have hl := h.len
  go_enter Try.func21, Try.ntmps21
  go_wp2
  (refine Reg.below_tail 22 (by kernel_rfl) (by kernel_rfl) ?_; simp only [List.take_succ_cons, List.take_zero, List.drop_succ_cons, List.drop_zero]; (repeat (go_big_quiet_step ((first | (with_reducible exact Calls.regrown_of (rside12 t h x y hx hy _)) | (with_reducible exact Calls.regrown_of (rside20 t h x y hx hy _)) | (with_reducible exact Calls.regrown_of (rside01 t h x y hx hy _)))))); refine wpQuiet_nil ?_)
  intro U hU
  have KU := Rd.below_of_regrown hU
  clear hU
  have z1 : blk U (w.heap.size + 1) = some (.cells (cs .i64 [0, 0, 0]) 29 (0, 0)) := (blk_below KU _ (by simp)).trans (by simp [blk_alloc_at, blk_alloc_old])
  have L : Below w.heap.size w U := by repeat' (first | (with_reducible exact Below.refl _ _) | (with_reducible refine Rd.below_step ?_ (by assumption)) | (with_reducible refine Rd.below_alloc ?_ _) | (with_reducible refine Rd.below_drewN ?_ _) | (with_reducible refine Below.drew ?_) | (with_reducible refine Below.setCell ?_ ?_ _) | (with_reducible refine Rd.below_setRow ?_ ?_ _) | go_size | (simp only [World.size_alloc]; omega) | omega)
  clear KU
  go_wp2
  exact ret_w3 rfl (w.heap.size + 1) (edL t x y) rfl rfl (blk_setRow_of z1 _) rfl ⟨rfl, by repeat' (first | (with_reducible exact Below.refl _ _) | (with_reducible refine Rd.below_step ?_ (by assumption)) | (with_reducible refine Rd.below_alloc ?_ _) | (with_reducible refine Rd.below_drewN ?_ _) | (with_reducible refine Below.drew ?_) | (with_reducible refine Below.setCell ?_ ?_ _) | (with_reducible refine Rd.below_setRow ?_ ?_ _) | go_size | (simp only [World.size_alloc]; omega) | omega)⟩

theorem piece_three {l : List Int} (h : l.length = 3) : piece (cs .i64 l) 0 3 = cs .i64 l := by
  rw [piece_cs, List.drop_zero, List.take_of_length_le (by omega)]
theorem sp_cell (t : List Int) (i j : Nat) (hj : j < 6) (h : (sp t i).length = 6) : (cs .i64 (sp t i))[j]? = some (.int .i64 (EdM.g t (6 * i + j))) := by
  rw [cs_at (at_of (l := sp t i) (i := j) (by omega))]
  exact congrArg (fun z => some (Value.int .i64 z)) (sp_g t i j hj)
def rcovV (t : List Int) (px py : Int) : List Int := if covT t px py = true then edL t (mid px) (mid py) else [0, 0, 0]
theorem rno_eq {t : List Int} {px py : Int} (h : covT t px py = false) : Ending.returned (.tuple #[.agg (cs .i64 [0, 0, 0]), .bool false]) = .returned (.tuple #[.agg (cs .i64 (rcovV t px py)), .bool (covT t px py)]) := by
  unfold rcovV
  rw [h, if_neg (by decide)]
theorem ryes_eq {t : List Int} {px py : Int} (h : covT t px py = true) : Ending.returned (.tuple #[.agg (cs .i64 (edL t (mid px) (mid py))), .bool true]) = .returned (.tuple #[.agg (cs .i64 (rcovV t px py)), .bool (covT t px py)]) := by
  unfold rcovV
  rw [h, if_pos rfl]
theorem rcov_len (t : List Int) (px py : Int) : (rcovV t px py).length = 3 := by unfold rcovV; split <;> rfl
set_option maxHeartbeats 8000000 in
theorem rcovers_any (t : List Int) (h : Tri t) (px py : Int) (hx0 : -100 ≤ px) (hx1 : px ≤ 100) (hy0 : -100 ≤ py) (hy1 : py ≤ 100) (w : World) :
    Calls Try.prog 13 #[.agg (cs .i64 t), .int .i64 px, .int .i64 py] w fun e w' => e = .returned (.tuple #[.agg (cs .i64 (rcovV t px py)), .bool (covT t px py)]) ∧ Below w.heap.size w w' := by
  have hl := h.len
  have l0 := sp_len hl 0 (by omega)
  have l1 := sp_len hl 1 (by omega)
  have l2 := sp_len hl 2 (by omega)
  have PX := mid_pt hx0 hx1
  have PY := mid_pt hy0 hy1
  have CA : Hid (∀ X : World, Calls Try.prog 15 #[.agg (cs .i64 t)] X fun e w' => e = .returned (.int .i64 (area t)) ∧ Below X.heap.size X w') := Lib.hid fun X => rarea_any t h X
  obtain ⟨n, en⟩ : ∃ n, area t = n := ⟨_, rfl⟩
  rw [en] at CA
  have EN := Lib.hid en
  clear en
  by_cases hn : n ≤ 0
  · go_enter Try.func13, Try.ntmps13
    go_wp2_with fail
    refine (CA.out _).mono ?_
    rintro e w1 ⟨rfl, hb⟩
    have z1 : blk w1 (w.heap.size + 1) = some (.cells (cs .i64 [0, 0, 0]) 29 (0, 0)) := (blk_below hb _ (by simp)).trans (blk2_1 _ _ _)
    have L1 : Below w.heap.size w w1 := by repeat' (first | (with_reducible exact Below.refl _ _) | (with_reducible refine Rd.below_step ?_ (by assumption)) | (with_reducible refine Rd.below_alloc ?_ _) | (with_reducible refine Rd.below_drewN ?_ _) | (with_reducible refine Below.drew ?_) | (with_reducible refine Below.setCell ?_ ?_ _) | (with_reducible refine Rd.below_setRow ?_ ?_ _) | go_size | (simp only [World.size_alloc]; omega) | omega)
    clear hb
    go_wp2
    refine ret_w3b rfl (w.heap.size + 1) [0, 0, 0] rfl rfl (blk_setRow_of z1 _) rfl ⟨rno_eq (cov_area (by rw [EN.out]; exact hn)), ?_⟩
    exact Rd.below_setRow L1 (by omega) _
  go_enter Try.func13, Try.ntmps13
  go_wp2_with fail
  refine (CA.out _).mono ?_
  rintro e w1 ⟨rfl, hb⟩
  have b1 : blk w1 w.heap.size = some (.cells (cs .i64 t) 24 (0, 0)) := (blk_below hb _ (by simp; omega)).trans (blk2_0 _ _ _)
  have z1 : blk w1 (w.heap.size + 1) = some (.cells (cs .i64 [0, 0, 0]) 29 (0, 0)) := (blk_below hb _ (by simp)).trans (blk2_1 _ _ _)
  have L1 : Below w.heap.size w w1 := by repeat' (first | (with_reducible exact Below.refl _ _) | (with_reducible refine Rd.below_step ?_ (by assumption)) | (with_reducible refine Rd.below_alloc ?_ _) | (with_reducible refine Rd.below_drewN ?_ _) | (with_reducible refine Below.drew ?_) | (with_reducible refine Below.setCell ?_ ?_ _) | (with_reducible refine Rd.below_setRow ?_ ?_ _) | go_size | (simp only [World.size_alloc]; omega) | omega)
  have s1 : w.heap.size + 1 < w1.heap.size := blk_lt z1
  clear hb
  go_wp2_with fail
  refine (redges_any t h (mid px) (mid py) PX PY _).mono ?_
  rintro e w3 ⟨rfl, hb⟩
  replace b1 := (blk_below hb _ (blk_lt b1)).trans b1
  replace z1 := (blk_below hb _ (blk_lt z1)).trans z1
  replace L1 : Below w.heap.size w w3 := by repeat' (first | (with_reducible exact Below.refl _ _) | (with_reducible refine Rd.below_step ?_ (by assumption)) | (with_reducible refine Rd.below_alloc ?_ _) | (with_reducible refine Rd.below_drewN ?_ _) | (with_reducible refine Below.drew ?_) | (with_reducible refine Below.setCell ?_ ?_ _) | (with_reducible refine Rd.below_setRow ?_ ?_ _) | go_size | (simp only [World.size_alloc]; omega) | omega)
  replace s1 : w.heap.size + 1 < w3.heap.size := blk_lt z1
  clear hb
  go_upto_region 4 with (fail)
  refine Rd.name_world ?_
  intro w2 hw
  have b2 : blk w2 w.heap.size = some (.cells (cs .i64 t) 24 (0, 0)) := by rw [hw]; exact (blk_alloc_old _ _ _ (by omega)).trans b1
  have z2 : blk w2 (w.heap.size + 1) = some (.cells (cs .i64 [0, 0, 0]) 29 (0, 0)) := by rw [hw]; exact (blk_alloc_old _ _ _ (by omega)).trans z1
  have h2 : blk w2 w3.heap.size = some (.cells (cs .i64 (edL t (mid px) (mid py))) 29 (0, 0)) := by rw [hw]; exact blk_alloc_at _ _ _ rfl
  have L2 : Below w.heap.size w w2 := by
    rw [hw]
    repeat' (first | (with_reducible exact Below.refl _ _) | (with_reducible refine Rd.below_step ?_ (by assumption)) | (with_reducible refine Rd.below_alloc ?_ _) | (with_reducible refine Rd.below_drewN ?_ _) | (with_reducible refine Below.drew ?_) | (with_reducible refine Below.setCell ?_ ?_ _) | (with_reducible refine Rd.below_setRow ?_ ?_ _) | go_size | (simp only [World.size_alloc]; omega) | omega)
  obtain ⟨hp, ehp⟩ : ∃ p, w3.heap.size = p := ⟨_, rfl⟩
  rw [ehp] at s1 h2 ⊢
  have k2 := blk_lt h2
  clear hw ehp b1 z1 L1
  go_wp2_with fail
  go_loopw [9] (fun i X => ∃ k : Nat, k ≤ 3 ∧ i = .int .i64 k ∧ Hid (∀ j, j < k → fT t px py j = true) ∧ Below w.heap.size w X ∧ blk X w.heap.size = some (.cells (cs .i64 t) 24 (0, 0)) ∧ blk X (w.heap.size + 1) = some (.cells (cs .i64 [0, 0, 0]) 29 (0, 0)) ∧ blk X hp = some (.cells (cs .i64 (edL t (mid px) (mid py))) 29 (0, 0)) ∧ hp < X.heap.size) (fun i _ => 3 - (intOf i).toNat)
  case atStart => exact ⟨0, by omega, rfl, Lib.hid fun j hj => absurd hj (by omega), L2, b2, z2, h2, k2⟩
  case round =>
    obtain ⟨k, hk, rfl, HF, hb, HB, HZ, HH, hk1⟩ := hrel
    rename World => Y
    clear b2 z2 h2 L2 k2
    have k3 : w.heap.size < Y.heap.size := by omega
    have k4 : w.heap.size + 1 < Y.heap.size := by omega
    by_cases hlt : k < 3
    · have e3 : k = 0 ∨ k = 1 ∨ k = 2 := by omega
      rcases e3 with rfl | rfl | rfl
      · have EU : Hid (ul0 t = ul (g t 6) (g t 7) (g t 12) (g t 13)) := Lib.hid rfl
        have FK0 : fT t px py 0 = fOf (ed0 t (mid px) (mid py)) (ul0 t) := rfl
        have lB := blk_lt HB
        have lZ := blk_lt HZ
        have lH := blk_lt HH
        go_wp2_with fail
        refine PredS.region_vals (W := Y) [⟨10, 12, 23, cs .i64 [0, 0, 0, 0, 0, 0], (cs .i64 (sp t 1))⟩, ⟨11, 13, 23, cs .i64 [0, 0, 0, 0, 0, 0], (cs .i64 (sp t 2))⟩] (PredS.Of [
            Is (.int .i64 0),
            Is (.int .i64 1),
            Is (.int .i64 1),
            Is (.pointer (some ⟨w.heap.size, 6, none⟩)),
            Is (.agg (cs .i64 (sp t 1))),
            Is (.int .i64 0),
            Is (.int .i64 2),
            Is (.int .i64 2),
            Is (.pointer (some ⟨w.heap.size, 12, none⟩)),
            Is (.agg (cs .i64 (sp t 2))),
            Is undef,
            Is undef,
            Is undef,
            Is undef]) (by kernel_rfl) (by kernel_rfl) (by kernel_rfl) (by kernel_rfl) (PredS.of_stab ?_) ?_ ?_ ?_
        · exact ⟨PredS.is_stab _, PredS.is_stab _, PredS.is_stab _, PredS.is_stab _, PredS.is_stab _, PredS.is_stab _, PredS.is_stab _, PredS.is_stab _, PredS.is_stab _, PredS.is_stab _, PredS.is_stab _, PredS.is_stab _, PredS.is_stab _, PredS.is_stab _, trivial⟩
        · refine ⟨.inr ?_, .inr ?_, .inr ?_, .inr ?_, .inr ?_, .inr ?_, .inr ?_, .inr ?_, .inr ?_, .inr ?_, .inl rfl, .inl rfl, .inl rfl, .inl rfl, trivial⟩
          · intro b X hE hd hn hV
            have r9 : b.tmps[9]?.getD undef = .int .i64 0 := (hn 9 (by kernel_rfl)).trans rfl
            exact Pred.yields_run (v := .int .i64 0) (Pred.wanted_none rfl) (by go_simp) ⟨PredS.ext_refl _ _ _, rfl⟩
          · intro b X hE hd hn hV
            have r30 : b.tmps[30]?.getD undef = .int .i64 0 := hV 0 _ 30 rfl rfl rfl (Pred.waits_near (by kernel_rfl) (by kernel_rfl))
            exact Pred.yields_run (v := .int .i64 1) (Pred.wanted_none rfl) (by go_simp; rfl) ⟨PredS.ext_refl _ _ _, rfl⟩
          · intro b X hE hd hn hV
            have r31 : b.tmps[31]?.getD undef = .int .i64 1 := hV 1 _ 31 rfl rfl rfl (Pred.waits_near (by kernel_rfl) (by kernel_rfl))
            exact Pred.yields_run (v := .int .i64 1) (Pred.wanted_none rfl) (by go_simp) ⟨PredS.ext_refl _ _ _, rfl⟩
          · intro b X hE hd hn hV
            have r3 : b.tmps[3]?.getD undef = .pointer (some ⟨w.heap.size, 0, none⟩) := (hn 3 (by kernel_rfl)).trans rfl
            have r32 : b.tmps[32]?.getD undef = .int .i64 1 := hV 2 _ 32 rfl rfl rfl (Pred.waits_near (by kernel_rfl) (by kernel_rfl))
            exact Pred.yields_run (v := .pointer (some ⟨w.heap.size, 6, none⟩)) (Pred.wanted_none rfl) (by go_simp) ⟨PredS.ext_refl _ _ _, rfl⟩
          · intro b X hE hd hn hV
            have r33 : b.tmps[33]?.getD undef = .pointer (some ⟨w.heap.size, 6, none⟩) := hV 3 _ 33 rfl rfl rfl (Pred.waits_near (by kernel_rfl) (by kernel_rfl))
            have q := (blk_below hE _ lB).trans HB
            exact Pred.yields_run (v := .agg (cs .i64 (sp t 1))) (Pred.wanted_none rfl) (by go_simp) ⟨PredS.ext_refl _ _ _, rfl⟩
          · intro b X hE hd hn hV
            have r9 : b.tmps[9]?.getD undef = .int .i64 0 := (hn 9 (by kernel_rfl)).trans rfl
            exact Pred.yields_run (v := .int .i64 0) (Pred.wanted_none rfl) (by go_simp) ⟨PredS.ext_refl _ _ _, rfl⟩
          · intro b X hE hd hn hV
            have r35 : b.tmps[35]?.getD undef = .int .i64 0 := hV 5 _ 35 rfl rfl rfl (Pred.waits_near (by kernel_rfl) (by kernel_rfl))
            exact Pred.yields_run (v := .int .i64 2) (Pred.wanted_none rfl) (by go_simp; rfl) ⟨PredS.ext_refl _ _ _, rfl⟩
          · intro b X hE hd hn hV
            have r36 : b.tmps[36]?.getD undef = .int .i64 2 := hV 6 _ 36 rfl rfl rfl (Pred.waits_near (by kernel_rfl) (by kernel_rfl))
            exact Pred.yields_run (v := .int .i64 2) (Pred.wanted_none rfl) (by go_simp) ⟨PredS.ext_refl _ _ _, rfl⟩
          · intro b X hE hd hn hV
            have r3 : b.tmps[3]?.getD undef = .pointer (some ⟨w.heap.size, 0, none⟩) := (hn 3 (by kernel_rfl)).trans rfl
            have r37 : b.tmps[37]?.getD undef = .int .i64 2 := hV 7 _ 37 rfl rfl rfl (Pred.waits_near (by kernel_rfl) (by kernel_rfl))
            exact Pred.yields_run (v := .pointer (some ⟨w.heap.size, 12, none⟩)) (Pred.wanted_none rfl) (by go_simp) ⟨PredS.ext_refl _ _ _, rfl⟩
          · intro b X hE hd hn hV
            have r38 : b.tmps[38]?.getD undef = .pointer (some ⟨w.heap.size, 12, none⟩) := hV 8 _ 38 rfl rfl rfl (Pred.waits_near (by kernel_rfl) (by kernel_rfl))
            have q := (blk_below hE _ lB).trans HB
            exact Pred.yields_run (v := .agg (cs .i64 (sp t 2))) (Pred.wanted_none rfl) (by go_simp) ⟨PredS.ext_refl _ _ _, rfl⟩
        · refine ⟨?_, ?_, trivial⟩
          · refine ⟨_, 10, _, rfl, rfl, by simp, rfl, fun ρ w => by first | (go_simp; done) | (go_simp; rfl), rfl, rfl, Pred.waits_near (by kernel_rfl) (by kernel_rfl), fun b X g hE hn hV hp hg hb => ?_⟩
            have r34 : b.tmps[34]?.getD undef = .agg (cs .i64 (sp t 1)) := hV 4 _ 34 rfl rfl rfl (Pred.waits_near (by kernel_rfl) (by kernel_rfl))
            simp only at hb
            exact PredS.yields_skip (Pred.wanted_none rfl) (by go_simp) rfl
          · refine ⟨_, 11, _, rfl, rfl, by simp, rfl, fun ρ w => by first | (go_simp; done) | (go_simp; rfl), rfl, rfl, Pred.waits_near (by kernel_rfl) (by kernel_rfl), fun b X g hE hn hV hp hg hb => ?_⟩
            have r39 : b.tmps[39]?.getD undef = .agg (cs .i64 (sp t 2)) := hV 9 _ 39 rfl rfl rfl (Pred.waits_near (by kernel_rfl) (by kernel_rfl))
            simp only at hb
            exact PredS.yields_skip (Pred.wanted_none rfl) (by go_simp) rfl
        intro v W hE hv hL
        have e0 : v 0 = .int .i64 0 := hv 0 _ 30 rfl rfl rfl
        have e1 : v 1 = .int .i64 1 := hv 1 _ 31 rfl rfl rfl
        have e2 : v 2 = .int .i64 1 := hv 2 _ 32 rfl rfl rfl
        have e3 : v 3 = .pointer (some ⟨w.heap.size, 6, none⟩) := hv 3 _ 33 rfl rfl rfl
        have e4 : v 4 = .agg (cs .i64 (sp t 1)) := hv 4 _ 34 rfl rfl rfl
        have e5 : v 5 = .int .i64 0 := hv 5 _ 35 rfl rfl rfl
        have e6 : v 6 = .int .i64 2 := hv 6 _ 36 rfl rfl rfl
        have e7 : v 7 = .int .i64 2 := hv 7 _ 37 rfl rfl rfl
        have e8 : v 8 = .pointer (some ⟨w.heap.size, 12, none⟩) := hv 8 _ 38 rfl rfl rfl
        have e9 : v 9 = .agg (cs .i64 (sp t 2)) := hv 9 _ 39 rfl rfl rfl
        obtain ⟨⟨g10, e10, o10, q10, n10⟩, ⟨⟨g11, e11, o11, q11, n11⟩, -⟩⟩ := hL
        replace q10 : blk W g10 = some (.cells (cs .i64 (sp t 1)) 23 (0, 0)) := q10
        have d11_10 : g11 ≠ g10 := fun e => n10 _ (by simp) (e11.trans (by rw [e]))
        replace q11 : blk W g11 = some (.cells (cs .i64 (sp t 2)) 23 (0, 0)) := q11
        clear n10 n11
        simp only [Pred.putsF_cons, Pred.putsF_nil, Nat.zero_add, Nat.reduceAdd, e0, e1, e2, e3, e4, e5, e6, e7, e8, e9, e10, e11, Act.put, List.setIfInBounds_toArray, List.set_cons_zero, List.set_cons_succ]
        clear e0 e1 e2 e3 e4 e5 e6 e7 e8 e9 e10 e11 hv
        have bW := (blk_below hE _ lB).trans HB
        have zW := (blk_below hE _ lZ).trans HZ
        have hW5 := (blk_below hE _ lH).trans HH
        have LW : Below w.heap.size w W := hb.trans (hE.mono hb.size)
        have p0 := q10
        have p1 := q11
        have kW : hp < W.heap.size := blk_lt hW5
        clear hE HB HZ HH hb lB lZ lH q10 q11
        have xa : W.cell? ⟨g10, 0, none⟩ = some (.int .i64 (g t 6)) := (blk_cell p0 _).trans (sp_cell t 1 0 (by omega) l1)
        have ya : W.cell? ⟨g10, 1, none⟩ = some (.int .i64 (g t 7)) := (blk_cell p0 _).trans (sp_cell t 1 1 (by omega) l1)
        have xb : W.cell? ⟨g11, 0, none⟩ = some (.int .i64 (g t 12)) := (blk_cell p1 _).trans (sp_cell t 2 0 (by omega) l2)
        have yb : W.cell? ⟨g11, 1, none⟩ = some (.int .i64 (g t 13)) := (blk_cell p1 _).trans (sp_cell t 2 1 (by omega) l2)
        have ce : W.cell? ⟨hp, 0, none⟩ = some (.int .i64 (ed0 t (mid px) (mid py))) := by rw [blk_cell hW5]; rfl
        clear p0 p1
        obtain ⟨e, ee⟩ : ∃ e, ed0 t (mid px) (mid py) = e := ⟨_, rfl⟩
        obtain ⟨u, eu⟩ : ∃ u, ul0 t = u := ⟨_, rfl⟩
        obtain ⟨ax, eax⟩ : ∃ e, g t 6 = e := ⟨_, rfl⟩
        obtain ⟨ay, eay⟩ : ∃ e, g t 7 = e := ⟨_, rfl⟩
        obtain ⟨bx, ebx⟩ : ∃ e, g t 12 = e := ⟨_, rfl⟩
        obtain ⟨by_, eby⟩ : ∃ e, g t 13 = e := ⟨_, rfl⟩
        rw [ee, eu] at FK0
        rw [ee] at ce
        rw [eax] at xa
        rw [eay] at ya
        rw [ebx] at xb
        rw [eby] at yb
        rw [eu, eax, eay, ebx, eby] at EU
        clear ee eu eax eay ebx eby
        by_cases hY : ay = by_
        · subst hY
          obtain ⟨p, ep⟩ : ∃ p, decide (ax < bx) = p := ⟨_, rfl⟩
          have eu : u = p := EU.out.trans (by unfold ul; rw [ep]; simp)
          subst eu
          have dL : decide (ay < ay) = false := by simp
          have LL : ¬ ay < ay := by omega
          clear EU
          go_upto_region 10 with (fail)
          by_cases hE : e < 0
          · have FK : Hid (fT t px py 0 = false) := Lib.hid (FK0.trans (by unfold fOf; rw [decide_eq_false (by omega), decide_eq_false (by omega)]; rfl))
            have d1 : decide (e < 0) = true := decide_eq_true hE
            clear FK0
            go_wp2
            refine ret_w3b rfl (w.heap.size + 1) [0, 0, 0] rfl rfl (blk_setRow_of zW _) rfl ⟨rno_eq (cov_no (k := 0) (by omega) FK.out), ?_⟩
            exact Rd.below_setRow LW (by omega) _
          · have d1 : decide (e < 0) = false := decide_eq_false hE
            by_cases h0 : e = 0
            · subst h0
              cases u
              · have FK : Hid (fT t px py 0 = false) := Lib.hid FK0
                clear FK0
                go_wp2
                refine ret_w3b rfl (w.heap.size + 1) [0, 0, 0] rfl rfl (blk_setRow_of zW _) rfl ⟨rno_eq (cov_no (k := 0) (by omega) FK.out), ?_⟩
                exact Rd.below_setRow LW (by omega) _
              · have FK : Hid (fT t px py 0 = true) := Lib.hid FK0
                clear FK0
                go_wp2
                exact ⟨⟨1, by omega, by go_num, Lib.hid (f_step HF.out FK.out), LW, bW, zW, hW5, kW⟩, by simp [intOf]⟩
            · have FK : Hid (fT t px py 0 = true) := Lib.hid (FK0.trans (by unfold fOf; rw [decide_eq_true (by omega)]; rfl))
              clear FK0
              have d0 : (e == 0) = false := by simpa using h0
              go_wp2
              exact ⟨⟨1, by omega, by go_num, Lib.hid (f_step HF.out FK.out), LW, bW, zW, hW5, kW⟩, by simp [intOf]⟩
        · have dY : (ay == by_) = false := by simpa using hY
          obtain ⟨p, ep⟩ : ∃ p, decide (by_ < ay) = p := ⟨_, rfl⟩
          have eu : u = p := EU.out.trans (by unfold ul; rw [ep, decide_eq_false (Ne.symm hY)]; simp)
          subst eu
          clear EU
          go_upto_region 10 with (fail)
          by_cases hE : e < 0
          · have FK : Hid (fT t px py 0 = false) := Lib.hid (FK0.trans (by unfold fOf; rw [decide_eq_false (by omega), decide_eq_false (by omega)]; rfl))
            have d1 : decide (e < 0) = true := decide_eq_true hE
            clear FK0
            go_wp2
            refine ret_w3b rfl (w.heap.size + 1) [0, 0, 0] rfl rfl (blk_setRow_of zW _) rfl ⟨rno_eq (cov_no (k := 0) (by omega) FK.out), ?_⟩
            exact Rd.below_setRow LW (by omega) _
          · have d1 : decide (e < 0) = false := decide_eq_false hE
            by_cases h0 : e = 0
            · subst h0
              cases u
              · have FK : Hid (fT t px py 0 = false) := Lib.hid FK0
                clear FK0
                go_wp2
                refine ret_w3b rfl (w.heap.size + 1) [0, 0, 0] rfl rfl (blk_setRow_of zW _) rfl ⟨rno_eq (cov_no (k := 0) (by omega) FK.out), ?_⟩
                exact Rd.below_setRow LW (by omega) _
              · have FK : Hid (fT t px py 0 = true) := Lib.hid FK0
                clear FK0
                go_wp2
                exact ⟨⟨1, by omega, by go_num, Lib.hid (f_step HF.out FK.out), LW, bW, zW, hW5, kW⟩, by simp [intOf]⟩
            · have FK : Hid (fT t px py 0 = true) := Lib.hid (FK0.trans (by unfold fOf; rw [decide_eq_true (by omega)]; rfl))
              clear FK0
              have d0 : (e == 0) = false := by simpa using h0
              go_wp2
              exact ⟨⟨1, by omega, by go_num, Lib.hid (f_step HF.out FK.out), LW, bW, zW, hW5, kW⟩, by simp [intOf]⟩
      · have EU : Hid (ul1 t = ul (g t 12) (g t 13) (g t 0) (g t 1)) := Lib.hid rfl
        have FK0 : fT t px py 1 = fOf (ed1 t (mid px) (mid py)) (ul1 t) := rfl
        have lB := blk_lt HB
        have lZ := blk_lt HZ
        have lH := blk_lt HH
        go_wp2_with fail
        refine PredS.region_vals (W := Y) [⟨10, 12, 23, cs .i64 [0, 0, 0, 0, 0, 0], (cs .i64 (sp t 2))⟩, ⟨11, 13, 23, cs .i64 [0, 0, 0, 0, 0, 0], (cs .i64 (sp t 0))⟩] (PredS.Of [
            Is (.int .i64 1),
            Is (.int .i64 2),
            Is (.int .i64 2),
            Is (.pointer (some ⟨w.heap.size, 12, none⟩)),
            Is (.agg (cs .i64 (sp t 2))),
            Is (.int .i64 1),
            Is (.int .i64 3),
            Is (.int .i64 0),
            Is (.pointer (some ⟨w.heap.size, 0, none⟩)),
            Is (.agg (cs .i64 (sp t 0))),
            Is undef,
            Is undef,
            Is undef,
            Is undef]) (by kernel_rfl) (by kernel_rfl) (by kernel_rfl) (by kernel_rfl) (PredS.of_stab ?_) ?_ ?_ ?_
        · exact ⟨PredS.is_stab _, PredS.is_stab _, PredS.is_stab _, PredS.is_stab _, PredS.is_stab _, PredS.is_stab _, PredS.is_stab _, PredS.is_stab _, PredS.is_stab _, PredS.is_stab _, PredS.is_stab _, PredS.is_stab _, PredS.is_stab _, PredS.is_stab _, trivial⟩
        · refine ⟨.inr ?_, .inr ?_, .inr ?_, .inr ?_, .inr ?_, .inr ?_, .inr ?_, .inr ?_, .inr ?_, .inr ?_, .inl rfl, .inl rfl, .inl rfl, .inl rfl, trivial⟩
          · intro b X hE hd hn hV
            have r9 : b.tmps[9]?.getD undef = .int .i64 1 := (hn 9 (by kernel_rfl)).trans rfl
            exact Pred.yields_run (v := .int .i64 1) (Pred.wanted_none rfl) (by go_simp) ⟨PredS.ext_refl _ _ _, rfl⟩
          · intro b X hE hd hn hV
            have r30 : b.tmps[30]?.getD undef = .int .i64 1 := hV 0 _ 30 rfl rfl rfl (Pred.waits_near (by kernel_rfl) (by kernel_rfl))
            exact Pred.yields_run (v := .int .i64 2) (Pred.wanted_none rfl) (by go_simp; rfl) ⟨PredS.ext_refl _ _ _, rfl⟩
          · intro b X hE hd hn hV
            have r31 : b.tmps[31]?.getD undef = .int .i64 2 := hV 1 _ 31 rfl rfl rfl (Pred.waits_near (by kernel_rfl) (by kernel_rfl))
            exact Pred.yields_run (v := .int .i64 2) (Pred.wanted_none rfl) (by go_simp) ⟨PredS.ext_refl _ _ _, rfl⟩
          · intro b X hE hd hn hV
            have r3 : b.tmps[3]?.getD undef = .pointer (some ⟨w.heap.size, 0, none⟩) := (hn 3 (by kernel_rfl)).trans rfl
            have r32 : b.tmps[32]?.getD undef = .int .i64 2 := hV 2 _ 32 rfl rfl rfl (Pred.waits_near (by kernel_rfl) (by kernel_rfl))
            exact Pred.yields_run (v := .pointer (some ⟨w.heap.size, 12, none⟩)) (Pred.wanted_none rfl) (by go_simp) ⟨PredS.ext_refl _ _ _, rfl⟩
          · intro b X hE hd hn hV
            have r33 : b.tmps[33]?.getD undef = .pointer (some ⟨w.heap.size, 12, none⟩) := hV 3 _ 33 rfl rfl rfl (Pred.waits_near (by kernel_rfl) (by kernel_rfl))
            have q := (blk_below hE _ lB).trans HB
            exact Pred.yields_run (v := .agg (cs .i64 (sp t 2))) (Pred.wanted_none rfl) (by go_simp) ⟨PredS.ext_refl _ _ _, rfl⟩
          · intro b X hE hd hn hV
            have r9 : b.tmps[9]?.getD undef = .int .i64 1 := (hn 9 (by kernel_rfl)).trans rfl
            exact Pred.yields_run (v := .int .i64 1) (Pred.wanted_none rfl) (by go_simp) ⟨PredS.ext_refl _ _ _, rfl⟩
          · intro b X hE hd hn hV
            have r35 : b.tmps[35]?.getD undef = .int .i64 1 := hV 5 _ 35 rfl rfl rfl (Pred.waits_near (by kernel_rfl) (by kernel_rfl))
            exact Pred.yields_run (v := .int .i64 3) (Pred.wanted_none rfl) (by go_simp; rfl) ⟨PredS.ext_refl _ _ _, rfl⟩
          · intro b X hE hd hn hV
            have r36 : b.tmps[36]?.getD undef = .int .i64 3 := hV 6 _ 36 rfl rfl rfl (Pred.waits_near (by kernel_rfl) (by kernel_rfl))
            exact Pred.yields_run (v := .int .i64 0) (Pred.wanted_none rfl) (by go_simp) ⟨PredS.ext_refl _ _ _, rfl⟩
          · intro b X hE hd hn hV
            have r3 : b.tmps[3]?.getD undef = .pointer (some ⟨w.heap.size, 0, none⟩) := (hn 3 (by kernel_rfl)).trans rfl
            have r37 : b.tmps[37]?.getD undef = .int .i64 0 := hV 7 _ 37 rfl rfl rfl (Pred.waits_near (by kernel_rfl) (by kernel_rfl))
            exact Pred.yields_run (v := .pointer (some ⟨w.heap.size, 0, none⟩)) (Pred.wanted_none rfl) (by go_simp) ⟨PredS.ext_refl _ _ _, rfl⟩
          · intro b X hE hd hn hV
            have r38 : b.tmps[38]?.getD undef = .pointer (some ⟨w.heap.size, 0, none⟩) := hV 8 _ 38 rfl rfl rfl (Pred.waits_near (by kernel_rfl) (by kernel_rfl))
            have q := (blk_below hE _ lB).trans HB
            exact Pred.yields_run (v := .agg (cs .i64 (sp t 0))) (Pred.wanted_none rfl) (by go_simp) ⟨PredS.ext_refl _ _ _, rfl⟩
        · refine ⟨?_, ?_, trivial⟩
          · refine ⟨_, 10, _, rfl, rfl, by simp, rfl, fun ρ w => by first | (go_simp; done) | (go_simp; rfl), rfl, rfl, Pred.waits_near (by kernel_rfl) (by kernel_rfl), fun b X g hE hn hV hp hg hb => ?_⟩
            have r34 : b.tmps[34]?.getD undef = .agg (cs .i64 (sp t 2)) := hV 4 _ 34 rfl rfl rfl (Pred.waits_near (by kernel_rfl) (by kernel_rfl))
            simp only at hb
            exact PredS.yields_skip (Pred.wanted_none rfl) (by go_simp) rfl
          · refine ⟨_, 11, _, rfl, rfl, by simp, rfl, fun ρ w => by first | (go_simp; done) | (go_simp; rfl), rfl, rfl, Pred.waits_near (by kernel_rfl) (by kernel_rfl), fun b X g hE hn hV hp hg hb => ?_⟩
            have r39 : b.tmps[39]?.getD undef = .agg (cs .i64 (sp t 0)) := hV 9 _ 39 rfl rfl rfl (Pred.waits_near (by kernel_rfl) (by kernel_rfl))
            simp only at hb
            exact PredS.yields_skip (Pred.wanted_none rfl) (by go_simp) rfl
        intro v W hE hv hL
        have e0 : v 0 = .int .i64 1 := hv 0 _ 30 rfl rfl rfl
        have e1 : v 1 = .int .i64 2 := hv 1 _ 31 rfl rfl rfl
        have e2 : v 2 = .int .i64 2 := hv 2 _ 32 rfl rfl rfl
        have e3 : v 3 = .pointer (some ⟨w.heap.size, 12, none⟩) := hv 3 _ 33 rfl rfl rfl
        have e4 : v 4 = .agg (cs .i64 (sp t 2)) := hv 4 _ 34 rfl rfl rfl
        have e5 : v 5 = .int .i64 1 := hv 5 _ 35 rfl rfl rfl
        have e6 : v 6 = .int .i64 3 := hv 6 _ 36 rfl rfl rfl
        have e7 : v 7 = .int .i64 0 := hv 7 _ 37 rfl rfl rfl
        have e8 : v 8 = .pointer (some ⟨w.heap.size, 0, none⟩) := hv 8 _ 38 rfl rfl rfl
        have e9 : v 9 = .agg (cs .i64 (sp t 0)) := hv 9 _ 39 rfl rfl rfl
        obtain ⟨⟨g10, e10, o10, q10, n10⟩, ⟨⟨g11, e11, o11, q11, n11⟩, -⟩⟩ := hL
        replace q10 : blk W g10 = some (.cells (cs .i64 (sp t 2)) 23 (0, 0)) := q10
        have d11_10 : g11 ≠ g10 := fun e => n10 _ (by simp) (e11.trans (by rw [e]))
        replace q11 : blk W g11 = some (.cells (cs .i64 (sp t 0)) 23 (0, 0)) := q11
        clear n10 n11
        simp only [Pred.putsF_cons, Pred.putsF_nil, Nat.zero_add, Nat.reduceAdd, e0, e1, e2, e3, e4, e5, e6, e7, e8, e9, e10, e11, Act.put, List.setIfInBounds_toArray, List.set_cons_zero, List.set_cons_succ]
        clear e0 e1 e2 e3 e4 e5 e6 e7 e8 e9 e10 e11 hv
        have bW := (blk_below hE _ lB).trans HB
        have zW := (blk_below hE _ lZ).trans HZ
        have hW5 := (blk_below hE _ lH).trans HH
        have LW : Below w.heap.size w W := hb.trans (hE.mono hb.size)
        have p0 := q10
        have p1 := q11
        have kW : hp < W.heap.size := blk_lt hW5
        clear hE HB HZ HH hb lB lZ lH q10 q11
        have xa : W.cell? ⟨g10, 0, none⟩ = some (.int .i64 (g t 12)) := (blk_cell p0 _).trans (sp_cell t 2 0 (by omega) l2)
        have ya : W.cell? ⟨g10, 1, none⟩ = some (.int .i64 (g t 13)) := (blk_cell p0 _).trans (sp_cell t 2 1 (by omega) l2)
        have xb : W.cell? ⟨g11, 0, none⟩ = some (.int .i64 (g t 0)) := (blk_cell p1 _).trans (sp_cell t 0 0 (by omega) l0)
        have yb : W.cell? ⟨g11, 1, none⟩ = some (.int .i64 (g t 1)) := (blk_cell p1 _).trans (sp_cell t 0 1 (by omega) l0)
        have ce : W.cell? ⟨hp, 1, none⟩ = some (.int .i64 (ed1 t (mid px) (mid py))) := by rw [blk_cell hW5]; rfl
        clear p0 p1
        obtain ⟨e, ee⟩ : ∃ e, ed1 t (mid px) (mid py) = e := ⟨_, rfl⟩
        obtain ⟨u, eu⟩ : ∃ u, ul1 t = u := ⟨_, rfl⟩
        obtain ⟨ax, eax⟩ : ∃ e, g t 12 = e := ⟨_, rfl⟩
        obtain ⟨ay, eay⟩ : ∃ e, g t 13 = e := ⟨_, rfl⟩
        obtain ⟨bx, ebx⟩ : ∃ e, g t 0 = e := ⟨_, rfl⟩
        obtain ⟨by_, eby⟩ : ∃ e, g t 1 = e := ⟨_, rfl⟩
        rw [ee, eu] at FK0
        rw [ee] at ce
        rw [eax] at xa
        rw [eay] at ya
        rw [ebx] at xb
        rw [eby] at yb
        rw [eu, eax, eay, ebx, eby] at EU
        clear ee eu eax eay ebx eby
        by_cases hY : ay = by_
        · subst hY
          obtain ⟨p, ep⟩ : ∃ p, decide (ax < bx) = p := ⟨_, rfl⟩
          have eu : u = p := EU.out.trans (by unfold ul; rw [ep]; simp)
          subst eu
          have dL : decide (ay < ay) = false := by simp
          have LL : ¬ ay < ay := by omega
          clear EU
          go_upto_region 10 with (fail)
          by_cases hE : e < 0
          · have FK : Hid (fT t px py 1 = false) := Lib.hid (FK0.trans (by unfold fOf; rw [decide_eq_false (by omega), decide_eq_false (by omega)]; rfl))
            have d1 : decide (e < 0) = true := decide_eq_true hE
            clear FK0
            go_wp2
            refine ret_w3b rfl (w.heap.size + 1) [0, 0, 0] rfl rfl (blk_setRow_of zW _) rfl ⟨rno_eq (cov_no (k := 1) (by omega) FK.out), ?_⟩
            exact Rd.below_setRow LW (by omega) _
          · have d1 : decide (e < 0) = false := decide_eq_false hE
            by_cases h0 : e = 0
            · subst h0
              cases u
              · have FK : Hid (fT t px py 1 = false) := Lib.hid FK0
                clear FK0
                go_wp2
                refine ret_w3b rfl (w.heap.size + 1) [0, 0, 0] rfl rfl (blk_setRow_of zW _) rfl ⟨rno_eq (cov_no (k := 1) (by omega) FK.out), ?_⟩
                exact Rd.below_setRow LW (by omega) _
              · have FK : Hid (fT t px py 1 = true) := Lib.hid FK0
                clear FK0
                go_wp2
                exact ⟨⟨2, by omega, by go_num, Lib.hid (f_step HF.out FK.out), LW, bW, zW, hW5, kW⟩, by simp [intOf]⟩
            · have FK : Hid (fT t px py 1 = true) := Lib.hid (FK0.trans (by unfold fOf; rw [decide_eq_true (by omega)]; rfl))
              clear FK0
              have d0 : (e == 0) = false := by simpa using h0
              go_wp2
              exact ⟨⟨2, by omega, by go_num, Lib.hid (f_step HF.out FK.out), LW, bW, zW, hW5, kW⟩, by simp [intOf]⟩
        · have dY : (ay == by_) = false := by simpa using hY
          obtain ⟨p, ep⟩ : ∃ p, decide (by_ < ay) = p := ⟨_, rfl⟩
          have eu : u = p := EU.out.trans (by unfold ul; rw [ep, decide_eq_false (Ne.symm hY)]; simp)
          subst eu
          clear EU
          go_upto_region 10 with (fail)
          by_cases hE : e < 0
          · have FK : Hid (fT t px py 1 = false) := Lib.hid (FK0.trans (by unfold fOf; rw [decide_eq_false (by omega), decide_eq_false (by omega)]; rfl))
            have d1 : decide (e < 0) = true := decide_eq_true hE
            clear FK0
            go_wp2
            refine ret_w3b rfl (w.heap.size + 1) [0, 0, 0] rfl rfl (blk_setRow_of zW _) rfl ⟨rno_eq (cov_no (k := 1) (by omega) FK.out), ?_⟩
            exact Rd.below_setRow LW (by omega) _
          · have d1 : decide (e < 0) = false := decide_eq_false hE
            by_cases h0 : e = 0
            · subst h0
              cases u
              · have FK : Hid (fT t px py 1 = false) := Lib.hid FK0
                clear FK0
                go_wp2
                refine ret_w3b rfl (w.heap.size + 1) [0, 0, 0] rfl rfl (blk_setRow_of zW _) rfl ⟨rno_eq (cov_no (k := 1) (by omega) FK.out), ?_⟩
                exact Rd.below_setRow LW (by omega) _
              · have FK : Hid (fT t px py 1 = true) := Lib.hid FK0
                clear FK0
                go_wp2
                exact ⟨⟨2, by omega, by go_num, Lib.hid (f_step HF.out FK.out), LW, bW, zW, hW5, kW⟩, by simp [intOf]⟩
            · have FK : Hid (fT t px py 1 = true) := Lib.hid (FK0.trans (by unfold fOf; rw [decide_eq_true (by omega)]; rfl))
              clear FK0
              have d0 : (e == 0) = false := by simpa using h0
              go_wp2
              exact ⟨⟨2, by omega, by go_num, Lib.hid (f_step HF.out FK.out), LW, bW, zW, hW5, kW⟩, by simp [intOf]⟩
      · have EU : Hid (ul2 t = ul (g t 0) (g t 1) (g t 6) (g t 7)) := Lib.hid rfl
        have FK0 : fT t px py 2 = fOf (ed2 t (mid px) (mid py)) (ul2 t) := rfl
        have lB := blk_lt HB
        have lZ := blk_lt HZ
        have lH := blk_lt HH
        go_wp2_with fail
        refine PredS.region_vals (W := Y) [⟨10, 12, 23, cs .i64 [0, 0, 0, 0, 0, 0], (cs .i64 (sp t 0))⟩, ⟨11, 13, 23, cs .i64 [0, 0, 0, 0, 0, 0], (cs .i64 (sp t 1))⟩] (PredS.Of [
            Is (.int .i64 2),
            Is (.int .i64 3),
            Is (.int .i64 0),
            Is (.pointer (some ⟨w.heap.size, 0, none⟩)),
            Is (.agg (cs .i64 (sp t 0))),
            Is (.int .i64 2),
            Is (.int .i64 4),
            Is (.int .i64 1),
            Is (.pointer (some ⟨w.heap.size, 6, none⟩)),
            Is (.agg (cs .i64 (sp t 1))),
            Is undef,
            Is undef,
            Is undef,
            Is undef]) (by kernel_rfl) (by kernel_rfl) (by kernel_rfl) (by kernel_rfl) (PredS.of_stab ?_) ?_ ?_ ?_
        · exact ⟨PredS.is_stab _, PredS.is_stab _, PredS.is_stab _, PredS.is_stab _, PredS.is_stab _, PredS.is_stab _, PredS.is_stab _, PredS.is_stab _, PredS.is_stab _, PredS.is_stab _, PredS.is_stab _, PredS.is_stab _, PredS.is_stab _, PredS.is_stab _, trivial⟩
        · refine ⟨.inr ?_, .inr ?_, .inr ?_, .inr ?_, .inr ?_, .inr ?_, .inr ?_, .inr ?_, .inr ?_, .inr ?_, .inl rfl, .inl rfl, .inl rfl, .inl rfl, trivial⟩
          · intro b X hE hd hn hV
            have r9 : b.tmps[9]?.getD undef = .int .i64 2 := (hn 9 (by kernel_rfl)).trans rfl
            exact Pred.yields_run (v := .int .i64 2) (Pred.wanted_none rfl) (by go_simp) ⟨PredS.ext_refl _ _ _, rfl⟩
          · intro b X hE hd hn hV
            have r30 : b.tmps[30]?.getD undef = .int .i64 2 := hV 0 _ 30 rfl rfl rfl (Pred.waits_near (by kernel_rfl) (by kernel_rfl))
            exact Pred.yields_run (v := .int .i64 3) (Pred.wanted_none rfl) (by go_simp; rfl) ⟨PredS.ext_refl _ _ _, rfl⟩
          · intro b X hE hd hn hV
            have r31 : b.tmps[31]?.getD undef = .int .i64 3 := hV 1 _ 31 rfl rfl rfl (Pred.waits_near (by kernel_rfl) (by kernel_rfl))
            exact Pred.yields_run (v := .int .i64 0) (Pred.wanted_none rfl) (by go_simp) ⟨PredS.ext_refl _ _ _, rfl⟩
          · intro b X hE hd hn hV
            have r3 : b.tmps[3]?.getD undef = .pointer (some ⟨w.heap.size, 0, none⟩) := (hn 3 (by kernel_rfl)).trans rfl
            have r32 : b.tmps[32]?.getD undef = .int .i64 0 := hV 2 _ 32 rfl rfl rfl (Pred.waits_near (by kernel_rfl) (by kernel_rfl))
            exact Pred.yields_run (v := .pointer (some ⟨w.heap.size, 0, none⟩)) (Pred.wanted_none rfl) (by go_simp) ⟨PredS.ext_refl _ _ _, rfl⟩
          · intro b X hE hd hn hV
            have r33 : b.tmps[33]?.getD undef = .pointer (some ⟨w.heap.size, 0, none⟩) := hV 3 _ 33 rfl rfl rfl (Pred.waits_near (by kernel_rfl) (by kernel_rfl))
            have q := (blk_below hE _ lB).trans HB
            exact Pred.yields_run (v := .agg (cs .i64 (sp t 0))) (Pred.wanted_none rfl) (by go_simp) ⟨PredS.ext_refl _ _ _, rfl⟩
          · intro b X hE hd hn hV
            have r9 : b.tmps[9]?.getD undef = .int .i64 2 := (hn 9 (by kernel_rfl)).trans rfl
            exact Pred.yields_run (v := .int .i64 2) (Pred.wanted_none rfl) (by go_simp) ⟨PredS.ext_refl _ _ _, rfl⟩
          · intro b X hE hd hn hV
            have r35 : b.tmps[35]?.getD undef = .int .i64 2 := hV 5 _ 35 rfl rfl rfl (Pred.waits_near (by kernel_rfl) (by kernel_rfl))
            exact Pred.yields_run (v := .int .i64 4) (Pred.wanted_none rfl) (by go_simp; rfl) ⟨PredS.ext_refl _ _ _, rfl⟩
          · intro b X hE hd hn hV
            have r36 : b.tmps[36]?.getD undef = .int .i64 4 := hV 6 _ 36 rfl rfl rfl (Pred.waits_near (by kernel_rfl) (by kernel_rfl))
            exact Pred.yields_run (v := .int .i64 1) (Pred.wanted_none rfl) (by go_simp) ⟨PredS.ext_refl _ _ _, rfl⟩
          · intro b X hE hd hn hV
            have r3 : b.tmps[3]?.getD undef = .pointer (some ⟨w.heap.size, 0, none⟩) := (hn 3 (by kernel_rfl)).trans rfl
            have r37 : b.tmps[37]?.getD undef = .int .i64 1 := hV 7 _ 37 rfl rfl rfl (Pred.waits_near (by kernel_rfl) (by kernel_rfl))
            exact Pred.yields_run (v := .pointer (some ⟨w.heap.size, 6, none⟩)) (Pred.wanted_none rfl) (by go_simp) ⟨PredS.ext_refl _ _ _, rfl⟩
          · intro b X hE hd hn hV
            have r38 : b.tmps[38]?.getD undef = .pointer (some ⟨w.heap.size, 6, none⟩) := hV 8 _ 38 rfl rfl rfl (Pred.waits_near (by kernel_rfl) (by kernel_rfl))
            have q := (blk_below hE _ lB).trans HB
            exact Pred.yields_run (v := .agg (cs .i64 (sp t 1))) (Pred.wanted_none rfl) (by go_simp) ⟨PredS.ext_refl _ _ _, rfl⟩
        · refine ⟨?_, ?_, trivial⟩
          · refine ⟨_, 10, _, rfl, rfl, by simp, rfl, fun ρ w => by first | (go_simp; done) | (go_simp; rfl), rfl, rfl, Pred.waits_near (by kernel_rfl) (by kernel_rfl), fun b X g hE hn hV hp hg hb => ?_⟩
            have r34 : b.tmps[34]?.getD undef = .agg (cs .i64 (sp t 0)) := hV 4 _ 34 rfl rfl rfl (Pred.waits_near (by kernel_rfl) (by kernel_rfl))
            simp only at hb
            exact PredS.yields_skip (Pred.wanted_none rfl) (by go_simp) rfl
          · refine ⟨_, 11, _, rfl, rfl, by simp, rfl, fun ρ w => by first | (go_simp; done) | (go_simp; rfl), rfl, rfl, Pred.waits_near (by kernel_rfl) (by kernel_rfl), fun b X g hE hn hV hp hg hb => ?_⟩
            have r39 : b.tmps[39]?.getD undef = .agg (cs .i64 (sp t 1)) := hV 9 _ 39 rfl rfl rfl (Pred.waits_near (by kernel_rfl) (by kernel_rfl))
            simp only at hb
            exact PredS.yields_skip (Pred.wanted_none rfl) (by go_simp) rfl
        intro v W hE hv hL
        have e0 : v 0 = .int .i64 2 := hv 0 _ 30 rfl rfl rfl
        have e1 : v 1 = .int .i64 3 := hv 1 _ 31 rfl rfl rfl
        have e2 : v 2 = .int .i64 0 := hv 2 _ 32 rfl rfl rfl
        have e3 : v 3 = .pointer (some ⟨w.heap.size, 0, none⟩) := hv 3 _ 33 rfl rfl rfl
        have e4 : v 4 = .agg (cs .i64 (sp t 0)) := hv 4 _ 34 rfl rfl rfl
        have e5 : v 5 = .int .i64 2 := hv 5 _ 35 rfl rfl rfl
        have e6 : v 6 = .int .i64 4 := hv 6 _ 36 rfl rfl rfl
        have e7 : v 7 = .int .i64 1 := hv 7 _ 37 rfl rfl rfl
        have e8 : v 8 = .pointer (some ⟨w.heap.size, 6, none⟩) := hv 8 _ 38 rfl rfl rfl
        have e9 : v 9 = .agg (cs .i64 (sp t 1)) := hv 9 _ 39 rfl rfl rfl
        obtain ⟨⟨g10, e10, o10, q10, n10⟩, ⟨⟨g11, e11, o11, q11, n11⟩, -⟩⟩ := hL
        replace q10 : blk W g10 = some (.cells (cs .i64 (sp t 0)) 23 (0, 0)) := q10
        have d11_10 : g11 ≠ g10 := fun e => n10 _ (by simp) (e11.trans (by rw [e]))
        replace q11 : blk W g11 = some (.cells (cs .i64 (sp t 1)) 23 (0, 0)) := q11
        clear n10 n11
        simp only [Pred.putsF_cons, Pred.putsF_nil, Nat.zero_add, Nat.reduceAdd, e0, e1, e2, e3, e4, e5, e6, e7, e8, e9, e10, e11, Act.put, List.setIfInBounds_toArray, List.set_cons_zero, List.set_cons_succ]
        clear e0 e1 e2 e3 e4 e5 e6 e7 e8 e9 e10 e11 hv
        have bW := (blk_below hE _ lB).trans HB
        have zW := (blk_below hE _ lZ).trans HZ
        have hW5 := (blk_below hE _ lH).trans HH
        have LW : Below w.heap.size w W := hb.trans (hE.mono hb.size)
        have p0 := q10
        have p1 := q11
        have kW : hp < W.heap.size := blk_lt hW5
        clear hE HB HZ HH hb lB lZ lH q10 q11
        have xa : W.cell? ⟨g10, 0, none⟩ = some (.int .i64 (g t 0)) := (blk_cell p0 _).trans (sp_cell t 0 0 (by omega) l0)
        have ya : W.cell? ⟨g10, 1, none⟩ = some (.int .i64 (g t 1)) := (blk_cell p0 _).trans (sp_cell t 0 1 (by omega) l0)
        have xb : W.cell? ⟨g11, 0, none⟩ = some (.int .i64 (g t 6)) := (blk_cell p1 _).trans (sp_cell t 1 0 (by omega) l1)
        have yb : W.cell? ⟨g11, 1, none⟩ = some (.int .i64 (g t 7)) := (blk_cell p1 _).trans (sp_cell t 1 1 (by omega) l1)
        have ce : W.cell? ⟨hp, 2, none⟩ = some (.int .i64 (ed2 t (mid px) (mid py))) := by rw [blk_cell hW5]; rfl
        clear p0 p1
        obtain ⟨e, ee⟩ : ∃ e, ed2 t (mid px) (mid py) = e := ⟨_, rfl⟩
        obtain ⟨u, eu⟩ : ∃ u, ul2 t = u := ⟨_, rfl⟩
        obtain ⟨ax, eax⟩ : ∃ e, g t 0 = e := ⟨_, rfl⟩
        obtain ⟨ay, eay⟩ : ∃ e, g t 1 = e := ⟨_, rfl⟩
        obtain ⟨bx, ebx⟩ : ∃ e, g t 6 = e := ⟨_, rfl⟩
        obtain ⟨by_, eby⟩ : ∃ e, g t 7 = e := ⟨_, rfl⟩
        rw [ee, eu] at FK0
        rw [ee] at ce
        rw [eax] at xa
        rw [eay] at ya
        rw [ebx] at xb
        rw [eby] at yb
        rw [eu, eax, eay, ebx, eby] at EU
        clear ee eu eax eay ebx eby
        by_cases hY : ay = by_
        · subst hY
          obtain ⟨p, ep⟩ : ∃ p, decide (ax < bx) = p := ⟨_, rfl⟩
          have eu : u = p := EU.out.trans (by unfold ul; rw [ep]; simp)
          subst eu
          have dL : decide (ay < ay) = false := by simp
          have LL : ¬ ay < ay := by omega
          clear EU
          go_upto_region 10 with (fail)
          by_cases hE : e < 0
          · have FK : Hid (fT t px py 2 = false) := Lib.hid (FK0.trans (by unfold fOf; rw [decide_eq_false (by omega), decide_eq_false (by omega)]; rfl))
            have d1 : decide (e < 0) = true := decide_eq_true hE
            clear FK0
            go_wp2
            refine ret_w3b rfl (w.heap.size + 1) [0, 0, 0] rfl rfl (blk_setRow_of zW _) rfl ⟨rno_eq (cov_no (k := 2) (by omega) FK.out), ?_⟩
            exact Rd.below_setRow LW (by omega) _
          · have d1 : decide (e < 0) = false := decide_eq_false hE
            by_cases h0 : e = 0
            · subst h0
              cases u
              · have FK : Hid (fT t px py 2 = false) := Lib.hid FK0
                clear FK0
                go_wp2
                refine ret_w3b rfl (w.heap.size + 1) [0, 0, 0] rfl rfl (blk_setRow_of zW _) rfl ⟨rno_eq (cov_no (k := 2) (by omega) FK.out), ?_⟩
                exact Rd.below_setRow LW (by omega) _
              · have FK : Hid (fT t px py 2 = true) := Lib.hid FK0
                clear FK0
                go_wp2
                exact ⟨⟨3, by omega, by go_num, Lib.hid (f_step HF.out FK.out), LW, bW, zW, hW5, kW⟩, by simp [intOf]⟩
            · have FK : Hid (fT t px py 2 = true) := Lib.hid (FK0.trans (by unfold fOf; rw [decide_eq_true (by omega)]; rfl))
              clear FK0
              have d0 : (e == 0) = false := by simpa using h0
              go_wp2
              exact ⟨⟨3, by omega, by go_num, Lib.hid (f_step HF.out FK.out), LW, bW, zW, hW5, kW⟩, by simp [intOf]⟩
        · have dY : (ay == by_) = false := by simpa using hY
          obtain ⟨p, ep⟩ : ∃ p, decide (by_ < ay) = p := ⟨_, rfl⟩
          have eu : u = p := EU.out.trans (by unfold ul; rw [ep, decide_eq_false (Ne.symm hY)]; simp)
          subst eu
          clear EU
          go_upto_region 10 with (fail)
          by_cases hE : e < 0
          · have FK : Hid (fT t px py 2 = false) := Lib.hid (FK0.trans (by unfold fOf; rw [decide_eq_false (by omega), decide_eq_false (by omega)]; rfl))
            have d1 : decide (e < 0) = true := decide_eq_true hE
            clear FK0
            go_wp2
            refine ret_w3b rfl (w.heap.size + 1) [0, 0, 0] rfl rfl (blk_setRow_of zW _) rfl ⟨rno_eq (cov_no (k := 2) (by omega) FK.out), ?_⟩
            exact Rd.below_setRow LW (by omega) _
          · have d1 : decide (e < 0) = false := decide_eq_false hE
            by_cases h0 : e = 0
            · subst h0
              cases u
              · have FK : Hid (fT t px py 2 = false) := Lib.hid FK0
                clear FK0
                go_wp2
                refine ret_w3b rfl (w.heap.size + 1) [0, 0, 0] rfl rfl (blk_setRow_of zW _) rfl ⟨rno_eq (cov_no (k := 2) (by omega) FK.out), ?_⟩
                exact Rd.below_setRow LW (by omega) _
              · have FK : Hid (fT t px py 2 = true) := Lib.hid FK0
                clear FK0
                go_wp2
                exact ⟨⟨3, by omega, by go_num, Lib.hid (f_step HF.out FK.out), LW, bW, zW, hW5, kW⟩, by simp [intOf]⟩
            · have FK : Hid (fT t px py 2 = true) := Lib.hid (FK0.trans (by unfold fOf; rw [decide_eq_true (by omega)]; rfl))
              clear FK0
              have d0 : (e == 0) = false := by simpa using h0
              go_wp2
              exact ⟨⟨3, by omega, by go_num, Lib.hid (f_step HF.out FK.out), LW, bW, zW, hW5, kW⟩, by simp [intOf]⟩
    · obtain rfl : k = 3 := by omega
      have h5 : (edL t (mid px) (mid py)).length = 3 := rfl
      go_wp2
      refine ret_w3b rfl (w.heap.size + 1) (edL t (mid px) (mid py)) rfl rfl (blk_setRow_of HZ _) rfl ⟨ryes_eq (cov_yes (by rw [EN.out]; omega) HF.out), ?_⟩
      exact Rd.below_setRow hb (by omega) _
end Go.Proofs.Ythkfnjblmilgnaa.EdC
