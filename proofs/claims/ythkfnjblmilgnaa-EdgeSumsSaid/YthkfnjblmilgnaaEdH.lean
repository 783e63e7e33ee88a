/-
  The walk of EdgeSums.
-/
import Derived.Test.YthkfnjblmilgnaaEdI
import Derived.Test.YthkfnjblmilgnaaLex
import Derived.StillTailTactics
import Derived.Test.YthkfnjblmilgnaaEdN
import Derived.Deep.QuietTactic
import Derived.BigQuiet
import Derived.BigGuard
import Derived.IntWalk
namespace Go.Proofs.Ythkfnjblmilgnaa.EdH
open Go.RowKit FixA Num Rd Go.Proofs.Ythkfnjblmilgnaa.Row Mid EdM EdA EdB EdF EdE EdG EdN EdI
open Go.Proofs.Ythkfnjblmilgnaa.Pred (Is is_stab Stab)
set_option linter.unusedVariables false
set_option linter.unusedSimpArgs false
set_option maxRecDepth 10000
attribute [local go_sem ↓] load_tri store_tri load_w3 store_w3 load_spot store_spot load_hit store_hit
attribute [local go_sem] one_int run_load_spot run_load_tri run_load_w3 run_load_hit run_store_tri run_store_w3 run_store_spot run_store_hit rowLoad_eq rowStore_eq midLoad_eq ext0 ext1 ext2 blk_alloc_at blk_alloc_old blk_drew blk_drewN blk_set_far blk_set_far' blk_grow setRow_alloc_at setRow_alloc_old setRow_drew setRow_drewN all_map
attribute [local go_sem high] run_maxT run_minT
set_option maxHeartbeats 8000000 in
theorem sums_gen (t : List Int) (hl : t.length = 18) (w : World) :
    Calls Try.prog 5 #[.agg (cs .i64 t)] w fun e w' => e = .returned (.bool true) ∧ Below w.heap.size w w' := by
  have CS : Hid (∀ X : World, Calls Try.prog 8 #[.agg (cs .i64 t)] X fun e w' => e = .returned (.bool (smallB t)) ∧ Below X.heap.size X w') := Lib.hid fun X => small_any t hl X
  obtain ⟨q, eq⟩ : ∃ q, smallB t = q := ⟨_, rfl⟩
  rw [eq] at CS
  cases q
  case false =>
    clear eq
    go_enter Try.func5, Try.ntmps5
    go_wp2_with fail
    refine (CS.out _).mono ?_
    rintro e w1 ⟨rfl, hb⟩
    have L1 : Below w.heap.size w w1 := by repeat' (first | (with_reducible exact Below.refl _ _) | (with_reducible refine Rd.below_step ?_ (by assumption)) | (with_reducible refine Rd.below_alloc ?_ _) | (with_reducible refine Rd.below_drewN ?_ _) | (with_reducible refine Below.drew ?_) | (with_reducible refine Below.setCell ?_ ?_ _) | (with_reducible refine Rd.below_setRow ?_ ?_ _) | go_size | (simp only [World.size_alloc]; omega) | omega)
    clear hb
    go_wp2_with fail
    refine (awake_any _).mono ?_
    rintro e w2 ⟨rfl, hb⟩
    have L2 : Below w.heap.size w w2 := L1.trans (hb.mono L1.size)
    clear hb
    go_wp2
    go_ret
    exact ⟨rfl, L2⟩
  have h : Tri t := small_tri hl eq
  clear eq
  have l0 := sp_len hl 0 (by omega)
  have l1 := sp_len hl 1 (by omega)
  have l2 := sp_len hl 2 (by omega)
  have CA : Hid (∀ X : World, Calls Try.prog 14 #[.agg (cs .i64 t)] X fun e w' => e = .returned (.int .i64 (area t)) ∧ Below X.heap.size X w') := Lib.hid fun X => area_any t h X
  obtain ⟨a, ea⟩ : ∃ a, area t = a := ⟨_, rfl⟩
  have hab := EdA.Tri.area_bd h
  rw [ea] at CA hab
  have EA := Lib.hid ea
  clear ea
  go_enter Try.func5, Try.ntmps5
  go_wp2_with fail
  refine (CS.out _).mono ?_
  rintro e w1 ⟨rfl, hb⟩
  have bT : blk w1 w.heap.size = some (.cells (cs .i64 t) 24 (0, 0)) := (blk_below hb _ (by simp)).trans (blk_alloc_at _ _ _ rfl)
  have L1 : Below w.heap.size w w1 := by repeat' (first | (with_reducible exact Below.refl _ _) | (with_reducible refine Rd.below_step ?_ (by assumption)) | (with_reducible refine Rd.below_alloc ?_ _) | (with_reducible refine Rd.below_drewN ?_ _) | (with_reducible refine Below.drew ?_) | (with_reducible refine Below.setCell ?_ ?_ _) | (with_reducible refine Rd.below_setRow ?_ ?_ _) | go_size | (simp only [World.size_alloc]; omega) | omega)
  have lT := blk_lt bT
  clear hb CS
  go_wp2_with fail
  refine Pred.region_vals (Pred.Of [
      Is (.agg (cs .i64 t)),
      SH ((pixV t 32 32).length) (pixV t 32 32),
      Is (.pointer (some ⟨w.heap.size, 6, none⟩)),
      Is (.agg (cs .i64 (sp t 1))),
      Is (.pointer (some ⟨w.heap.size, 12, none⟩)),
      Is (.agg (cs .i64 (sp t 2))),
      Is (.pointer (some ⟨w.heap.size, 0, none⟩)),
      Is (.agg (cs .i64 (sp t 0))),
      Is (.agg (cs .i64 (rotL t))),
      SH ((pixV (rotL t) 32 32).length) (pixV (rotL t) 32 32),
      Is (.pointer (some ⟨w.heap.size, 0, none⟩)),
      Is (.agg (cs .i64 (sp t 0))),
      Is (.pointer (some ⟨w.heap.size, 12, none⟩)),
      Is (.agg (cs .i64 (sp t 2))),
      Is (.pointer (some ⟨w.heap.size, 6, none⟩)),
      Is (.agg (cs .i64 (sp t 1))),
      Is (.agg (cs .i64 (turnL t))),
      SH ((pixV (turnL t) 32 32).length) (pixV (turnL t) 32 32),
      SH ((pixV t 32 32).length) (pixV t 32 32),
      SH ((pixV (rotL t) 32 32).length) (pixV (rotL t) 32 32),
      SH ((pixV (turnL t) 32 32).length) (pixV (turnL t) 32 32)]) (by kernel_rfl) (by kernel_rfl) (by kernel_rfl) (Pred.of_stab ?_) ?_ ?_
  · exact ⟨is_stab _, sh_stab _ _, is_stab _, is_stab _, is_stab _, is_stab _, is_stab _, is_stab _, is_stab _, sh_stab _ _, is_stab _, is_stab _, is_stab _, is_stab _, is_stab _, is_stab _, is_stab _, sh_stab _ _, sh_stab _ _, sh_stab _ _, sh_stab _ _, trivial⟩
  · refine ⟨?_, ?_, ?_, ?_, ?_, ?_, ?_, ?_, ?_, ?_, ?_, ?_, ?_, ?_, ?_, ?_, ?_, ?_, ?_, ?_, ?_, trivial⟩
    · intro b X hE hd hn hV
      have r1 : b.tmps[1]?.getD undef = .pointer (some ⟨w.heap.size, 0, none⟩) := (hn 1 (by kernel_rfl)).trans rfl
      have q := (blk_below hE _ lT).trans bT
      exact Pred.yields_run (v := .agg (cs .i64 t)) (Pred.wanted_none rfl) (by go_simp) ⟨Pred.ext_refl _ _, rfl⟩
    · intro b X hE hd hn hV
      have r12 : b.tmps[12]?.getD undef = .agg (cs .i64 t) := hV 0 _ 12 rfl rfl (Pred.waits_near (by kernel_rfl) (by kernel_rfl))
      refine Pred.yields_call (f := 18) (args := #[.agg (cs .i64 t), .int .i64 32, .int .i64 32, .int .i64 (-1)]) (Pred.wanted_none rfl) (by go_simp) ?_
      exact (all32 _ h _ _ _).mono fun e w2 ⟨⟨a, c, he, ha⟩, hb⟩ => ⟨_, he, Pred.ext_below hb hE.size, a, c, rfl, ha⟩
    · intro b X hE hd hn hV
      have r1 : b.tmps[1]?.getD undef = .pointer (some ⟨w.heap.size, 0, none⟩) := (hn 1 (by kernel_rfl)).trans rfl
      exact Pred.yields_run (v := .pointer (some ⟨w.heap.size, 6, none⟩)) (Pred.wanted_none rfl) (by go_simp) ⟨Pred.ext_refl _ _, rfl⟩
    · intro b X hE hd hn hV
      have r14 : b.tmps[14]?.getD undef = .pointer (some ⟨w.heap.size, 6, none⟩) := hV 2 _ 14 rfl rfl (Pred.waits_near (by kernel_rfl) (by kernel_rfl))
      have q := (blk_below hE _ lT).trans bT
      exact Pred.yields_run (v := .agg (cs .i64 (sp t 1))) (Pred.wanted_none rfl) (by go_simp) ⟨Pred.ext_refl _ _, rfl⟩
    · intro b X hE hd hn hV
      have r1 : b.tmps[1]?.getD undef = .pointer (some ⟨w.heap.size, 0, none⟩) := (hn 1 (by kernel_rfl)).trans rfl
      exact Pred.yields_run (v := .pointer (some ⟨w.heap.size, 12, none⟩)) (Pred.wanted_none rfl) (by go_simp) ⟨Pred.ext_refl _ _, rfl⟩
    · intro b X hE hd hn hV
      have r16 : b.tmps[16]?.getD undef = .pointer (some ⟨w.heap.size, 12, none⟩) := hV 4 _ 16 rfl rfl (Pred.waits_near (by kernel_rfl) (by kernel_rfl))
      have q := (blk_below hE _ lT).trans bT
      exact Pred.yields_run (v := .agg (cs .i64 (sp t 2))) (Pred.wanted_none rfl) (by go_simp) ⟨Pred.ext_refl _ _, rfl⟩
    · intro b X hE hd hn hV
      have r1 : b.tmps[1]?.getD undef = .pointer (some ⟨w.heap.size, 0, none⟩) := (hn 1 (by kernel_rfl)).trans rfl
      exact Pred.yields_run (v := .pointer (some ⟨w.heap.size, 0, none⟩)) (Pred.wanted_none rfl) (by go_simp) ⟨Pred.ext_refl _ _, rfl⟩
    · intro b X hE hd hn hV
      have r18 : b.tmps[18]?.getD undef = .pointer (some ⟨w.heap.size, 0, none⟩) := hV 6 _ 18 rfl rfl (Pred.waits_near (by kernel_rfl) (by kernel_rfl))
      have q := (blk_below hE _ lT).trans bT
      exact Pred.yields_run (v := .agg (cs .i64 (sp t 0))) (Pred.wanted_none rfl) (by go_simp) ⟨Pred.ext_refl _ _, rfl⟩
    · intro b X hE hd hn hV
      have r15 : b.tmps[15]?.getD undef = .agg (cs .i64 (sp t 1)) := hV 3 _ 15 rfl rfl (Pred.waits_near (by kernel_rfl) (by kernel_rfl))
      have r17 : b.tmps[17]?.getD undef = .agg (cs .i64 (sp t 2)) := hV 5 _ 17 rfl rfl (Pred.waits_near (by kernel_rfl) (by kernel_rfl))
      have r19 : b.tmps[19]?.getD undef = .agg (cs .i64 (sp t 0)) := hV 7 _ 19 rfl rfl (Pred.waits_near (by kernel_rfl) (by kernel_rfl))
      exact Pred.yields_run (v := .agg (cs .i64 (rotL t))) (Pred.wanted_none rfl) (exec_build_tri 15 17 19 rfl _ _ _ r15 r17 r19 l1 l2 l0) ⟨Pred.ext_refl _ _, rfl⟩
    · intro b X hE hd hn hV
      have r20 : b.tmps[20]?.getD undef = .agg (cs .i64 (rotL t)) := hV 8 _ 20 rfl rfl (Pred.waits_near (by kernel_rfl) (by kernel_rfl))
      refine Pred.yields_call (f := 18) (args := #[.agg (cs .i64 (rotL t)), .int .i64 32, .int .i64 32, .int .i64 (-1)]) (Pred.wanted_none rfl) (by go_simp) ?_
      exact (all32 _ h.rot _ _ _).mono fun e w2 ⟨⟨a, c, he, ha⟩, hb⟩ => ⟨_, he, Pred.ext_below hb hE.size, a, c, rfl, ha⟩
    · intro b X hE hd hn hV
      have r1 : b.tmps[1]?.getD undef = .pointer (some ⟨w.heap.size, 0, none⟩) := (hn 1 (by kernel_rfl)).trans rfl
      exact Pred.yields_run (v := .pointer (some ⟨w.heap.size, 0, none⟩)) (Pred.wanted_none rfl) (by go_simp) ⟨Pred.ext_refl _ _, rfl⟩
    · intro b X hE hd hn hV
      have r22 : b.tmps[22]?.getD undef = .pointer (some ⟨w.heap.size, 0, none⟩) := hV 10 _ 22 rfl rfl (Pred.waits_near (by kernel_rfl) (by kernel_rfl))
      have q := (blk_below hE _ lT).trans bT
      exact Pred.yields_run (v := .agg (cs .i64 (sp t 0))) (Pred.wanted_none rfl) (by go_simp) ⟨Pred.ext_refl _ _, rfl⟩
    · intro b X hE hd hn hV
      have r1 : b.tmps[1]?.getD undef = .pointer (some ⟨w.heap.size, 0, none⟩) := (hn 1 (by kernel_rfl)).trans rfl
      exact Pred.yields_run (v := .pointer (some ⟨w.heap.size, 12, none⟩)) (Pred.wanted_none rfl) (by go_simp) ⟨Pred.ext_refl _ _, rfl⟩
    · intro b X hE hd hn hV
      have r24 : b.tmps[24]?.getD undef = .pointer (some ⟨w.heap.size, 12, none⟩) := hV 12 _ 24 rfl rfl (Pred.waits_near (by kernel_rfl) (by kernel_rfl))
      have q := (blk_below hE _ lT).trans bT
      exact Pred.yields_run (v := .agg (cs .i64 (sp t 2))) (Pred.wanted_none rfl) (by go_simp) ⟨Pred.ext_refl _ _, rfl⟩
    · intro b X hE hd hn hV
      have r1 : b.tmps[1]?.getD undef = .pointer (some ⟨w.heap.size, 0, none⟩) := (hn 1 (by kernel_rfl)).trans rfl
      exact Pred.yields_run (v := .pointer (some ⟨w.heap.size, 6, none⟩)) (Pred.wanted_none rfl) (by go_simp) ⟨Pred.ext_refl _ _, rfl⟩
    · intro b X hE hd hn hV
      have r26 : b.tmps[26]?.getD undef = .pointer (some ⟨w.heap.size, 6, none⟩) := hV 14 _ 26 rfl rfl (Pred.waits_near (by kernel_rfl) (by kernel_rfl))
      have q := (blk_below hE _ lT).trans bT
      exact Pred.yields_run (v := .agg (cs .i64 (sp t 1))) (Pred.wanted_none rfl) (by go_simp) ⟨Pred.ext_refl _ _, rfl⟩
    · intro b X hE hd hn hV
      have r23 : b.tmps[23]?.getD undef = .agg (cs .i64 (sp t 0)) := hV 11 _ 23 rfl rfl (Pred.waits_near (by kernel_rfl) (by kernel_rfl))
      have r25 : b.tmps[25]?.getD undef = .agg (cs .i64 (sp t 2)) := hV 13 _ 25 rfl rfl (Pred.waits_near (by kernel_rfl) (by kernel_rfl))
      have r27 : b.tmps[27]?.getD undef = .agg (cs .i64 (sp t 1)) := hV 15 _ 27 rfl rfl (Pred.waits_near (by kernel_rfl) (by kernel_rfl))
      exact Pred.yields_run (v := .agg (cs .i64 (turnL t))) (Pred.wanted_none rfl) (exec_build_tri 23 25 27 rfl _ _ _ r23 r25 r27 l0 l2 l1) ⟨Pred.ext_refl _ _, rfl⟩
    · intro b X hE hd hn hV
      have r28 : b.tmps[28]?.getD undef = .agg (cs .i64 (turnL t)) := hV 16 _ 28 rfl rfl (Pred.waits_near (by kernel_rfl) (by kernel_rfl))
      refine Pred.yields_call (f := 18) (args := #[.agg (cs .i64 (turnL t)), .int .i64 32, .int .i64 32, .int .i64 (-1)]) (Pred.wanted_none rfl) (by go_simp) ?_
      exact (all32 _ h.turn _ _ _).mono fun e w2 ⟨⟨a, c, he, ha⟩, hb⟩ => ⟨_, he, Pred.ext_below hb hE.size, a, c, rfl, ha⟩
    · intro b X hE hd hn hV
      obtain ⟨ga13, ca13, r13, hr13⟩ : SH ((pixV t 32 32).length) (pixV t 32 32) (b.tmps[13]?.getD undef) X := hV 1 _ 13 rfl rfl (Pred.waits_near (by kernel_rfl) (by kernel_rfl))
      exact Pred.yields_run (v := .slice ga13 (pixV t 32 32).length ca13) (Pred.wanted_none rfl) (by go_simp) ⟨Pred.ext_refl _ _, _, _, rfl, hr13⟩
    · intro b X hE hd hn hV
      obtain ⟨ga21, ca21, r21, hr21⟩ : SH ((pixV (rotL t) 32 32).length) (pixV (rotL t) 32 32) (b.tmps[21]?.getD undef) X := hV 9 _ 21 rfl rfl (Pred.waits_near (by kernel_rfl) (by kernel_rfl))
      exact Pred.yields_run (v := .slice ga21 (pixV (rotL t) 32 32).length ca21) (Pred.wanted_none rfl) (by go_simp) ⟨Pred.ext_refl _ _, _, _, rfl, hr21⟩
    · intro b X hE hd hn hV
      obtain ⟨ga29, ca29, r29, hr29⟩ : SH ((pixV (turnL t) 32 32).length) (pixV (turnL t) 32 32) (b.tmps[29]?.getD undef) X := hV 17 _ 29 rfl rfl (Pred.waits_near (by kernel_rfl) (by kernel_rfl))
      exact Pred.yields_run (v := .slice ga29 (pixV (turnL t) 32 32).length ca29) (Pred.wanted_none rfl) (by go_simp) ⟨Pred.ext_refl _ _, _, _, rfl, hr29⟩
  intro v w3 hE hv
  have e0 : v 0 = .agg (cs .i64 t) := hv 0 _ 12 rfl rfl
  obtain ⟨ga1, ca1, e1, hr1⟩ : SH ((pixV t 32 32).length) (pixV t 32 32) (v 1) w3 := hv 1 _ 13 rfl rfl
  have e2 : v 2 = .pointer (some ⟨w.heap.size, 6, none⟩) := hv 2 _ 14 rfl rfl
  have e3 : v 3 = .agg (cs .i64 (sp t 1)) := hv 3 _ 15 rfl rfl
  have e4 : v 4 = .pointer (some ⟨w.heap.size, 12, none⟩) := hv 4 _ 16 rfl rfl
  have e5 : v 5 = .agg (cs .i64 (sp t 2)) := hv 5 _ 17 rfl rfl
  have e6 : v 6 = .pointer (some ⟨w.heap.size, 0, none⟩) := hv 6 _ 18 rfl rfl
  have e7 : v 7 = .agg (cs .i64 (sp t 0)) := hv 7 _ 19 rfl rfl
  have e8 : v 8 = .agg (cs .i64 (rotL t)) := hv 8 _ 20 rfl rfl
  obtain ⟨ga9, ca9, e9, hr9⟩ : SH ((pixV (rotL t) 32 32).length) (pixV (rotL t) 32 32) (v 9) w3 := hv 9 _ 21 rfl rfl
  have e10 : v 10 = .pointer (some ⟨w.heap.size, 0, none⟩) := hv 10 _ 22 rfl rfl
  have e11 : v 11 = .agg (cs .i64 (sp t 0)) := hv 11 _ 23 rfl rfl
  have e12 : v 12 = .pointer (some ⟨w.heap.size, 12, none⟩) := hv 12 _ 24 rfl rfl
  have e13 : v 13 = .agg (cs .i64 (sp t 2)) := hv 13 _ 25 rfl rfl
  have e14 : v 14 = .pointer (some ⟨w.heap.size, 6, none⟩) := hv 14 _ 26 rfl rfl
  have e15 : v 15 = .agg (cs .i64 (sp t 1)) := hv 15 _ 27 rfl rfl
  have e16 : v 16 = .agg (cs .i64 (turnL t)) := hv 16 _ 28 rfl rfl
  obtain ⟨ga17, ca17, e17, hr17⟩ : SH ((pixV (turnL t) 32 32).length) (pixV (turnL t) 32 32) (v 17) w3 := hv 17 _ 29 rfl rfl
  obtain ⟨ga18, ca18, e18, hr18⟩ : SH ((pixV t 32 32).length) (pixV t 32 32) (v 18) w3 := hv 18 _ 3 rfl rfl
  obtain ⟨ga19, ca19, e19, hr19⟩ : SH ((pixV (rotL t) 32 32).length) (pixV (rotL t) 32 32) (v 19) w3 := hv 19 _ 4 rfl rfl
  obtain ⟨ga20, ca20, e20, hr20⟩ : SH ((pixV (turnL t) 32 32).length) (pixV (turnL t) 32 32) (v 20) w3 := hv 20 _ 5 rfl rfl
  simp only [Pred.putsF_cons, Pred.putsF_nil, Nat.zero_add, Nat.reduceAdd, e0, e1, e2, e3, e4, e5, e6, e7, e8, e9, e10, e11, e12, e13, e14, e15, e16, e17, e18, e19, e20, Act.put, List.setIfInBounds_toArray, List.set_cons_zero, List.set_cons_succ]
  clear e0 e1 e2 e3 e4 e5 e6 e7 e8 e9 e10 e11 e12 e13 e14 e15 e16 e17 e18 e19 e20 hv
  replace bT := (blk_below hE _ lT).trans bT
  replace lT := blk_lt bT
  have L3 : Below w.heap.size w w3 := L1.trans (hE.mono L1.size)
  have H1 := Lib.hid hr18
  have H2 := Lib.hid hr19
  have H3 := Lib.hid hr20
  clear hE L1
  clear hr1 hr9 hr17 hr18 hr19 hr20
  rw [pix_turn hl] at H3
  go_wp2_with fail
  refine Pred.region_vals (Pred.Of [
      Is (.agg (cs .i64 t)),
      Is (.int .i64 a),
      Is (.agg (cs .i64 t)),
      Is (.int .i64 a),
      Is (.int .i64 (-a)),
      Is (.int .i64 (max a (-a))),
      Is (.int .i64 (max a (-a)))]) (by kernel_rfl) (by kernel_rfl) (by kernel_rfl) (Pred.of_stab ?_) ?_ ?_
  · exact ⟨is_stab _, is_stab _, is_stab _, is_stab _, is_stab _, is_stab _, is_stab _, trivial⟩
  · refine ⟨?_, ?_, ?_, ?_, ?_, ?_, ?_, trivial⟩
    · intro b X hE hd hn hV
      have r1 : b.tmps[1]?.getD undef = .pointer (some ⟨w.heap.size, 0, none⟩) := (hn 1 (by kernel_rfl)).trans rfl
      have q := (blk_below hE _ lT).trans bT
      exact Pred.yields_run (v := .agg (cs .i64 t)) (Pred.wanted_none rfl) (by go_simp) ⟨Pred.ext_refl _ _, rfl⟩
    · intro b X hE hd hn hV
      have r30 : b.tmps[30]?.getD undef = .agg (cs .i64 t) := hV 0 _ 30 rfl rfl (Pred.waits_near (by kernel_rfl) (by kernel_rfl))
      refine Pred.yields_call (f := 14) (args := #[.agg (cs .i64 t)]) (Pred.wanted_none rfl) (by go_simp) ?_
      exact (CA.out _).mono fun e w2 ⟨he, hb⟩ => ⟨_, he, Pred.ext_below hb hE.size, rfl⟩
    · intro b X hE hd hn hV
      have r1 : b.tmps[1]?.getD undef = .pointer (some ⟨w.heap.size, 0, none⟩) := (hn 1 (by kernel_rfl)).trans rfl
      have q := (blk_below hE _ lT).trans bT
      exact Pred.yields_run (v := .agg (cs .i64 t)) (Pred.wanted_none rfl) (by go_simp) ⟨Pred.ext_refl _ _, rfl⟩
    · intro b X hE hd hn hV
      have r32 : b.tmps[32]?.getD undef = .agg (cs .i64 t) := hV 2 _ 32 rfl rfl (Pred.waits_near (by kernel_rfl) (by kernel_rfl))
      refine Pred.yields_call (f := 14) (args := #[.agg (cs .i64 t)]) (Pred.wanted_none rfl) (by go_simp) ?_
      exact (CA.out _).mono fun e w2 ⟨he, hb⟩ => ⟨_, he, Pred.ext_below hb hE.size, rfl⟩
    · intro b X hE hd hn hV
      have r33 : b.tmps[33]?.getD undef = .int .i64 a := hV 3 _ 33 rfl rfl (Pred.waits_near (by kernel_rfl) (by kernel_rfl))
      exact Pred.yields_run (v := .int .i64 (-a)) (Pred.wanted_none rfl) (by go_simp; exact IntWalk.i64_in _ (by omega)) ⟨Pred.ext_refl _ _, rfl⟩
    · intro b X hE hd hn hV
      have r31 : b.tmps[31]?.getD undef = .int .i64 a := hV 1 _ 31 rfl rfl (Pred.waits_near (by kernel_rfl) (by kernel_rfl))
      have r34 : b.tmps[34]?.getD undef = .int .i64 (-a) := hV 4 _ 34 rfl rfl (Pred.waits_near (by kernel_rfl) (by kernel_rfl))
      exact Pred.yields_run (v := .int .i64 (max a (-a))) (Pred.wanted_none rfl) (by go_simp) ⟨Pred.ext_refl _ _, rfl⟩
    · intro b X hE hd hn hV
      have r35 : b.tmps[35]?.getD undef = .int .i64 (max a (-a)) := hV 5 _ 35 rfl rfl (Pred.waits_near (by kernel_rfl) (by kernel_rfl))
      exact Pred.yields_run (v := .int .i64 (max a (-a))) (Pred.wanted_none rfl) (by go_simp) ⟨Pred.ext_refl _ _, rfl⟩
  intro v w4 hE hv
  have e0 : v 0 = .agg (cs .i64 t) := hv 0 _ 30 rfl rfl
  have e1 : v 1 = .int .i64 a := hv 1 _ 31 rfl rfl
  have e2 : v 2 = .agg (cs .i64 t) := hv 2 _ 32 rfl rfl
  have e3 : v 3 = .int .i64 a := hv 3 _ 33 rfl rfl
  have e4 : v 4 = .int .i64 (-a) := hv 4 _ 34 rfl rfl
  have e5 : v 5 = .int .i64 (max a (-a)) := hv 5 _ 35 rfl rfl
  have e6 : v 6 = .int .i64 (max a (-a)) := hv 6 _ 6 rfl rfl
  simp only [Pred.putsF_cons, Pred.putsF_nil, Nat.zero_add, Nat.reduceAdd, e0, e1, e2, e3, e4, e5, e6, Act.put, List.setIfInBounds_toArray, List.set_cons_zero, List.set_cons_succ]
  clear e0 e1 e2 e3 e4 e5 e6 hv
  have L4 : Below w.heap.size w w4 := L3.trans (hE.mono L3.size)
  replace H1 := Lib.hid (HitAt.below (B := 0) H1.out hE)
  replace H2 := Lib.hid (HitAt.below (B := 0) H2.out hE)
  replace H3 := Lib.hid (HitAt.below (B := 0) H3.out hE)
  clear hE L3 bT lT
  rw [pix_turn hl, pix_len (rotL t), frameC_rot hl, pix_len t]
  obtain ⟨N, eN⟩ : ∃ N, (frameC t 32 32).length = N := ⟨_, rfl⟩
  obtain ⟨M, eM⟩ : ∃ M, max a (-a) = M := ⟨_, rfl⟩
  have hN1 : N ≤ 1024 := by have := pix_small t 32 32; rw [pix_len, eN] at this; exact this
  have hM : M = 0 → N = 0 := fun e => by
    rw [← eN]
    have : turnedB t = false := decide_eq_false (by rw [EA.out]; omega)
    unfold frameC
    rw [this]
    rfl
  have hMb : 0 ≤ M ∧ M ≤ 1800000000 := by omega
  have EN := Lib.hid eN
  have EM := Lib.hid eM
  rw [eN, eM]
  clear eN eM
  by_cases hN : N = 0
  · subst hN
    clear hM H1 H2 H3
    as_aux_lemma =>
    by_cases h0 : M = 0
    · subst h0
      go_wp2_with fail
      go_loopw [7] (fun i X => i = .int .i64 0 ∧ X = w4) (fun _ _ => 0)
      case atStart => exact ⟨rfl, rfl⟩
      case round =>
        obtain ⟨rfl, rfl⟩ := hrel
        go_wp2_with fail
        refine (awake_any _).mono ?_
        rintro e w5 ⟨rfl, hb⟩
        have L5 : Below w.heap.size w w5 := L4.trans (hb.mono L4.size)
        clear hb
        go_wp2
        go_ret
        exact ⟨rfl, L5⟩
    · have d0 : (M == 0) = false := by simpa using h0
      go_wp2_with fail
      go_loopw [7] (fun i X => i = .int .i64 0 ∧ X = w4) (fun _ _ => 0)
      case atStart => exact ⟨rfl, rfl⟩
      case round =>
        obtain ⟨rfl, rfl⟩ := hrel
        go_wp2_with fail
        refine (awake_any _).mono ?_
        rintro e w5 ⟨rfl, hb⟩
        have L5 : Below w.heap.size w w5 := L4.trans (hb.mono L4.size)
        clear hb
        go_wp2
        go_ret
        exact ⟨rfl, L5⟩
  have d0 : (M == 0) = false := by simp; omega
  clear hM
  obtain ⟨gx, ox, e1, b1, c1⟩ := hit_some H1.out (by rw [pix_len, EN.out]; omega)
  obtain ⟨gy, oy, e2, b2, c2⟩ := hit_some H2.out (by rw [pix_len, frameC_rot hl, EN.out]; omega)
  obtain ⟨gz, oz, e3, b3, c3⟩ := hit_some H3.out (by rw [pix_len, EN.out]; omega)
  subst e1 e2 e3
  have C1 := Lib.hid c1
  have C2 := Lib.hid c2
  have C3 := Lib.hid c3
  clear c1 c2 c3 H1 H2 H3
  go_wp2_with fail
  go_loopw [7] (fun i X => ∃ k : Nat, k ≤ N ∧ i = .int .i64 k ∧ Below w4.heap.size w4 X) (fun i _ => N - (intOf i).toNat)
  case atStart => exact ⟨0, by omega, rfl, Below.refl _ _⟩
  case round =>
    obtain ⟨k, hk, rfl, hb⟩ := hrel
    rename World => Y
    by_cases hlt : k < N
    · have hlt' : (k : Int) < N := by omega
      obtain ⟨px, py, e0, e1, e2, f0, f1, f2, hpx, hpy, hs, q1, q2⟩ := sums_at h EA.out EM.out (k := k) (by rw [EN.out]; exact hlt)
      have hk1 : k < (pixV t 32 32).length := by rw [pix_len, EN.out]; exact hlt
      have hk2 : k < (pixV (rotL t) 32 32).length := by rw [pix_len, frameC_rot hl, EN.out]; exact hlt
      obtain ⟨x0, x1, x2, x3, x4⟩ := hit_five_at C1.out hb b1 hk1 q1
      obtain ⟨y0, y1, -, -, -⟩ := hit_five_at C2.out hb b2 hk2 q2
      obtain ⟨z0, z1, -, -, -⟩ := hit_five_at C3.out hb b3 hk1 q1
      have HS := Lib.hid hs
      have Q1 := Lib.hid q1
      clear hs q1 q2 hk1 hk2
      have hs := HS.out
      obtain ⟨hx0, hx1⟩ := hpx
      obtain ⟨hy0, hy1⟩ := hpy
      obtain ⟨⟨g0, g1⟩, ⟨g2, g3⟩, ⟨g4, g5⟩, es⟩ := hs
      subst es
      clear HS
      have x3' : Y.cell? ⟨gx, ox + k * 5 + 2 + 1, none⟩ = some (.int .i64 e1) := x3
      have x4' : Y.cell? ⟨gx, ox + k * 5 + 2 + 2, none⟩ = some (.int .i64 e2) := x4
      clear x3 x4
      by_cases hk0 : k = 0
      · have dP : decide (0 < (k : Int)) = false := decide_eq_false (by omega)
        have dP' : decide (0 < k) = false := decide_eq_false (by omega)
        have HK0 := Lib.hid hk0
        clear hk0
        as_aux_lemma =>
        go_wp2_with fail
        simp only [List.append_eq, List.cons_append, List.nil_append]
        refine wp_region_quiet_lit (by kernel_rfl) ?_ ?_
        · refine Lex.lex_of 112 (by as_aux_lemma => kernel_rfl) (by as_aux_lemma => kernel_rfl) ?_
          refine Lex.upto_more (a := 104) 8 ?_ (by as_aux_lemma => kernel_rfl)
          refine Lex.upto_more (a := 96) 8 ?_ (by as_aux_lemma => kernel_rfl)
          refine Lex.upto_more (a := 88) 8 ?_ (by as_aux_lemma => kernel_rfl)
          refine Lex.upto_more (a := 80) 8 ?_ (by as_aux_lemma => kernel_rfl)
          refine Lex.upto_more (a := 72) 8 ?_ (by as_aux_lemma => kernel_rfl)
          refine Lex.upto_more (a := 64) 8 ?_ (by as_aux_lemma => kernel_rfl)
          refine Lex.upto_more (a := 56) 8 ?_ (by as_aux_lemma => kernel_rfl)
          refine Lex.upto_more (a := 48) 8 ?_ (by as_aux_lemma => kernel_rfl)
          refine Lex.upto_more (a := 40) 8 ?_ (by as_aux_lemma => kernel_rfl)
          refine Lex.upto_more (a := 32) 8 ?_ (by as_aux_lemma => kernel_rfl)
          refine Lex.upto_more (a := 24) 8 ?_ (by as_aux_lemma => kernel_rfl)
          refine Lex.upto_more (a := 16) 8 ?_ (by as_aux_lemma => kernel_rfl)
          refine Lex.upto_more (a := 8) 8 ?_ (by as_aux_lemma => kernel_rfl)
          refine Lex.upto_more (a := 0) 8 ?_ (by as_aux_lemma => kernel_rfl)
          exact Lex.upto_zero _ _
        iterate 10 go_big_quiet_step (fail)
        as_aux_lemma =>
         iterate 10 go_big_quiet_step (fail)
         as_aux_lemma =>
          iterate 10 go_big_quiet_step (fail)
          as_aux_lemma =>
           iterate 10 go_big_quiet_step (fail)
           as_aux_lemma =>
            iterate 10 go_big_quiet_step (fail)
            as_aux_lemma =>
             iterate 10 go_big_quiet_step (fail)
             as_aux_lemma =>
              iterate 10 go_big_quiet_step (fail)
              as_aux_lemma =>
               iterate 10 go_big_quiet_step (fail)
               as_aux_lemma =>
                iterate 10 go_big_quiet_step (fail)
                as_aux_lemma =>
                 iterate 10 go_big_quiet_step (fail)
                 as_aux_lemma =>
                  iterate 7 go_big_quiet_step (fail)
                  as_aux_lemma =>
                   refine wpQuiet_nil ?_
                   intro _ hU
                   obtain ⟨nq, hU'⟩ := hU
                   subst hU'
                   have L6 : Below w4.heap.size w4 (Y.drewN nq) := Rd.below_drewN hb nq
                   clear hb x0 x1 x2 x3' x4' y0 y1 z0 z1
                   go_wp2
                   exact ⟨⟨k + 1, by omega, by go_num, L6⟩, by simp [intOf]; omega⟩
      · have dP : decide (0 < (k : Int)) = true := decide_eq_true (by omega)
        have dP' : decide (0 < k) = true := decide_eq_true (by omega)
        obtain ⟨m, hm⟩ : ∃ m, k = m + 1 := ⟨k - 1, by omega⟩
        have hkm : m < (frameC t 32 32).length := by rw [EN.out]; omega
        obtain ⟨ax, ay, d0', d1', d2', h0', h1', h2', ⟨hax0, hax1⟩, ⟨hay0, hay1⟩, -, r1, -⟩ := sums_at h EA.out EM.out (k := m) hkm
        obtain ⟨v0, v1, -, -, -⟩ := hit_five_at C1.out hb b1 (show m < (pixV t 32 32).length by rw [pix_len]; exact hkm) r1
        have hord := sums_order (k := m) (by rw [EN.out]; omega) r1 (by rw [← hm]; exact Q1.out)
        have dK : decide (32 * py + px ≤ 32 * ay + ax) = false := decide_eq_false (by omega)
        have em : IntKind.i64.wrap ((k : Int) - 1) = (m : Int) := (IntWalk.i64_in _ (by omega)).trans (by omega)
        have hm' : (m : Int) < N := by omega
        have HM := Lib.hid hm
        clear hk0 hm hkm r1 hord
        as_aux_lemma =>
        go_wp2_with fail
        simp only [List.append_eq, List.cons_append, List.nil_append]
        refine wp_region_quiet_lit (by kernel_rfl) ?_ ?_
        · refine Lex.lex_of 112 (by as_aux_lemma => kernel_rfl) (by as_aux_lemma => kernel_rfl) ?_
          refine Lex.upto_more (a := 104) 8 ?_ (by as_aux_lemma => kernel_rfl)
          refine Lex.upto_more (a := 96) 8 ?_ (by as_aux_lemma => kernel_rfl)
          refine Lex.upto_more (a := 88) 8 ?_ (by as_aux_lemma => kernel_rfl)
          refine Lex.upto_more (a := 80) 8 ?_ (by as_aux_lemma => kernel_rfl)
          refine Lex.upto_more (a := 72) 8 ?_ (by as_aux_lemma => kernel_rfl)
          refine Lex.upto_more (a := 64) 8 ?_ (by as_aux_lemma => kernel_rfl)
          refine Lex.upto_more (a := 56) 8 ?_ (by as_aux_lemma => kernel_rfl)
          refine Lex.upto_more (a := 48) 8 ?_ (by as_aux_lemma => kernel_rfl)
          refine Lex.upto_more (a := 40) 8 ?_ (by as_aux_lemma => kernel_rfl)
          refine Lex.upto_more (a := 32) 8 ?_ (by as_aux_lemma => kernel_rfl)
          refine Lex.upto_more (a := 24) 8 ?_ (by as_aux_lemma => kernel_rfl)
          refine Lex.upto_more (a := 16) 8 ?_ (by as_aux_lemma => kernel_rfl)
          refine Lex.upto_more (a := 8) 8 ?_ (by as_aux_lemma => kernel_rfl)
          refine Lex.upto_more (a := 0) 8 ?_ (by as_aux_lemma => kernel_rfl)
          exact Lex.upto_zero _ _
        iterate 10 go_big_quiet_step (fail)
        as_aux_lemma =>
         iterate 10 go_big_quiet_step (fail)
         as_aux_lemma =>
          iterate 10 go_big_quiet_step (fail)
          as_aux_lemma =>
           iterate 10 go_big_quiet_step (fail)
           as_aux_lemma =>
            iterate 10 go_big_quiet_step (fail)
            as_aux_lemma =>
             iterate 10 go_big_quiet_step (fail)
             as_aux_lemma =>
              iterate 10 go_big_quiet_step (fail)
              as_aux_lemma =>
               iterate 10 go_big_quiet_step (fail)
               as_aux_lemma =>
                iterate 10 go_big_quiet_step (fail)
                as_aux_lemma =>
                 iterate 10 go_big_quiet_step (fail)
                 as_aux_lemma =>
                  iterate 7 go_big_quiet_step (fail)
                  as_aux_lemma =>
                   refine wpQuiet_nil ?_
                   intro _ hU
                   obtain ⟨nq, hU'⟩ := hU
                   subst hU'
                   have L6 : Below w4.heap.size w4 (Y.drewN nq) := Rd.below_drewN hb nq
                   clear hb x0 x1 x2 x3' x4' y0 y1 z0 z1 v0 v1 em
                   go_wp2
                   exact ⟨⟨k + 1, by omega, by go_num, L6⟩, by simp [intOf]; omega⟩
    · obtain rfl : k = N := by omega
      have LY : Below w.heap.size w Y := L4.trans (hb.mono L4.size)
      go_wp2_with fail
      refine (awake_any _).mono ?_
      rintro e w5 ⟨rfl, hb5⟩
      have L5 : Below w.heap.size w w5 := LY.trans (hb5.mono LY.size)
      clear hb5
      go_wp2
      go_ret
      exact ⟨rfl, L5⟩
end Go.Proofs.Ythkfnjblmilgnaa.EdH
