/-
  The law of package vec: one changes nothing.
-/
import Derived.Test.YtgfdmjicokhheaaVecK
import Derived.Test.YtgfdmjicokhheaaPredS
namespace Go.Proofs.Ytgfdmjicokhheaa.VecP
open Go.RowKit FixA Num Rd Go.Proofs.Ytgfdmjicokhheaa.Row VecA VecB VecC VecD VecE VecF VecG VecK
set_option linter.unusedVariables false
set_option linter.unusedSimpArgs false
set_option maxRecDepth 10000
attribute [local go_sem ↓] load_mat load_vec store_mat store_vec
attribute [local go_sem] index_mat index_vec run_load_mat run_load_vec run_store_mat run_store_vec rowLoad_eq rowStore_eq blk_alloc_at blk_alloc_old blk_drew blk_drewN blk_set_far blk_set_far' blk_grow setRow_alloc_at setRow_alloc_old setRow_drew setRow_drewN all_map one_int



open Go.Proofs.Ytgfdmjicokhheaa.PredS (Is is_stab Stab)
attribute [local go_sem] eq_mat eq_vec eq_vec_lit
set_option maxHeartbeats 4000000 in
theorem VecOne_law (ms : List Int) (vs : List Int) (w : World) (hms : ms.length = 16) (hvs : vs.length = 4) (wms : Wf ms) (wvs : Wf vs) :
    Calls Try.prog 4 #[.agg (cs .i64 ms), .agg (cs .i64 vs)] w fun e w' => e = .returned (.bool true) ∧ Below w.heap.size w w' := by
  have Wms := Lib.hid wms
  clear wms
  have Wvs := Lib.hid wvs
  clear wvs
  have W1 := Lib.hid (show Wf oneL by decide)
  have hone : oneL.length = 16 := rfl
  obtain ⟨q, hq⟩ : ∃ q, mulV oneL ms = q := ⟨_, rfl⟩
  obtain ⟨q', hq'⟩ : ∃ q, mulV ms oneL = q := ⟨_, rfl⟩
  have hl := mulV_len oneL ms
  rw [hq] at hl
  have hl' := mulV_len ms oneL
  rw [hq'] at hl'
  have HQ := Lib.hid hq
  have HQ' := Lib.hid hq'
  clear hq hq'
  go_enter Try.func4, Try.ntmps4
  go_upto_region 1 with (fail)
  refine Rd.name_world ?_
  intro w1 hW
  have bm1 : blk w1 (w.heap.size) = some (.cells (cs .i64 ms) 23 (0, 0)) := by rw [hW]; exact (blk_alloc_old _ _ _ (by (try simp only [World.size_alloc]); omega)).trans (blk_alloc_at _ _ _ rfl)
  have bv1 : blk w1 (w.heap.size + 1) = some (.cells (cs .i64 vs) 25 (0, 0)) := by rw [hW]; exact blk_alloc_at _ _ _ (by simp)
  have L1 : Below w.heap.size w w1 := by rw [hW]; repeat' (first | (with_reducible exact Below.refl _ _) | (with_reducible refine Rd.below_step ?_ (by assumption)) | (with_reducible refine Rd.below_alloc ?_ _) | (with_reducible refine Rd.below_drewN ?_ _) | (with_reducible refine Below.drew ?_) | (with_reducible refine Below.setCell ?_ ?_ _) | (with_reducible refine Rd.below_setRow ?_ ?_ _) | go_size | (simp only [World.size_alloc]; omega) | omega)
  have lbm1 := blk_lt bm1
  have lbv1 := blk_lt bv1
  clear hW
  refine PredS.region_vals (W := w1) [⟨6, 7, 23, (cs .i64 (List.replicate 16 0)), (cs .i64 q.1)⟩] (PredS.Of [
      Is (.agg (cs .i64 oneL)),
      Is (.agg (cs .i64 ms)),
      Is (.tuple #[.agg (cs .i64 q.1), .int .i64 q.2]),
      Is (.tuple #[.agg (cs .i64 q.1), .int .i64 q.2]),
      Is (.agg (cs .i64 q.1)),
      Is (.int .i64 q.2),
      Is undef,
      Is undef,
      Is (.int .i64 q.2)]) (by kernel_rfl) (by kernel_rfl) (by kernel_rfl) (by kernel_rfl) (PredS.of_stab ?_) ?_ ?_ ?_
  · exact ⟨is_stab _, is_stab _, is_stab _, is_stab _, is_stab _, is_stab _, is_stab _, is_stab _, is_stab _, trivial⟩
  · refine ⟨.inr ?_, .inr ?_, .inr ?_, .inr ?_, .inr ?_, .inr ?_, .inl rfl, .inl rfl, .inr ?_, trivial⟩
    · intro b X hE hd hn hV
      refine Pred.yields_call (f := 18) (args := #[]) (Pred.wanted_none rfl) (by go_simp) ?_
      exact (one_any _).mono fun e w2 ⟨he, hb⟩ => ⟨_, he, PredS.ext_below hb hE.size, rfl⟩
    · intro b X hE hd hn hV
      have r2 : b.tmps[2]?.getD undef = .pointer (some ⟨w.heap.size, 0, none⟩) := (hn 2 (by kernel_rfl)).trans rfl
      have q := (blk_below hE _ lbm1).trans bm1
      exact Pred.yields_run (v := .agg (cs .i64 ms)) (Pred.wanted_none rfl) (by go_simp) ⟨PredS.ext_refl _ _ _, rfl⟩
    · intro b X hE hd hn hV
      have r13 : b.tmps[13]?.getD undef = .agg (cs .i64 oneL) := hV 0 _ 13 rfl rfl rfl (Pred.waits_near (by kernel_rfl) (by kernel_rfl))
      have r14 : b.tmps[14]?.getD undef = .agg (cs .i64 ms) := hV 1 _ 14 rfl rfl rfl (Pred.waits_near (by kernel_rfl) (by kernel_rfl))
      refine Pred.yields_call (f := 8) (args := #[.agg (cs .i64 oneL), .agg (cs .i64 ms)]) (Pred.wanted_none rfl) (by go_simp) ?_
      exact (mul_q HQ hone hms _ W1.out Wms.out).mono fun e w2 ⟨he, hb⟩ => ⟨_, he, PredS.ext_below hb hE.size, rfl⟩
    · intro b X hE hd hn hV
      have r15 : b.tmps[15]?.getD undef = .tuple #[.agg (cs .i64 q.1), .int .i64 q.2] := hV 2 _ 15 rfl rfl rfl (Pred.waits_near (by kernel_rfl) (by kernel_rfl))
      exact Pred.yields_run (v := .tuple #[.agg (cs .i64 q.1), .int .i64 q.2]) (Pred.wanted_none rfl) (by go_simp) ⟨PredS.ext_refl _ _ _, rfl⟩
    · intro b X hE hd hn hV
      have r12 : b.tmps[12]?.getD undef = .tuple #[.agg (cs .i64 q.1), .int .i64 q.2] := hV 3 _ 12 rfl rfl rfl (Pred.waits_near (by kernel_rfl) (by kernel_rfl))
      exact Pred.yields_run (v := .agg (cs .i64 q.1)) (Pred.wanted_none rfl) (by go_simp) ⟨PredS.ext_refl _ _ _, rfl⟩
    · intro b X hE hd hn hV
      have r12 : b.tmps[12]?.getD undef = .tuple #[.agg (cs .i64 q.1), .int .i64 q.2] := hV 3 _ 12 rfl rfl rfl (Pred.waits_near (by kernel_rfl) (by kernel_rfl))
      exact Pred.yields_run (v := .int .i64 q.2) (Pred.wanted_none rfl) (by go_simp) ⟨PredS.ext_refl _ _ _, rfl⟩
    · intro b X hE hd hn hV
      have r17 : b.tmps[17]?.getD undef = .int .i64 q.2 := hV 5 _ 17 rfl rfl rfl (Pred.waits_near (by kernel_rfl) (by kernel_rfl))
      exact Pred.yields_run (v := .int .i64 q.2) (Pred.wanted_none rfl) (by go_simp) ⟨PredS.ext_refl _ _ _, rfl⟩
  · refine ⟨?_, trivial⟩
    · refine ⟨_, 5, _, rfl, rfl, by simp, rfl, fun ρ w => by first | (go_simp; done) | (go_simp; rfl), rfl, rfl, Pred.waits_near (by kernel_rfl) (by kernel_rfl), fun b X g hE hn hV hp hg hb => ?_⟩
      have r16 : b.tmps[16]?.getD undef = .agg (cs .i64 q.1) := hV 4 _ 16 rfl rfl rfl (Pred.waits_near (by kernel_rfl) (by kernel_rfl))
      simp only at hb
      exact PredS.yields_skip (Pred.wanted_none rfl) (by go_simp) rfl
  intro v w2 hE hv hL
  have e0 : v 0 = .agg (cs .i64 oneL) := hv 0 _ 13 rfl rfl rfl
  have e1 : v 1 = .agg (cs .i64 ms) := hv 1 _ 14 rfl rfl rfl
  have e2 : v 2 = .tuple #[.agg (cs .i64 q.1), .int .i64 q.2] := hv 2 _ 15 rfl rfl rfl
  have e3 : v 3 = .tuple #[.agg (cs .i64 q.1), .int .i64 q.2] := hv 3 _ 12 rfl rfl rfl
  have e4 : v 4 = .agg (cs .i64 q.1) := hv 4 _ 16 rfl rfl rfl
  have e5 : v 5 = .int .i64 q.2 := hv 5 _ 17 rfl rfl rfl
  have e8 : v 8 = .int .i64 q.2 := hv 8 _ 6 rfl rfl rfl
  obtain ⟨⟨g6r1, e6, o6r1, q6r1, n6r1⟩, -⟩ := hL
  replace q6r1 : blk w2 g6r1 = some (.cells (cs .i64 q.1) 23 (0, 0)) := q6r1
  clear n6r1
  simp only [Pred.putsF_cons, Pred.putsF_nil, Nat.zero_add, Nat.reduceAdd, e0, e1, e2, e3, e4, e5, e6, e8, Act.put, List.setIfInBounds_toArray, List.set_cons_zero, List.set_cons_succ]
  clear e0 e1 e2 e3 e4 e5 e6 e8 hv
  have s2 := hE.size
  have bm2 := (blk_below hE _ lbm1).trans bm1
  have bv2 := (blk_below hE _ lbv1).trans bv1
  have bp2 := q6r1
  have L2 : Below w.heap.size w w2 := L1.trans (hE.mono L1.size)
  clear bm1 lbm1 bv1 lbv1 L1 hE
  have lbm2 := blk_lt bm2
  have lbv2 := blk_lt bv2
  have lbp2 := blk_lt bp2
  go_upto_region 2 with (fail)
  refine Rd.name_world ?_
  intro w3 hW
  have bm3 : blk w3 (w.heap.size) = some (.cells (cs .i64 ms) 23 (0, 0)) := by rw [hW]; exact bm2
  have bv3 : blk w3 (w.heap.size + 1) = some (.cells (cs .i64 vs) 25 (0, 0)) := by rw [hW]; exact bv2
  have bp3 : blk w3 (g6r1) = some (.cells (cs .i64 q.1) 23 (0, 0)) := by rw [hW]; exact bp2
  have L3 : Below w.heap.size w w3 := by rw [hW]; repeat' (first | (with_reducible exact Below.refl _ _) | (with_reducible refine Rd.below_step ?_ (by assumption)) | (with_reducible refine Rd.below_alloc ?_ _) | (with_reducible refine Rd.below_drewN ?_ _) | (with_reducible refine Below.drew ?_) | (with_reducible refine Below.setCell ?_ ?_ _) | (with_reducible refine Rd.below_setRow ?_ ?_ _) | go_size | (simp only [World.size_alloc]; omega) | omega)
  have lbm3 := blk_lt bm3
  have lbv3 := blk_lt bv3
  have lbp3 := blk_lt bp3
  clear bm2 bv2 bp2 lbm2 lbv2 lbp2 hW L2
  refine PredS.region_vals (W := w3) [⟨6, 7, 23, (cs .i64 (List.replicate 16 0)), (cs .i64 q'.1)⟩] (PredS.Of [
      Is (.agg (cs .i64 ms)),
      Is (.agg (cs .i64 oneL)),
      Is (.tuple #[.agg (cs .i64 q'.1), .int .i64 q'.2]),
      Is (.tuple #[.agg (cs .i64 q'.1), .int .i64 q'.2]),
      Is (.agg (cs .i64 q'.1)),
      Is (.int .i64 q'.2),
      Is undef,
      Is undef,
      Is (.int .i64 q'.2)]) (by kernel_rfl) (by kernel_rfl) (by kernel_rfl) (by kernel_rfl) (PredS.of_stab ?_) ?_ ?_ ?_
  · exact ⟨is_stab _, is_stab _, is_stab _, is_stab _, is_stab _, is_stab _, is_stab _, is_stab _, is_stab _, trivial⟩
  · refine ⟨.inr ?_, .inr ?_, .inr ?_, .inr ?_, .inr ?_, .inr ?_, .inl rfl, .inl rfl, .inr ?_, trivial⟩
    · intro b X hE hd hn hV
      have r2 : b.tmps[2]?.getD undef = .pointer (some ⟨w.heap.size, 0, none⟩) := (hn 2 (by kernel_rfl)).trans rfl
      have q := (blk_below hE _ lbm3).trans bm3
      exact Pred.yields_run (v := .agg (cs .i64 ms)) (Pred.wanted_none rfl) (by go_simp) ⟨PredS.ext_refl _ _ _, rfl⟩
    · intro b X hE hd hn hV
      refine Pred.yields_call (f := 18) (args := #[]) (Pred.wanted_none rfl) (by go_simp) ?_
      exact (one_any _).mono fun e w2 ⟨he, hb⟩ => ⟨_, he, PredS.ext_below hb hE.size, rfl⟩
    · intro b X hE hd hn hV
      have r19 : b.tmps[19]?.getD undef = .agg (cs .i64 ms) := hV 0 _ 19 rfl rfl rfl (Pred.waits_near (by kernel_rfl) (by kernel_rfl))
      have r20 : b.tmps[20]?.getD undef = .agg (cs .i64 oneL) := hV 1 _ 20 rfl rfl rfl (Pred.waits_near (by kernel_rfl) (by kernel_rfl))
      refine Pred.yields_call (f := 8) (args := #[.agg (cs .i64 ms), .agg (cs .i64 oneL)]) (Pred.wanted_none rfl) (by go_simp) ?_
      exact (mul_q HQ' hms hone _ Wms.out W1.out).mono fun e w2 ⟨he, hb⟩ => ⟨_, he, PredS.ext_below hb hE.size, rfl⟩
    · intro b X hE hd hn hV
      have r21 : b.tmps[21]?.getD undef = .tuple #[.agg (cs .i64 q'.1), .int .i64 q'.2] := hV 2 _ 21 rfl rfl rfl (Pred.waits_near (by kernel_rfl) (by kernel_rfl))
      exact Pred.yields_run (v := .tuple #[.agg (cs .i64 q'.1), .int .i64 q'.2]) (Pred.wanted_none rfl) (by go_simp) ⟨PredS.ext_refl _ _ _, rfl⟩
    · intro b X hE hd hn hV
      have r18 : b.tmps[18]?.getD undef = .tuple #[.agg (cs .i64 q'.1), .int .i64 q'.2] := hV 3 _ 18 rfl rfl rfl (Pred.waits_near (by kernel_rfl) (by kernel_rfl))
      exact Pred.yields_run (v := .agg (cs .i64 q'.1)) (Pred.wanted_none rfl) (by go_simp) ⟨PredS.ext_refl _ _ _, rfl⟩
    · intro b X hE hd hn hV
      have r18 : b.tmps[18]?.getD undef = .tuple #[.agg (cs .i64 q'.1), .int .i64 q'.2] := hV 3 _ 18 rfl rfl rfl (Pred.waits_near (by kernel_rfl) (by kernel_rfl))
      exact Pred.yields_run (v := .int .i64 q'.2) (Pred.wanted_none rfl) (by go_simp) ⟨PredS.ext_refl _ _ _, rfl⟩
    · intro b X hE hd hn hV
      have r23 : b.tmps[23]?.getD undef = .int .i64 q'.2 := hV 5 _ 23 rfl rfl rfl (Pred.waits_near (by kernel_rfl) (by kernel_rfl))
      exact Pred.yields_run (v := .int .i64 q'.2) (Pred.wanted_none rfl) (by go_simp) ⟨PredS.ext_refl _ _ _, rfl⟩
  · refine ⟨?_, trivial⟩
    · refine ⟨_, 7, _, rfl, rfl, by simp, rfl, fun ρ w => by first | (go_simp; done) | (go_simp; rfl), rfl, rfl, Pred.waits_near (by kernel_rfl) (by kernel_rfl), fun b X g hE hn hV hp hg hb => ?_⟩
      have r22 : b.tmps[22]?.getD undef = .agg (cs .i64 q'.1) := hV 4 _ 22 rfl rfl rfl (Pred.waits_near (by kernel_rfl) (by kernel_rfl))
      simp only at hb
      exact PredS.yields_skip (Pred.wanted_none rfl) (by go_simp) rfl
  intro v w4 hE hv hL
  have e0 : v 0 = .agg (cs .i64 ms) := hv 0 _ 19 rfl rfl rfl
  have e1 : v 1 = .agg (cs .i64 oneL) := hv 1 _ 20 rfl rfl rfl
  have e2 : v 2 = .tuple #[.agg (cs .i64 q'.1), .int .i64 q'.2] := hv 2 _ 21 rfl rfl rfl
  have e3 : v 3 = .tuple #[.agg (cs .i64 q'.1), .int .i64 q'.2] := hv 3 _ 18 rfl rfl rfl
  have e4 : v 4 = .agg (cs .i64 q'.1) := hv 4 _ 22 rfl rfl rfl
  have e5 : v 5 = .int .i64 q'.2 := hv 5 _ 23 rfl rfl rfl
  have e8 : v 8 = .int .i64 q'.2 := hv 8 _ 8 rfl rfl rfl
  obtain ⟨⟨g6r2, e6, o6r2, q6r2, n6r2⟩, -⟩ := hL
  replace q6r2 : blk w4 g6r2 = some (.cells (cs .i64 q'.1) 23 (0, 0)) := q6r2
  clear n6r2
  simp only [Pred.putsF_cons, Pred.putsF_nil, Nat.zero_add, Nat.reduceAdd, e0, e1, e2, e3, e4, e5, e6, e8, Act.put, List.setIfInBounds_toArray, List.set_cons_zero, List.set_cons_succ]
  clear e0 e1 e2 e3 e4 e5 e6 e8 hv
  have s4 := hE.size
  have bm4 := (blk_below hE _ lbm3).trans bm3
  have bv4 := (blk_below hE _ lbv3).trans bv3
  have bp4 := (blk_below hE _ lbp3).trans bp3
  have br4 := q6r2
  have L4 : Below w.heap.size w w4 := L3.trans (hE.mono L3.size)
  clear bm3 lbm3 bv3 lbv3 bp3 lbp3 L3 hE
  have lbm4 := blk_lt bm4
  have lbv4 := blk_lt bv4
  have lbp4 := blk_lt bp4
  have lbr4 := blk_lt br4
  go_wp2_with fail
  refine (rmay_any ms hms _ Wms.out).mono ?_
  rintro e w5 ⟨rfl, hb5⟩
  have s5 := hb5.size
  try simp only [World.size_alloc] at s5
  have bm5 : blk w5 (w.heap.size) = some (.cells (cs .i64 ms) 23 (0, 0)) := (blk_below hb5 _ (by (try simp only [World.size_alloc]); omega)).trans (bm4)
  have bv5 : blk w5 (w.heap.size + 1) = some (.cells (cs .i64 vs) 25 (0, 0)) := (blk_below hb5 _ (by (try simp only [World.size_alloc]); omega)).trans (bv4)
  have bp5 : blk w5 (g6r1) = some (.cells (cs .i64 q.1) 23 (0, 0)) := (blk_below hb5 _ (by (try simp only [World.size_alloc]); omega)).trans (bp4)
  have br5 : blk w5 (g6r2) = some (.cells (cs .i64 q'.1) 23 (0, 0)) := (blk_below hb5 _ (by (try simp only [World.size_alloc]); omega)).trans (br4)
  have L5 : Below w.heap.size w w5 := by repeat' (first | (with_reducible exact Below.refl _ _) | (with_reducible refine Rd.below_step ?_ (by assumption)) | (with_reducible refine Rd.below_alloc ?_ _) | (with_reducible refine Rd.below_drewN ?_ _) | (with_reducible refine Below.drew ?_) | (with_reducible refine Below.setCell ?_ ?_ _) | (with_reducible refine Rd.below_setRow ?_ ?_ _) | go_size | (simp only [World.size_alloc]; omega) | omega)
  clear bm4 bv4 bp4 br4 lbm4 lbv4 lbp4 lbr4 hb5 L4
  have lbm5 := blk_lt bm5
  have lbv5 := blk_lt bv5
  have lbp5 := blk_lt bp5
  have lbr5 := blk_lt br5
  by_cases h : ms.all cellB = true
  case neg =>
    have h' : ms.all cellB = false := by simpa using h
    clear h
    have e2 : q.2 = 2 := by rw [← HQ.out, mulV_no_right h']
    have e2' : q'.2 = 2 := by rw [← HQ'.out, mulV_no_left h']
    go_wp2_with fail
    refine (awake_any _).mono ?_
    rintro e w6 ⟨rfl, hb6⟩
    have s6 := hb6.size
    try simp only [World.size_alloc] at s6
    have bm6 : blk w6 (w.heap.size) = some (.cells (cs .i64 ms) 23 (0, 0)) := (blk_below hb6 _ (by (try simp only [World.size_alloc]); omega)).trans (bm5)
    have bv6 : blk w6 (w.heap.size + 1) = some (.cells (cs .i64 vs) 25 (0, 0)) := (blk_below hb6 _ (by (try simp only [World.size_alloc]); omega)).trans (bv5)
    have bp6 : blk w6 (g6r1) = some (.cells (cs .i64 q.1) 23 (0, 0)) := (blk_below hb6 _ (by (try simp only [World.size_alloc]); omega)).trans (bp5)
    have br6 : blk w6 (g6r2) = some (.cells (cs .i64 q'.1) 23 (0, 0)) := (blk_below hb6 _ (by (try simp only [World.size_alloc]); omega)).trans (br5)
    have L6 : Below w.heap.size w w6 := by repeat' (first | (with_reducible exact Below.refl _ _) | (with_reducible refine Rd.below_step ?_ (by assumption)) | (with_reducible refine Rd.below_alloc ?_ _) | (with_reducible refine Rd.below_drewN ?_ _) | (with_reducible refine Below.drew ?_) | (with_reducible refine Below.setCell ?_ ?_ _) | (with_reducible refine Rd.below_setRow ?_ ?_ _) | go_size | (simp only [World.size_alloc]; omega) | omega)
    clear bm5 bv5 bp5 br5 lbm5 lbv5 lbp5 lbr5 hb6 L5
    have lbm6 := blk_lt bm6
    have lbv6 := blk_lt bv6
    have lbp6 := blk_lt bp6
    have lbr6 := blk_lt br6
    go_wp2_with fail
    go_ret
    exact ⟨rfl, by repeat' (first | (with_reducible exact Below.refl _ _) | (with_reducible refine Rd.below_step ?_ (by assumption)) | (with_reducible refine Rd.below_alloc ?_ _) | (with_reducible refine Rd.below_drewN ?_ _) | (with_reducible refine Below.drew ?_) | (with_reducible refine Below.setCell ?_ ?_ _) | (with_reducible refine Rd.below_setRow ?_ ?_ _) | go_size | (simp only [World.size_alloc]; omega) | omega)⟩
  have eq1 := HQ.out
  rw [mulV_one_left hms h] at eq1
  have eq2 := HQ'.out
  rw [mulV_one_right hms h] at eq2
  subst eq1
  subst eq2
  have H1 := Lib.hid h
  go_wp2
  clear h
  go_loop [9] (fun i => ∃ k : Nat, k ≤ 4 ∧ i = .int .i64 k ∧ Hid ((vs.take k).all numB = true)) (fun i => 4 - (intOf i).toNat)
  case atStart => exact ⟨0, by omega, rfl, rfl⟩
  case round =>
    obtain ⟨k, hk, rfl, HT⟩ := hrel
    by_cases hlt : k < 4
    · have hlt' : (k : Int) < 4 := by omega
      have hc : w5.cell? ⟨w.heap.size + 1, k, none⟩ = some (.int .i64 vs[k]) := by rw [blk_cell bv5]; simp
      by_cases gt1 : vs[k] < -268435456
      · go_wp2_with fail
        refine (awake_any _).mono ?_
        rintro e w6 ⟨rfl, hb6⟩
        have s6 := hb6.size
        try simp only [World.size_alloc] at s6
        have bm6 : blk w6 (w.heap.size) = some (.cells (cs .i64 ms) 23 (0, 0)) := (blk_below hb6 _ (by (try simp only [World.size_alloc]); omega)).trans (bm5)
        have bv6 : blk w6 (w.heap.size + 1) = some (.cells (cs .i64 vs) 25 (0, 0)) := (blk_below hb6 _ (by (try simp only [World.size_alloc]); omega)).trans (bv5)
        have bp6 : blk w6 (g6r1) = some (.cells (cs .i64 ms) 23 (0, 0)) := (blk_below hb6 _ (by (try simp only [World.size_alloc]); omega)).trans (bp5)
        have br6 : blk w6 (g6r2) = some (.cells (cs .i64 ms) 23 (0, 0)) := (blk_below hb6 _ (by (try simp only [World.size_alloc]); omega)).trans (br5)
        have L6 : Below w.heap.size w w6 := by repeat' (first | (with_reducible exact Below.refl _ _) | (with_reducible refine Rd.below_step ?_ (by assumption)) | (with_reducible refine Rd.below_alloc ?_ _) | (with_reducible refine Rd.below_drewN ?_ _) | (with_reducible refine Below.drew ?_) | (with_reducible refine Below.setCell ?_ ?_ _) | (with_reducible refine Rd.below_setRow ?_ ?_ _) | go_size | (simp only [World.size_alloc]; omega) | omega)
        clear bm5 bv5 bp5 br5 lbm5 lbv5 lbp5 lbr5 hb6 L5
        have lbm6 := blk_lt bm6
        have lbv6 := blk_lt bv6
        have lbp6 := blk_lt bp6
        have lbr6 := blk_lt br6
        go_wp2_with fail
        go_ret
        exact ⟨rfl, by repeat' (first | (with_reducible exact Below.refl _ _) | (with_reducible refine Rd.below_step ?_ (by assumption)) | (with_reducible refine Rd.below_alloc ?_ _) | (with_reducible refine Rd.below_drewN ?_ _) | (with_reducible refine Below.drew ?_) | (with_reducible refine Below.setCell ?_ ?_ _) | (with_reducible refine Rd.below_setRow ?_ ?_ _) | go_size | (simp only [World.size_alloc]; omega) | omega)⟩
      by_cases gt2 : 268435456 < vs[k]
      · have hd1 : decide (vs[k] < -268435456) = false := by simpa using gt1
        go_wp2_with fail
        refine (awake_any _).mono ?_
        rintro e w6 ⟨rfl, hb6⟩
        have s6 := hb6.size
        try simp only [World.size_alloc] at s6
        have bm6 : blk w6 (w.heap.size) = some (.cells (cs .i64 ms) 23 (0, 0)) := (blk_below hb6 _ (by (try simp only [World.size_alloc]); omega)).trans (bm5)
        have bv6 : blk w6 (w.heap.size + 1) = some (.cells (cs .i64 vs) 25 (0, 0)) := (blk_below hb6 _ (by (try simp only [World.size_alloc]); omega)).trans (bv5)
        have bp6 : blk w6 (g6r1) = some (.cells (cs .i64 ms) 23 (0, 0)) := (blk_below hb6 _ (by (try simp only [World.size_alloc]); omega)).trans (bp5)
        have br6 : blk w6 (g6r2) = some (.cells (cs .i64 ms) 23 (0, 0)) := (blk_below hb6 _ (by (try simp only [World.size_alloc]); omega)).trans (br5)
        have L6 : Below w.heap.size w w6 := by repeat' (first | (with_reducible exact Below.refl _ _) | (with_reducible refine Rd.below_step ?_ (by assumption)) | (with_reducible refine Rd.below_alloc ?_ _) | (with_reducible refine Rd.below_drewN ?_ _) | (with_reducible refine Below.drew ?_) | (with_reducible refine Below.setCell ?_ ?_ _) | (with_reducible refine Rd.below_setRow ?_ ?_ _) | go_size | (simp only [World.size_alloc]; omega) | omega)
        clear bm5 bv5 bp5 br5 lbm5 lbv5 lbp5 lbr5 hb6 L5
        have lbm6 := blk_lt bm6
        have lbv6 := blk_lt bv6
        have lbp6 := blk_lt bp6
        have lbr6 := blk_lt br6
        go_wp2_with fail
        go_ret
        exact ⟨rfl, by repeat' (first | (with_reducible exact Below.refl _ _) | (with_reducible refine Rd.below_step ?_ (by assumption)) | (with_reducible refine Rd.below_alloc ?_ _) | (with_reducible refine Rd.below_drewN ?_ _) | (with_reducible refine Below.drew ?_) | (with_reducible refine Below.setCell ?_ ?_ _) | (with_reducible refine Rd.below_setRow ?_ ?_ _) | go_size | (simp only [World.size_alloc]; omega) | omega)⟩
      have ha := Lib.hid (take_allp HT.out (by omega) (num_mk (by omega) (by omega)))
      have hd1 : decide (vs[k] < -268435456) = false := by simpa using gt1
      have hd2 : decide (268435456 < vs[k]) = false := by simpa using gt2
      clear gt1 gt2
      go_wp2
      exact ⟨⟨k + 1, by omega, by go_num, ha⟩, by simp [intOf]; omega⟩
    · obtain rfl : k = 4 := by omega
      have H2 := Lib.hid (show vs.all numB = true by have := HT.out; rwa [List.take_of_length_le (by omega)] at this)
      clear HT
      have HA := Lib.hid (show applyV oneL vs = (vs, 0) by rw [applyV_ok one_cells H2.out, apply_one hvs])
      go_upto_region 10 with (fail)
      refine Rd.name_world ?_
      intro w6 hW
      have bm6 : blk w6 (w.heap.size) = some (.cells (cs .i64 ms) 23 (0, 0)) := by rw [hW]; exact bm5
      have bv6 : blk w6 (w.heap.size + 1) = some (.cells (cs .i64 vs) 25 (0, 0)) := by rw [hW]; exact bv5
      have bp6 : blk w6 (g6r1) = some (.cells (cs .i64 ms) 23 (0, 0)) := by rw [hW]; exact bp5
      have br6 : blk w6 (g6r2) = some (.cells (cs .i64 ms) 23 (0, 0)) := by rw [hW]; exact br5
      have L6 : Below w.heap.size w w6 := by rw [hW]; repeat' (first | (with_reducible exact Below.refl _ _) | (with_reducible refine Rd.below_step ?_ (by assumption)) | (with_reducible refine Rd.below_alloc ?_ _) | (with_reducible refine Rd.below_drewN ?_ _) | (with_reducible refine Below.drew ?_) | (with_reducible refine Below.setCell ?_ ?_ _) | (with_reducible refine Rd.below_setRow ?_ ?_ _) | go_size | (simp only [World.size_alloc]; omega) | omega)
      have lbm6 := blk_lt bm6
      have lbv6 := blk_lt bv6
      have lbp6 := blk_lt bp6
      have lbr6 := blk_lt br6
      clear bm5 bv5 bp5 br5 lbm5 lbv5 lbp5 lbr5 hW L5
      refine PredS.region_vals (W := w6) [⟨6, 7, 25, (cs .i64 (List.replicate 4 0)), (cs .i64 vs)⟩] (PredS.Of [
          Is (.agg (cs .i64 oneL)),
          Is (.agg (cs .i64 vs)),
          Is (.tuple #[.agg (cs .i64 vs), .int .i64 0]),
          Is (.tuple #[.agg (cs .i64 vs), .int .i64 0]),
          Is (.agg (cs .i64 vs)),
          Is (.int .i64 0),
          Is undef,
          Is undef,
          Is (.int .i64 0)]) (by kernel_rfl) (by kernel_rfl) (by kernel_rfl) (by kernel_rfl) (PredS.of_stab ?_) ?_ ?_ ?_
      · exact ⟨is_stab _, is_stab _, is_stab _, is_stab _, is_stab _, is_stab _, is_stab _, is_stab _, is_stab _, trivial⟩
      · refine ⟨.inr ?_, .inr ?_, .inr ?_, .inr ?_, .inr ?_, .inr ?_, .inl rfl, .inl rfl, .inr ?_, trivial⟩
        · intro b X hE hd hn hV
          refine Pred.yields_call (f := 18) (args := #[]) (Pred.wanted_none rfl) (by go_simp) ?_
          exact (one_any _).mono fun e w2 ⟨he, hb⟩ => ⟨_, he, PredS.ext_below hb hE.size, rfl⟩
        · intro b X hE hd hn hV
          have r3 : b.tmps[3]?.getD undef = .pointer (some ⟨w.heap.size + 1, 0, none⟩) := (hn 3 (by kernel_rfl)).trans rfl
          have q := (blk_below hE _ lbv6).trans bv6
          exact Pred.yields_run (v := .agg (cs .i64 vs)) (Pred.wanted_none rfl) (by go_simp) ⟨PredS.ext_refl _ _ _, rfl⟩
        · intro b X hE hd hn hV
          have r52 : b.tmps[52]?.getD undef = .agg (cs .i64 oneL) := hV 0 _ 52 rfl rfl rfl (Pred.waits_near (by kernel_rfl) (by kernel_rfl))
          have r53 : b.tmps[53]?.getD undef = .agg (cs .i64 vs) := hV 1 _ 53 rfl rfl rfl (Pred.waits_near (by kernel_rfl) (by kernel_rfl))
          refine Pred.yields_call (f := 10) (args := #[.agg (cs .i64 oneL), .agg (cs .i64 vs)]) (Pred.wanted_none rfl) (by go_simp) ?_
          exact (apply_q HA hone hvs _ W1.out Wvs.out).mono fun e w2 ⟨he, hb⟩ => ⟨_, he, PredS.ext_below hb hE.size, rfl⟩
        · intro b X hE hd hn hV
          have r54 : b.tmps[54]?.getD undef = .tuple #[.agg (cs .i64 vs), .int .i64 0] := hV 2 _ 54 rfl rfl rfl (Pred.waits_near (by kernel_rfl) (by kernel_rfl))
          exact Pred.yields_run (v := .tuple #[.agg (cs .i64 vs), .int .i64 0]) (Pred.wanted_none rfl) (by go_simp) ⟨PredS.ext_refl _ _ _, rfl⟩
        · intro b X hE hd hn hV
          have r51 : b.tmps[51]?.getD undef = .tuple #[.agg (cs .i64 vs), .int .i64 0] := hV 3 _ 51 rfl rfl rfl (Pred.waits_near (by kernel_rfl) (by kernel_rfl))
          exact Pred.yields_run (v := .agg (cs .i64 vs)) (Pred.wanted_none rfl) (by go_simp) ⟨PredS.ext_refl _ _ _, rfl⟩
        · intro b X hE hd hn hV
          have r51 : b.tmps[51]?.getD undef = .tuple #[.agg (cs .i64 vs), .int .i64 0] := hV 3 _ 51 rfl rfl rfl (Pred.waits_near (by kernel_rfl) (by kernel_rfl))
          exact Pred.yields_run (v := .int .i64 0) (Pred.wanted_none rfl) (by go_simp) ⟨PredS.ext_refl _ _ _, rfl⟩
        · intro b X hE hd hn hV
          have r56 : b.tmps[56]?.getD undef = .int .i64 0 := hV 5 _ 56 rfl rfl rfl (Pred.waits_near (by kernel_rfl) (by kernel_rfl))
          exact Pred.yields_run (v := .int .i64 0) (Pred.wanted_none rfl) (by go_simp) ⟨PredS.ext_refl _ _ _, rfl⟩
      · refine ⟨?_, trivial⟩
        · refine ⟨_, 10, _, rfl, rfl, by simp, rfl, fun ρ w => by first | (go_simp; done) | (go_simp; rfl), rfl, rfl, Pred.waits_near (by kernel_rfl) (by kernel_rfl), fun b X g hE hn hV hp hg hb => ?_⟩
          have r55 : b.tmps[55]?.getD undef = .agg (cs .i64 vs) := hV 4 _ 55 rfl rfl rfl (Pred.waits_near (by kernel_rfl) (by kernel_rfl))
          simp only at hb
          exact PredS.yields_skip (Pred.wanted_none rfl) (by go_simp) rfl
      intro v w7 hE hv hL
      have e0 : v 0 = .agg (cs .i64 oneL) := hv 0 _ 52 rfl rfl rfl
      have e1 : v 1 = .agg (cs .i64 vs) := hv 1 _ 53 rfl rfl rfl
      have e2 : v 2 = .tuple #[.agg (cs .i64 vs), .int .i64 0] := hv 2 _ 54 rfl rfl rfl
      have e3 : v 3 = .tuple #[.agg (cs .i64 vs), .int .i64 0] := hv 3 _ 51 rfl rfl rfl
      have e4 : v 4 = .agg (cs .i64 vs) := hv 4 _ 55 rfl rfl rfl
      have e5 : v 5 = .int .i64 0 := hv 5 _ 56 rfl rfl rfl
      have e8 : v 8 = .int .i64 0 := hv 8 _ 11 rfl rfl rfl
      obtain ⟨⟨g6r10, e6, o6r10, q6r10, n6r10⟩, -⟩ := hL
      replace q6r10 : blk w7 g6r10 = some (.cells (cs .i64 vs) 25 (0, 0)) := q6r10
      clear n6r10
      simp only [Pred.putsF_cons, Pred.putsF_nil, Nat.zero_add, Nat.reduceAdd, e0, e1, e2, e3, e4, e5, e6, e8, Act.put, List.setIfInBounds_toArray, List.set_cons_zero, List.set_cons_succ]
      clear e0 e1 e2 e3 e4 e5 e6 e8 hv
      have s7 := hE.size
      have bm7 := (blk_below hE _ lbm6).trans bm6
      have bv7 := (blk_below hE _ lbv6).trans bv6
      have bp7 := (blk_below hE _ lbp6).trans bp6
      have br7 := (blk_below hE _ lbr6).trans br6
      have ba7 := q6r10
      have L7 : Below w.heap.size w w7 := L6.trans (hE.mono L6.size)
      clear bm6 lbm6 bv6 lbv6 bp6 lbp6 br6 lbr6 L6 hE
      have lbm7 := blk_lt bm7
      have lbv7 := blk_lt bv7
      have lbp7 := blk_lt bp7
      have lbr7 := blk_lt br7
      have lba7 := blk_lt ba7
      go_wp2_with fail
      refine (awake_any _).mono ?_
      rintro e w8 ⟨rfl, hb8⟩
      have s8 := hb8.size
      try simp only [World.size_alloc] at s8
      have bm8 : blk w8 (w.heap.size) = some (.cells (cs .i64 ms) 23 (0, 0)) := (blk_below hb8 _ (by (try simp only [World.size_alloc]); omega)).trans (bm7)
      have bv8 : blk w8 (w.heap.size + 1) = some (.cells (cs .i64 vs) 25 (0, 0)) := (blk_below hb8 _ (by (try simp only [World.size_alloc]); omega)).trans (bv7)
      have bp8 : blk w8 (g6r1) = some (.cells (cs .i64 ms) 23 (0, 0)) := (blk_below hb8 _ (by (try simp only [World.size_alloc]); omega)).trans (bp7)
      have br8 : blk w8 (g6r2) = some (.cells (cs .i64 ms) 23 (0, 0)) := (blk_below hb8 _ (by (try simp only [World.size_alloc]); omega)).trans (br7)
      have ba8 : blk w8 (g6r10) = some (.cells (cs .i64 vs) 25 (0, 0)) := (blk_below hb8 _ (by (try simp only [World.size_alloc]); omega)).trans (ba7)
      have L8 : Below w.heap.size w w8 := by repeat' (first | (with_reducible exact Below.refl _ _) | (with_reducible refine Rd.below_step ?_ (by assumption)) | (with_reducible refine Rd.below_alloc ?_ _) | (with_reducible refine Rd.below_drewN ?_ _) | (with_reducible refine Below.drew ?_) | (with_reducible refine Below.setCell ?_ ?_ _) | (with_reducible refine Rd.below_setRow ?_ ?_ _) | go_size | (simp only [World.size_alloc]; omega) | omega)
      clear bm7 bv7 bp7 br7 ba7 lbm7 lbv7 lbp7 lbr7 lba7 hb8 L7
      have lbm8 := blk_lt bm8
      have lbv8 := blk_lt bv8
      have lbp8 := blk_lt bp8
      have lbr8 := blk_lt br8
      have lba8 := blk_lt ba8
      go_wp2_with fail
      go_ret
      exact ⟨rfl, by repeat' (first | (with_reducible exact Below.refl _ _) | (with_reducible refine Rd.below_step ?_ (by assumption)) | (with_reducible refine Rd.below_alloc ?_ _) | (with_reducible refine Rd.below_drewN ?_ _) | (with_reducible refine Below.drew ?_) | (with_reducible refine Below.setCell ?_ ?_ _) | (with_reducible refine Rd.below_setRow ?_ ?_ _) | go_size | (simp only [World.size_alloc]; omega) | omega)⟩
theorem VecOne_walk (a0_0 : Int) (a0_1 : Int) (a0_2 : Int) (a0_3 : Int) (a0_4 : Int) (a0_5 : Int) (a0_6 : Int) (a0_7 : Int) (a0_8 : Int) (a0_9 : Int) (a0_10 : Int) (a0_11 : Int) (a0_12 : Int) (a0_13 : Int) (a0_14 : Int) (a0_15 : Int) (a1_0 : Int) (a1_1 : Int) (a1_2 : Int) (a1_3 : Int) (w : World) (w0_0 : (Lit.int .i64 a0_0).wf = true) (w0_1 : (Lit.int .i64 a0_1).wf = true) (w0_2 : (Lit.int .i64 a0_2).wf = true) (w0_3 : (Lit.int .i64 a0_3).wf = true) (w0_4 : (Lit.int .i64 a0_4).wf = true) (w0_5 : (Lit.int .i64 a0_5).wf = true) (w0_6 : (Lit.int .i64 a0_6).wf = true) (w0_7 : (Lit.int .i64 a0_7).wf = true) (w0_8 : (Lit.int .i64 a0_8).wf = true) (w0_9 : (Lit.int .i64 a0_9).wf = true) (w0_10 : (Lit.int .i64 a0_10).wf = true) (w0_11 : (Lit.int .i64 a0_11).wf = true) (w0_12 : (Lit.int .i64 a0_12).wf = true) (w0_13 : (Lit.int .i64 a0_13).wf = true) (w0_14 : (Lit.int .i64 a0_14).wf = true) (w0_15 : (Lit.int .i64 a0_15).wf = true) (w1_0 : (Lit.int .i64 a1_0).wf = true) (w1_1 : (Lit.int .i64 a1_1).wf = true) (w1_2 : (Lit.int .i64 a1_2).wf = true) (w1_3 : (Lit.int .i64 a1_3).wf = true) :
    Calls Try.prog 4 #[.agg #[.int .i64 a0_0, .int .i64 a0_1, .int .i64 a0_2, .int .i64 a0_3, .int .i64 a0_4, .int .i64 a0_5, .int .i64 a0_6, .int .i64 a0_7, .int .i64 a0_8, .int .i64 a0_9, .int .i64 a0_10, .int .i64 a0_11, .int .i64 a0_12, .int .i64 a0_13, .int .i64 a0_14, .int .i64 a0_15], .agg #[.int .i64 a1_0, .int .i64 a1_1, .int .i64 a1_2, .int .i64 a1_3]] w fun e w' => e = .returned (.bool true) ∧ Below w.heap.size w w' := by
  exact VecOne_law [a0_0, a0_1, a0_2, a0_3, a0_4, a0_5, a0_6, a0_7, a0_8, a0_9, a0_10, a0_11, a0_12, a0_13, a0_14, a0_15] [a1_0, a1_1, a1_2, a1_3] w rfl rfl (wfc w0_0 (wfc w0_1 (wfc w0_2 (wfc w0_3 (wfc w0_4 (wfc w0_5 (wfc w0_6 (wfc w0_7 (wfc w0_8 (wfc w0_9 (wfc w0_10 (wfc w0_11 (wfc w0_12 (wfc w0_13 (wfc w0_14 (wfc w0_15 wfn)))))))))))))))) (wfc w1_0 (wfc w1_1 (wfc w1_2 (wfc w1_3 wfn))))

end Go.Proofs.Ytgfdmjicokhheaa.VecP
