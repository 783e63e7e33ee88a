/-
  PerspCorners: at a corner its own weight alone; within, none is below 0 and all is between the corners.
-/
import Derived.Test.YtjbmochndpdolaaTriK7
import Derived.Test.YtjbmochndpdolaaTriL
import Derived.Test.YtjbmochndpdolaaPredS
import Derived.BigGuard
namespace Go.Proofs.Ytjbmochndpdolaa.TriN
open Go.RowKit FixA Num Rd Go.Proofs.Ytjbmochndpdolaa.Row TriA TriB TriC TriD TriE TriF TriG TriH TriK TriL
open Go.Proofs.Ytjbmochndpdolaa.PredS (Is is_stab Stab)
set_option linter.unusedVariables false
set_option linter.unusedSimpArgs false
set_option maxRecDepth 10000
theorem run_max3 {P : Program} {w : World} (ts : Array TypeId) (t : TypeId) (k : IntKind) (x y z : Int) : (Builtin.max_ ts t #[.int k x, .int k y, .int k z]).run P w = .ok (.int k (max (max x y) z)) w := by
  have e : ∀ a b : Int, (if b > a then b else a) = max a b := fun a b => by split <;> omega
  simp [Builtin.max_, Builtin.max2, e]
  repeat' split
  all_goals (first | rfl | (congr 2; omega))
theorem run_min3 {P : Program} {w : World} (ts : Array TypeId) (t : TypeId) (k : IntKind) (x y z : Int) : (Builtin.min_ ts t #[.int k x, .int k y, .int k z]).run P w = .ok (.int k (min (min x y) z)) w := by
  have e : ∀ a b : Int, (if b < a then b else a) = min a b := fun a b => by split <;> omega
  simp [Builtin.min_, Builtin.min2, e]
  repeat' split
  all_goals (first | rfl | (congr 2; omega))
attribute [local go_sem ↓] load_tri store_tri load_w3 store_w3 load_spot load_pl store_pl
attribute [local go_sem] one_int one_bool run_load_pl run_store_pl run_load_spot run_load_tri run_load_w3 run_store_tri run_store_w3 rowLoad_eq rowStore_eq midLoad_eq ext0 ext1 ext2 blk_alloc_at blk_alloc_old blk_drew blk_drewN blk_set_far blk_set_far' blk_grow setRow_alloc_at setRow_alloc_old setRow_drew setRow_drewN all_map
attribute [local go_sem high] run_maxT run_minT
attribute [local go_sem] eq_w3 eq_w3_lit fold_mid
attribute [local go_sem high] run_max3 run_min3

set_option maxHeartbeats 4000000 in
theorem corners_gen (t : List Int) (hl : t.length = 18) (hw : ∀ x ∈ t, (Lit.int .i64 x).wf = true) (px py : Int) (w : World) :
    Calls Try.prog 4 #[.agg (cs .i64 t), .int .i64 px, .int .i64 py] w fun e w' => e = .returned (.bool true) ∧ Below w.heap.size w w' := by
  go_enter Try.func4, Try.ntmps4
  go_wp2_with fail
  refine (may_any t hl hw _).mono ?_
  rintro e w1 ⟨he, hb⟩
  have hs := hb.size
  simp only [World.size_alloc] at hs
  have b1 : blk w1 w.heap.size = some (.cells (cs .i64 t) 24 (0, 0)) := (blk_below hb _ (by simp)).trans (by simp [blk_alloc_at])
  have L1 : Below w.heap.size w w1 := by repeat' (first | (with_reducible exact Below.refl _ _) | (with_reducible refine Rd.below_step ?_ (by assumption)) | (with_reducible refine Rd.below_alloc ?_ _) | (with_reducible refine Rd.below_drewN ?_ _) | (with_reducible refine Below.drew ?_) | (with_reducible refine Below.setCell ?_ ?_ _) | (with_reducible refine Rd.below_setRow ?_ ?_ _) | go_size | (simp only [World.size_alloc]; omega) | omega)
  have k1 : w.heap.size < w1.heap.size := by omega
  clear hb
  rcases he with rfl | ⟨rfl, ht, ha⟩
  · go_wp2_with fail
    refine (awake_any _).mono ?_
    rintro e w9 ⟨rfl, hb⟩
    have L9 : Below w.heap.size w w9 := by repeat' (first | (with_reducible exact Below.refl _ _) | (with_reducible refine Rd.below_step ?_ (by assumption)) | (with_reducible refine Rd.below_alloc ?_ _) | (with_reducible refine Rd.below_drewN ?_ _) | (with_reducible refine Below.drew ?_) | (with_reducible refine Below.setCell ?_ ?_ _) | (with_reducible refine Rd.below_setRow ?_ ?_ _) | go_size | (simp only [World.size_alloc]; omega) | omega)
    clear hb
    go_wp2
    go_ret
    exact ⟨rfl, L9⟩
  have HT := Lib.hid ht
  have HA := Lib.hid ha
  clear ht ha
  by_cases h0 : px < 0
  · have d0 : decide (px < 0) = true := by simpa using h0
    clear h0
    go_wp2_with fail
    refine (awake_any _).mono ?_
    rintro e w9 ⟨rfl, hb⟩
    have L9 : Below w.heap.size w w9 := by repeat' (first | (with_reducible exact Below.refl _ _) | (with_reducible refine Rd.below_step ?_ (by assumption)) | (with_reducible refine Rd.below_alloc ?_ _) | (with_reducible refine Rd.below_drewN ?_ _) | (with_reducible refine Below.drew ?_) | (with_reducible refine Below.setCell ?_ ?_ _) | (with_reducible refine Rd.below_setRow ?_ ?_ _) | go_size | (simp only [World.size_alloc]; omega) | omega)
    clear hb
    go_wp2
    go_ret
    exact ⟨rfl, L9⟩
  have d0 : decide (px < 0) = false := by simpa using h0
  have H0 := Lib.hid h0
  clear h0
  by_cases h1 : 31 < px
  · have d1 : decide (31 < px) = true := by simpa using h1
    clear h1
    go_wp2_with fail
    refine (awake_any _).mono ?_
    rintro e w9 ⟨rfl, hb⟩
    have L9 : Below w.heap.size w w9 := by repeat' (first | (with_reducible exact Below.refl _ _) | (with_reducible refine Rd.below_step ?_ (by assumption)) | (with_reducible refine Rd.below_alloc ?_ _) | (with_reducible refine Rd.below_drewN ?_ _) | (with_reducible refine Below.drew ?_) | (with_reducible refine Below.setCell ?_ ?_ _) | (with_reducible refine Rd.below_setRow ?_ ?_ _) | go_size | (simp only [World.size_alloc]; omega) | omega)
    clear hb
    go_wp2
    go_ret
    exact ⟨rfl, L9⟩
  have d1 : decide (31 < px) = false := by simpa using h1
  have H1 := Lib.hid h1
  clear h1
  by_cases h2 : py < 0
  · have d2 : decide (py < 0) = true := by simpa using h2
    clear h2
    go_wp2_with fail
    refine (awake_any _).mono ?_
    rintro e w9 ⟨rfl, hb⟩
    have L9 : Below w.heap.size w w9 := by repeat' (first | (with_reducible exact Below.refl _ _) | (with_reducible refine Rd.below_step ?_ (by assumption)) | (with_reducible refine Rd.below_alloc ?_ _) | (with_reducible refine Rd.below_drewN ?_ _) | (with_reducible refine Below.drew ?_) | (with_reducible refine Below.setCell ?_ ?_ _) | (with_reducible refine Rd.below_setRow ?_ ?_ _) | go_size | (simp only [World.size_alloc]; omega) | omega)
    clear hb
    go_wp2
    go_ret
    exact ⟨rfl, L9⟩
  have d2 : decide (py < 0) = false := by simpa using h2
  have H2 := Lib.hid h2
  clear h2
  by_cases h3 : 31 < py
  · have d3 : decide (31 < py) = true := by simpa using h3
    clear h3
    go_wp2_with fail
    refine (awake_any _).mono ?_
    rintro e w9 ⟨rfl, hb⟩
    have L9 : Below w.heap.size w w9 := by repeat' (first | (with_reducible exact Below.refl _ _) | (with_reducible refine Rd.below_step ?_ (by assumption)) | (with_reducible refine Rd.below_alloc ?_ _) | (with_reducible refine Rd.below_drewN ?_ _) | (with_reducible refine Below.drew ?_) | (with_reducible refine Below.setCell ?_ ?_ _) | (with_reducible refine Rd.below_setRow ?_ ?_ _) | go_size | (simp only [World.size_alloc]; omega) | omega)
    clear hb
    go_wp2
    go_ret
    exact ⟨rfl, L9⟩
  have d3 : decide (31 < py) = false := by simpa using h3
  have H3 := Lib.hid h3
  clear h3
  have hpx : P31 px := by
    have := H0.out
    have := H1.out
    omega
  have hpy : P31 py := by
    have := H2.out
    have := H3.out
    omega
  clear H0 H1 H2 H3
  have CO := Lib.hid (corner t HT.out HA.out)
  have D0 : Hid (∀ w : World, Calls Try.prog 10 #[.agg (cs .i64 t), .int .i64 (g t 0), .int .i64 (g t 1)] w fun e w' => e = .returned (.tuple #[.agg (cs .i64 [65536, 0, 0]), .bool true]) ∧ Below w.heap.size w w') := fun w => by
    have h := HT.out.s0
    have := weights_any t HT.out (g t 0) (g t 1) ⟨by have := h.x0; omega, by have := h.x1; omega⟩ ⟨by have := h.y0; omega, by have := h.y1; omega⟩ w
    rw [CO.out.1] at this
    exact this
  have D1 : Hid (∀ w : World, Calls Try.prog 10 #[.agg (cs .i64 t), .int .i64 (g t 6), .int .i64 (g t 7)] w fun e w' => e = .returned (.tuple #[.agg (cs .i64 [0, 65536, 0]), .bool true]) ∧ Below w.heap.size w w') := fun w => by
    have h := HT.out.s1
    have := weights_any t HT.out (g t 6) (g t 7) ⟨by have := h.x0; omega, by have := h.x1; omega⟩ ⟨by have := h.y0; omega, by have := h.y1; omega⟩ w
    rw [CO.out.2.1] at this
    exact this
  have D2 : Hid (∀ w : World, Calls Try.prog 10 #[.agg (cs .i64 t), .int .i64 (g t 12), .int .i64 (g t 13)] w fun e w' => e = .returned (.tuple #[.agg (cs .i64 [0, 0, 65536]), .bool true]) ∧ Below w.heap.size w w') := fun w => by
    have h := HT.out.s2
    have := weights_any t HT.out (g t 12) (g t 13) ⟨by have := h.x0; omega, by have := h.x1; omega⟩ ⟨by have := h.y0; omega, by have := h.y1; omega⟩ w
    rw [CO.out.2.2] at this
    exact this
  clear CO
  go_wp2_with fail
  clear d0 d1 d2 d3
  refine wp_loop_rounds 4 ?_
  rw [rounds_succ]
  go_upto_region 6 with (fail)
  refine PredS.region_vals (W := w1) [⟨13, 14, 27, (cs .i64 [0, 0, 0]), (cs .i64 [65536, 0, 0])⟩] (PredS.Of [
      Is (.agg (cs .i64 t)),
      Is (.int .i64 0),
      Is (.pointer (some ⟨w.heap.size, 0, none⟩)),
      Is (.pointer (some ⟨w.heap.size, 0, none⟩)),
      Is (.int .i64 (g t 0)),
      Is (.int .i64 0),
      Is (.pointer (some ⟨w.heap.size, 0, none⟩)),
      Is (.pointer (some ⟨w.heap.size, 1, none⟩)),
      Is (.int .i64 (g t 1)),
      Is (.tuple #[.agg (cs .i64 [65536, 0, 0]), .bool true]),
      Is (.tuple #[.agg (cs .i64 [65536, 0, 0]), .bool true]),
      Is (.agg (cs .i64 [65536, 0, 0])),
      Is (.bool true),
      Is undef,
      Is undef,
      Is (.bool true)]) (by kernel_rfl) (by kernel_rfl) (by kernel_rfl) (by kernel_rfl) (PredS.of_stab ?_) ?_ ?_ ?_
  · exact ⟨is_stab _, is_stab _, is_stab _, is_stab _, is_stab _, is_stab _, is_stab _, is_stab _, is_stab _, is_stab _, is_stab _, is_stab _, is_stab _, is_stab _, is_stab _, is_stab _, trivial⟩
  · refine ⟨.inr ?_, .inr ?_, .inr ?_, .inr ?_, .inr ?_, .inr ?_, .inr ?_, .inr ?_, .inr ?_, .inr ?_, .inr ?_, .inr ?_, .inr ?_, .inl rfl, .inl rfl, .inr ?_, trivial⟩
    · intro b X hE hd hn hV
      have r3 : b.tmps[3]?.getD undef = .pointer (some ⟨w.heap.size, 0, none⟩) := (hn 3 (by kernel_rfl)).trans rfl
      have q := (blk_below hE _ k1).trans b1
      exact Pred.yields_run (v := .agg (cs .i64 t)) (Pred.wanted_none rfl) (by go_simp) ⟨PredS.ext_refl _ _ _, rfl⟩
    · intro b X hE hd hn hV
      have r7 : b.tmps[7]?.getD undef = .int .i64 0 := (hn 7 (by kernel_rfl)).trans rfl
      exact Pred.yields_run (v := .int .i64 0) (Pred.wanted_none rfl) (by go_simp) ⟨PredS.ext_refl _ _ _, rfl⟩
    · intro b X hE hd hn hV
      have r3 : b.tmps[3]?.getD undef = .pointer (some ⟨w.heap.size, 0, none⟩) := (hn 3 (by kernel_rfl)).trans rfl
      have r45 : b.tmps[45]?.getD undef = .int .i64 0 := hV 1 _ 45 rfl rfl rfl (Pred.waits_near (by kernel_rfl) (by kernel_rfl))
      exact Pred.yields_run (v := .pointer (some ⟨w.heap.size, 0, none⟩)) (Pred.wanted_none rfl) (by go_simp) ⟨PredS.ext_refl _ _ _, rfl⟩
    · intro b X hE hd hn hV
      have r46 : b.tmps[46]?.getD undef = .pointer (some ⟨w.heap.size, 0, none⟩) := hV 2 _ 46 rfl rfl rfl (Pred.waits_near (by kernel_rfl) (by kernel_rfl))
      exact Pred.yields_run (v := .pointer (some ⟨w.heap.size, 0, none⟩)) (Pred.wanted_none rfl) (by go_simp) ⟨PredS.ext_refl _ _ _, rfl⟩
    · intro b X hE hd hn hV
      have r47 : b.tmps[47]?.getD undef = .pointer (some ⟨w.heap.size, 0, none⟩) := hV 3 _ 47 rfl rfl rfl (Pred.waits_near (by kernel_rfl) (by kernel_rfl))
      have q : X.cell? ⟨w.heap.size, 0, none⟩ = some (.int .i64 (g t 0)) := by rw [blk_cell ((blk_below hE _ k1).trans b1)]; exact cs_at (at_of (l := t) (by omega))
      exact Pred.yields_run (v := .int .i64 (g t 0)) (Pred.wanted_none rfl) (by go_simp) ⟨PredS.ext_refl _ _ _, rfl⟩
    · intro b X hE hd hn hV
      have r7 : b.tmps[7]?.getD undef = .int .i64 0 := (hn 7 (by kernel_rfl)).trans rfl
      exact Pred.yields_run (v := .int .i64 0) (Pred.wanted_none rfl) (by go_simp) ⟨PredS.ext_refl _ _ _, rfl⟩
    · intro b X hE hd hn hV
      have r3 : b.tmps[3]?.getD undef = .pointer (some ⟨w.heap.size, 0, none⟩) := (hn 3 (by kernel_rfl)).trans rfl
      have r49 : b.tmps[49]?.getD undef = .int .i64 0 := hV 5 _ 49 rfl rfl rfl (Pred.waits_near (by kernel_rfl) (by kernel_rfl))
      exact Pred.yields_run (v := .pointer (some ⟨w.heap.size, 0, none⟩)) (Pred.wanted_none rfl) (by go_simp) ⟨PredS.ext_refl _ _ _, rfl⟩
    · intro b X hE hd hn hV
      have r50 : b.tmps[50]?.getD undef = .pointer (some ⟨w.heap.size, 0, none⟩) := hV 6 _ 50 rfl rfl rfl (Pred.waits_near (by kernel_rfl) (by kernel_rfl))
      exact Pred.yields_run (v := .pointer (some ⟨w.heap.size, 1, none⟩)) (Pred.wanted_none rfl) (by go_simp) ⟨PredS.ext_refl _ _ _, rfl⟩
    · intro b X hE hd hn hV
      have r51 : b.tmps[51]?.getD undef = .pointer (some ⟨w.heap.size, 1, none⟩) := hV 7 _ 51 rfl rfl rfl (Pred.waits_near (by kernel_rfl) (by kernel_rfl))
      have q : X.cell? ⟨w.heap.size, 1, none⟩ = some (.int .i64 (g t 1)) := by rw [blk_cell ((blk_below hE _ k1).trans b1)]; exact cs_at (at_of (l := t) (by omega))
      exact Pred.yields_run (v := .int .i64 (g t 1)) (Pred.wanted_none rfl) (by go_simp) ⟨PredS.ext_refl _ _ _, rfl⟩
    · intro b X hE hd hn hV
      have r44 : b.tmps[44]?.getD undef = .agg (cs .i64 t) := hV 0 _ 44 rfl rfl rfl (Pred.waits_near (by kernel_rfl) (by kernel_rfl))
      have r48 : b.tmps[48]?.getD undef = .int .i64 (g t 0) := hV 4 _ 48 rfl rfl rfl (Pred.waits_near (by kernel_rfl) (by kernel_rfl))
      have r52 : b.tmps[52]?.getD undef = .int .i64 (g t 1) := hV 8 _ 52 rfl rfl rfl (Pred.waits_near (by kernel_rfl) (by kernel_rfl))
      refine Pred.yields_call (f := 10) (args := #[.agg (cs .i64 t), .int .i64 (g t 0), .int .i64 (g t 1)]) (Pred.wanted_none rfl) (by go_simp) ?_
      exact (D0.out _).mono fun e w2 ⟨he, hb⟩ => ⟨_, he, PredS.ext_below hb hE.size, rfl⟩
    · intro b X hE hd hn hV
      have r53 : b.tmps[53]?.getD undef = .tuple #[.agg (cs .i64 [65536, 0, 0]), .bool true] := hV 9 _ 53 rfl rfl rfl (Pred.waits_near (by kernel_rfl) (by kernel_rfl))
      exact Pred.yields_run (v := .tuple #[.agg (cs .i64 [65536, 0, 0]), .bool true]) (Pred.wanted_none rfl) (by go_simp) ⟨PredS.ext_refl _ _ _, rfl⟩
    · intro b X hE hd hn hV
      have r43 : b.tmps[43]?.getD undef = .tuple #[.agg (cs .i64 [65536, 0, 0]), .bool true] := hV 10 _ 43 rfl rfl rfl (Pred.waits_near (by kernel_rfl) (by kernel_rfl))
      exact Pred.yields_run (v := .agg (cs .i64 [65536, 0, 0])) (Pred.wanted_none rfl) (by go_simp) ⟨PredS.ext_refl _ _ _, rfl⟩
    · intro b X hE hd hn hV
      have r43 : b.tmps[43]?.getD undef = .tuple #[.agg (cs .i64 [65536, 0, 0]), .bool true] := hV 10 _ 43 rfl rfl rfl (Pred.waits_near (by kernel_rfl) (by kernel_rfl))
      exact Pred.yields_run (v := .bool true) (Pred.wanted_none rfl) (by go_simp) ⟨PredS.ext_refl _ _ _, rfl⟩
    · intro b X hE hd hn hV
      have r55 : b.tmps[55]?.getD undef = .bool true := hV 12 _ 55 rfl rfl rfl (Pred.waits_near (by kernel_rfl) (by kernel_rfl))
      exact Pred.yields_run (v := .bool true) (Pred.wanted_none rfl) (by go_simp) ⟨PredS.ext_refl _ _ _, rfl⟩
  · refine ⟨?_, trivial⟩
    · refine ⟨_, 8, _, rfl, rfl, by simp, rfl, fun ρ w => by first | (go_simp; done) | (go_simp; rfl), rfl, rfl, Pred.waits_near (by kernel_rfl) (by kernel_rfl), fun b X g hE hn hV hp hg hb => ?_⟩
      have r54 : b.tmps[54]?.getD undef = .agg (cs .i64 [65536, 0, 0]) := hV 11 _ 54 rfl rfl rfl (Pred.waits_near (by kernel_rfl) (by kernel_rfl))
      simp only at hb
      exact PredS.yields_skip (Pred.wanted_none rfl) (by go_simp) rfl
  intro v w2 hE hv hL
  have e0 : v 0 = .agg (cs .i64 t) := hv 0 _ 44 rfl rfl rfl
  have e1 : v 1 = .int .i64 0 := hv 1 _ 45 rfl rfl rfl
  have e2 : v 2 = .pointer (some ⟨w.heap.size, 0, none⟩) := hv 2 _ 46 rfl rfl rfl
  have e3 : v 3 = .pointer (some ⟨w.heap.size, 0, none⟩) := hv 3 _ 47 rfl rfl rfl
  have e4 : v 4 = .int .i64 (g t 0) := hv 4 _ 48 rfl rfl rfl
  have e5 : v 5 = .int .i64 0 := hv 5 _ 49 rfl rfl rfl
  have e6 : v 6 = .pointer (some ⟨w.heap.size, 0, none⟩) := hv 6 _ 50 rfl rfl rfl
  have e7 : v 7 = .pointer (some ⟨w.heap.size, 1, none⟩) := hv 7 _ 51 rfl rfl rfl
  have e8 : v 8 = .int .i64 (g t 1) := hv 8 _ 52 rfl rfl rfl
  have e9 : v 9 = .tuple #[.agg (cs .i64 [65536, 0, 0]), .bool true] := hv 9 _ 53 rfl rfl rfl
  have e10 : v 10 = .tuple #[.agg (cs .i64 [65536, 0, 0]), .bool true] := hv 10 _ 43 rfl rfl rfl
  have e11 : v 11 = .agg (cs .i64 [65536, 0, 0]) := hv 11 _ 54 rfl rfl rfl
  have e12 : v 12 = .bool true := hv 12 _ 55 rfl rfl rfl
  have e15 : v 15 = .bool true := hv 15 _ 9 rfl rfl rfl
  obtain ⟨⟨g13, e13, o13, q13, n13⟩, -⟩ := hL
  replace q13 : blk w2 g13 = some (.cells (cs .i64 [65536, 0, 0]) 27 (0, 0)) := q13
  clear n13
  simp only [Pred.putsF_cons, Pred.putsF_nil, Nat.zero_add, Nat.reduceAdd, e0, e1, e2, e3, e4, e5, e6, e7, e8, e9, e10, e11, e12, e13, e15, Act.put, List.setIfInBounds_toArray, List.set_cons_zero, List.set_cons_succ]
  clear e0 e1 e2 e3 e4 e5 e6 e7 e8 e9 e10 e11 e12 e13 e15 hv
  have s0 := hE.size
  have b2 := (blk_below hE _ k1).trans b1
  have k2 := blk_lt b2
  have L2 : Below w.heap.size w w2 := L1.trans (hE.mono L1.size)
  have x0 : w2.cell? ⟨g13, 0, none⟩ = some (.int .i64 65536) := by rw [blk_cell q13]; rfl
  have x1 : w2.cell? ⟨g13, 1, none⟩ = some (.int .i64 0) := by rw [blk_cell q13]; rfl
  have x2 : w2.cell? ⟨g13, 2, none⟩ = some (.int .i64 0) := by rw [blk_cell q13]; rfl
  clear b1 k1 L1 hE q13 s0
  go_wp2
  clear x0 x1 x2 o13
  rw [rounds_succ]
  go_upto_region 6 with (fail)
  refine PredS.region_vals (W := w2) [⟨13, 14, 27, (cs .i64 [0, 0, 0]), (cs .i64 [0, 65536, 0])⟩] (PredS.Of [
      Is (.agg (cs .i64 t)),
      Is (.int .i64 1),
      Is (.pointer (some ⟨w.heap.size, 6, none⟩)),
      Is (.pointer (some ⟨w.heap.size, 6, none⟩)),
      Is (.int .i64 (g t 6)),
      Is (.int .i64 1),
      Is (.pointer (some ⟨w.heap.size, 6, none⟩)),
      Is (.pointer (some ⟨w.heap.size, 7, none⟩)),
      Is (.int .i64 (g t 7)),
      Is (.tuple #[.agg (cs .i64 [0, 65536, 0]), .bool true]),
      Is (.tuple #[.agg (cs .i64 [0, 65536, 0]), .bool true]),
      Is (.agg (cs .i64 [0, 65536, 0])),
      Is (.bool true),
      Is undef,
      Is undef,
      Is (.bool true)]) (by kernel_rfl) (by kernel_rfl) (by kernel_rfl) (by kernel_rfl) (PredS.of_stab ?_) ?_ ?_ ?_
  · exact ⟨is_stab _, is_stab _, is_stab _, is_stab _, is_stab _, is_stab _, is_stab _, is_stab _, is_stab _, is_stab _, is_stab _, is_stab _, is_stab _, is_stab _, is_stab _, is_stab _, trivial⟩
  · refine ⟨.inr ?_, .inr ?_, .inr ?_, .inr ?_, .inr ?_, .inr ?_, .inr ?_, .inr ?_, .inr ?_, .inr ?_, .inr ?_, .inr ?_, .inr ?_, .inl rfl, .inl rfl, .inr ?_, trivial⟩
    · intro b X hE hd hn hV
      have r3 : b.tmps[3]?.getD undef = .pointer (some ⟨w.heap.size, 0, none⟩) := (hn 3 (by kernel_rfl)).trans rfl
      have q := (blk_below hE _ k2).trans b2
      exact Pred.yields_run (v := .agg (cs .i64 t)) (Pred.wanted_none rfl) (by go_simp) ⟨PredS.ext_refl _ _ _, rfl⟩
    · intro b X hE hd hn hV
      have r7 : b.tmps[7]?.getD undef = .int .i64 1 := (hn 7 (by kernel_rfl)).trans rfl
      exact Pred.yields_run (v := .int .i64 1) (Pred.wanted_none rfl) (by go_simp) ⟨PredS.ext_refl _ _ _, rfl⟩
    · intro b X hE hd hn hV
      have r3 : b.tmps[3]?.getD undef = .pointer (some ⟨w.heap.size, 0, none⟩) := (hn 3 (by kernel_rfl)).trans rfl
      have r45 : b.tmps[45]?.getD undef = .int .i64 1 := hV 1 _ 45 rfl rfl rfl (Pred.waits_near (by kernel_rfl) (by kernel_rfl))
      exact Pred.yields_run (v := .pointer (some ⟨w.heap.size, 6, none⟩)) (Pred.wanted_none rfl) (by go_simp) ⟨PredS.ext_refl _ _ _, rfl⟩
    · intro b X hE hd hn hV
      have r46 : b.tmps[46]?.getD undef = .pointer (some ⟨w.heap.size, 6, none⟩) := hV 2 _ 46 rfl rfl rfl (Pred.waits_near (by kernel_rfl) (by kernel_rfl))
      exact Pred.yields_run (v := .pointer (some ⟨w.heap.size, 6, none⟩)) (Pred.wanted_none rfl) (by go_simp) ⟨PredS.ext_refl _ _ _, rfl⟩
    · intro b X hE hd hn hV
      have r47 : b.tmps[47]?.getD undef = .pointer (some ⟨w.heap.size, 6, none⟩) := hV 3 _ 47 rfl rfl rfl (Pred.waits_near (by kernel_rfl) (by kernel_rfl))
      have q : X.cell? ⟨w.heap.size, 6, none⟩ = some (.int .i64 (g t 6)) := by rw [blk_cell ((blk_below hE _ k2).trans b2)]; exact cs_at (at_of (l := t) (by omega))
      exact Pred.yields_run (v := .int .i64 (g t 6)) (Pred.wanted_none rfl) (by go_simp) ⟨PredS.ext_refl _ _ _, rfl⟩
    · intro b X hE hd hn hV
      have r7 : b.tmps[7]?.getD undef = .int .i64 1 := (hn 7 (by kernel_rfl)).trans rfl
      exact Pred.yields_run (v := .int .i64 1) (Pred.wanted_none rfl) (by go_simp) ⟨PredS.ext_refl _ _ _, rfl⟩
    · intro b X hE hd hn hV
      have r3 : b.tmps[3]?.getD undef = .pointer (some ⟨w.heap.size, 0, none⟩) := (hn 3 (by kernel_rfl)).trans rfl
      have r49 : b.tmps[49]?.getD undef = .int .i64 1 := hV 5 _ 49 rfl rfl rfl (Pred.waits_near (by kernel_rfl) (by kernel_rfl))
      exact Pred.yields_run (v := .pointer (some ⟨w.heap.size, 6, none⟩)) (Pred.wanted_none rfl) (by go_simp) ⟨PredS.ext_refl _ _ _, rfl⟩
    · intro b X hE hd hn hV
      have r50 : b.tmps[50]?.getD undef = .pointer (some ⟨w.heap.size, 6, none⟩) := hV 6 _ 50 rfl rfl rfl (Pred.waits_near (by kernel_rfl) (by kernel_rfl))
      exact Pred.yields_run (v := .pointer (some ⟨w.heap.size, 7, none⟩)) (Pred.wanted_none rfl) (by go_simp) ⟨PredS.ext_refl _ _ _, rfl⟩
    · intro b X hE hd hn hV
      have r51 : b.tmps[51]?.getD undef = .pointer (some ⟨w.heap.size, 7, none⟩) := hV 7 _ 51 rfl rfl rfl (Pred.waits_near (by kernel_rfl) (by kernel_rfl))
      have q : X.cell? ⟨w.heap.size, 7, none⟩ = some (.int .i64 (g t 7)) := by rw [blk_cell ((blk_below hE _ k2).trans b2)]; exact cs_at (at_of (l := t) (by omega))
      exact Pred.yields_run (v := .int .i64 (g t 7)) (Pred.wanted_none rfl) (by go_simp) ⟨PredS.ext_refl _ _ _, rfl⟩
    · intro b X hE hd hn hV
      have r44 : b.tmps[44]?.getD undef = .agg (cs .i64 t) := hV 0 _ 44 rfl rfl rfl (Pred.waits_near (by kernel_rfl) (by kernel_rfl))
      have r48 : b.tmps[48]?.getD undef = .int .i64 (g t 6) := hV 4 _ 48 rfl rfl rfl (Pred.waits_near (by kernel_rfl) (by kernel_rfl))
      have r52 : b.tmps[52]?.getD undef = .int .i64 (g t 7) := hV 8 _ 52 rfl rfl rfl (Pred.waits_near (by kernel_rfl) (by kernel_rfl))
      refine Pred.yields_call (f := 10) (args := #[.agg (cs .i64 t), .int .i64 (g t 6), .int .i64 (g t 7)]) (Pred.wanted_none rfl) (by go_simp) ?_
      exact (D1.out _).mono fun e w2 ⟨he, hb⟩ => ⟨_, he, PredS.ext_below hb hE.size, rfl⟩
    · intro b X hE hd hn hV
      have r53 : b.tmps[53]?.getD undef = .tuple #[.agg (cs .i64 [0, 65536, 0]), .bool true] := hV 9 _ 53 rfl rfl rfl (Pred.waits_near (by kernel_rfl) (by kernel_rfl))
      exact Pred.yields_run (v := .tuple #[.agg (cs .i64 [0, 65536, 0]), .bool true]) (Pred.wanted_none rfl) (by go_simp) ⟨PredS.ext_refl _ _ _, rfl⟩
    · intro b X hE hd hn hV
      have r43 : b.tmps[43]?.getD undef = .tuple #[.agg (cs .i64 [0, 65536, 0]), .bool true] := hV 10 _ 43 rfl rfl rfl (Pred.waits_near (by kernel_rfl) (by kernel_rfl))
      exact Pred.yields_run (v := .agg (cs .i64 [0, 65536, 0])) (Pred.wanted_none rfl) (by go_simp) ⟨PredS.ext_refl _ _ _, rfl⟩
    · intro b X hE hd hn hV
      have r43 : b.tmps[43]?.getD undef = .tuple #[.agg (cs .i64 [0, 65536, 0]), .bool true] := hV 10 _ 43 rfl rfl rfl (Pred.waits_near (by kernel_rfl) (by kernel_rfl))
      exact Pred.yields_run (v := .bool true) (Pred.wanted_none rfl) (by go_simp) ⟨PredS.ext_refl _ _ _, rfl⟩
    · intro b X hE hd hn hV
      have r55 : b.tmps[55]?.getD undef = .bool true := hV 12 _ 55 rfl rfl rfl (Pred.waits_near (by kernel_rfl) (by kernel_rfl))
      exact Pred.yields_run (v := .bool true) (Pred.wanted_none rfl) (by go_simp) ⟨PredS.ext_refl _ _ _, rfl⟩
  · refine ⟨?_, trivial⟩
    · refine ⟨_, 8, _, rfl, rfl, by simp, rfl, fun ρ w => by first | (go_simp; done) | (go_simp; rfl), rfl, rfl, Pred.waits_near (by kernel_rfl) (by kernel_rfl), fun b X g hE hn hV hp hg hb => ?_⟩
      have r54 : b.tmps[54]?.getD undef = .agg (cs .i64 [0, 65536, 0]) := hV 11 _ 54 rfl rfl rfl (Pred.waits_near (by kernel_rfl) (by kernel_rfl))
      simp only at hb
      exact PredS.yields_skip (Pred.wanted_none rfl) (by go_simp) rfl
  intro v w3 hE hv hL
  have e0 : v 0 = .agg (cs .i64 t) := hv 0 _ 44 rfl rfl rfl
  have e1 : v 1 = .int .i64 1 := hv 1 _ 45 rfl rfl rfl
  have e2 : v 2 = .pointer (some ⟨w.heap.size, 6, none⟩) := hv 2 _ 46 rfl rfl rfl
  have e3 : v 3 = .pointer (some ⟨w.heap.size, 6, none⟩) := hv 3 _ 47 rfl rfl rfl
  have e4 : v 4 = .int .i64 (g t 6) := hv 4 _ 48 rfl rfl rfl
  have e5 : v 5 = .int .i64 1 := hv 5 _ 49 rfl rfl rfl
  have e6 : v 6 = .pointer (some ⟨w.heap.size, 6, none⟩) := hv 6 _ 50 rfl rfl rfl
  have e7 : v 7 = .pointer (some ⟨w.heap.size, 7, none⟩) := hv 7 _ 51 rfl rfl rfl
  have e8 : v 8 = .int .i64 (g t 7) := hv 8 _ 52 rfl rfl rfl
  have e9 : v 9 = .tuple #[.agg (cs .i64 [0, 65536, 0]), .bool true] := hv 9 _ 53 rfl rfl rfl
  have e10 : v 10 = .tuple #[.agg (cs .i64 [0, 65536, 0]), .bool true] := hv 10 _ 43 rfl rfl rfl
  have e11 : v 11 = .agg (cs .i64 [0, 65536, 0]) := hv 11 _ 54 rfl rfl rfl
  have e12 : v 12 = .bool true := hv 12 _ 55 rfl rfl rfl
  have e15 : v 15 = .bool true := hv 15 _ 9 rfl rfl rfl
  obtain ⟨⟨g13, e13, o13, q13, n13⟩, -⟩ := hL
  replace q13 : blk w3 g13 = some (.cells (cs .i64 [0, 65536, 0]) 27 (0, 0)) := q13
  clear n13
  simp only [Pred.putsF_cons, Pred.putsF_nil, Nat.zero_add, Nat.reduceAdd, e0, e1, e2, e3, e4, e5, e6, e7, e8, e9, e10, e11, e12, e13, e15, Act.put, List.setIfInBounds_toArray, List.set_cons_zero, List.set_cons_succ]
  clear e0 e1 e2 e3 e4 e5 e6 e7 e8 e9 e10 e11 e12 e13 e15 hv
  have s0 := hE.size
  have b3 := (blk_below hE _ k2).trans b2
  have k3 := blk_lt b3
  have L3 : Below w.heap.size w w3 := L2.trans (hE.mono L2.size)
  have x0 : w3.cell? ⟨g13, 0, none⟩ = some (.int .i64 0) := by rw [blk_cell q13]; rfl
  have x1 : w3.cell? ⟨g13, 1, none⟩ = some (.int .i64 65536) := by rw [blk_cell q13]; rfl
  have x2 : w3.cell? ⟨g13, 2, none⟩ = some (.int .i64 0) := by rw [blk_cell q13]; rfl
  clear b2 k2 L2 hE q13 s0
  go_wp2
  clear x0 x1 x2 o13
  rw [rounds_succ]
  go_upto_region 6 with (fail)
  refine PredS.region_vals (W := w3) [⟨13, 14, 27, (cs .i64 [0, 0, 0]), (cs .i64 [0, 0, 65536])⟩] (PredS.Of [
      Is (.agg (cs .i64 t)),
      Is (.int .i64 2),
      Is (.pointer (some ⟨w.heap.size, 12, none⟩)),
      Is (.pointer (some ⟨w.heap.size, 12, none⟩)),
      Is (.int .i64 (g t 12)),
      Is (.int .i64 2),
      Is (.pointer (some ⟨w.heap.size, 12, none⟩)),
      Is (.pointer (some ⟨w.heap.size, 13, none⟩)),
      Is (.int .i64 (g t 13)),
      Is (.tuple #[.agg (cs .i64 [0, 0, 65536]), .bool true]),
      Is (.tuple #[.agg (cs .i64 [0, 0, 65536]), .bool true]),
      Is (.agg (cs .i64 [0, 0, 65536])),
      Is (.bool true),
      Is undef,
      Is undef,
      Is (.bool true)]) (by kernel_rfl) (by kernel_rfl) (by kernel_rfl) (by kernel_rfl) (PredS.of_stab ?_) ?_ ?_ ?_
  · exact ⟨is_stab _, is_stab _, is_stab _, is_stab _, is_stab _, is_stab _, is_stab _, is_stab _, is_stab _, is_stab _, is_stab _, is_stab _, is_stab _, is_stab _, is_stab _, is_stab _, trivial⟩
  · refine ⟨.inr ?_, .inr ?_, .inr ?_, .inr ?_, .inr ?_, .inr ?_, .inr ?_, .inr ?_, .inr ?_, .inr ?_, .inr ?_, .inr ?_, .inr ?_, .inl rfl, .inl rfl, .inr ?_, trivial⟩
    · intro b X hE hd hn hV
      have r3 : b.tmps[3]?.getD undef = .pointer (some ⟨w.heap.size, 0, none⟩) := (hn 3 (by kernel_rfl)).trans rfl
      have q := (blk_below hE _ k3).trans b3
      exact Pred.yields_run (v := .agg (cs .i64 t)) (Pred.wanted_none rfl) (by go_simp) ⟨PredS.ext_refl _ _ _, rfl⟩
    · intro b X hE hd hn hV
      have r7 : b.tmps[7]?.getD undef = .int .i64 2 := (hn 7 (by kernel_rfl)).trans rfl
      exact Pred.yields_run (v := .int .i64 2) (Pred.wanted_none rfl) (by go_simp) ⟨PredS.ext_refl _ _ _, rfl⟩
    · intro b X hE hd hn hV
      have r3 : b.tmps[3]?.getD undef = .pointer (some ⟨w.heap.size, 0, none⟩) := (hn 3 (by kernel_rfl)).trans rfl
      have r45 : b.tmps[45]?.getD undef = .int .i64 2 := hV 1 _ 45 rfl rfl rfl (Pred.waits_near (by kernel_rfl) (by kernel_rfl))
      exact Pred.yields_run (v := .pointer (some ⟨w.heap.size, 12, none⟩)) (Pred.wanted_none rfl) (by go_simp) ⟨PredS.ext_refl _ _ _, rfl⟩
    · intro b X hE hd hn hV
      have r46 : b.tmps[46]?.getD undef = .pointer (some ⟨w.heap.size, 12, none⟩) := hV 2 _ 46 rfl rfl rfl (Pred.waits_near (by kernel_rfl) (by kernel_rfl))
      exact Pred.yields_run (v := .pointer (some ⟨w.heap.size, 12, none⟩)) (Pred.wanted_none rfl) (by go_simp) ⟨PredS.ext_refl _ _ _, rfl⟩
    · intro b X hE hd hn hV
      have r47 : b.tmps[47]?.getD undef = .pointer (some ⟨w.heap.size, 12, none⟩) := hV 3 _ 47 rfl rfl rfl (Pred.waits_near (by kernel_rfl) (by kernel_rfl))
      have q : X.cell? ⟨w.heap.size, 12, none⟩ = some (.int .i64 (g t 12)) := by rw [blk_cell ((blk_below hE _ k3).trans b3)]; exact cs_at (at_of (l := t) (by omega))
      exact Pred.yields_run (v := .int .i64 (g t 12)) (Pred.wanted_none rfl) (by go_simp) ⟨PredS.ext_refl _ _ _, rfl⟩
    · intro b X hE hd hn hV
      have r7 : b.tmps[7]?.getD undef = .int .i64 2 := (hn 7 (by kernel_rfl)).trans rfl
      exact Pred.yields_run (v := .int .i64 2) (Pred.wanted_none rfl) (by go_simp) ⟨PredS.ext_refl _ _ _, rfl⟩
    · intro b X hE hd hn hV
      have r3 : b.tmps[3]?.getD undef = .pointer (some ⟨w.heap.size, 0, none⟩) := (hn 3 (by kernel_rfl)).trans rfl
      have r49 : b.tmps[49]?.getD undef = .int .i64 2 := hV 5 _ 49 rfl rfl rfl (Pred.waits_near (by kernel_rfl) (by kernel_rfl))
      exact Pred.yields_run (v := .pointer (some ⟨w.heap.size, 12, none⟩)) (Pred.wanted_none rfl) (by go_simp) ⟨PredS.ext_refl _ _ _, rfl⟩
    · intro b X hE hd hn hV
      have r50 : b.tmps[50]?.getD undef = .pointer (some ⟨w.heap.size, 12, none⟩) := hV 6 _ 50 rfl rfl rfl (Pred.waits_near (by kernel_rfl) (by kernel_rfl))
      exact Pred.yields_run (v := .pointer (some ⟨w.heap.size, 13, none⟩)) (Pred.wanted_none rfl) (by go_simp) ⟨PredS.ext_refl _ _ _, rfl⟩
    · intro b X hE hd hn hV
      have r51 : b.tmps[51]?.getD undef = .pointer (some ⟨w.heap.size, 13, none⟩) := hV 7 _ 51 rfl rfl rfl (Pred.waits_near (by kernel_rfl) (by kernel_rfl))
      have q : X.cell? ⟨w.heap.size, 13, none⟩ = some (.int .i64 (g t 13)) := by rw [blk_cell ((blk_below hE _ k3).trans b3)]; exact cs_at (at_of (l := t) (by omega))
      exact Pred.yields_run (v := .int .i64 (g t 13)) (Pred.wanted_none rfl) (by go_simp) ⟨PredS.ext_refl _ _ _, rfl⟩
    · intro b X hE hd hn hV
      have r44 : b.tmps[44]?.getD undef = .agg (cs .i64 t) := hV 0 _ 44 rfl rfl rfl (Pred.waits_near (by kernel_rfl) (by kernel_rfl))
      have r48 : b.tmps[48]?.getD undef = .int .i64 (g t 12) := hV 4 _ 48 rfl rfl rfl (Pred.waits_near (by kernel_rfl) (by kernel_rfl))
      have r52 : b.tmps[52]?.getD undef = .int .i64 (g t 13) := hV 8 _ 52 rfl rfl rfl (Pred.waits_near (by kernel_rfl) (by kernel_rfl))
      refine Pred.yields_call (f := 10) (args := #[.agg (cs .i64 t), .int .i64 (g t 12), .int .i64 (g t 13)]) (Pred.wanted_none rfl) (by go_simp) ?_
      exact (D2.out _).mono fun e w2 ⟨he, hb⟩ => ⟨_, he, PredS.ext_below hb hE.size, rfl⟩
    · intro b X hE hd hn hV
      have r53 : b.tmps[53]?.getD undef = .tuple #[.agg (cs .i64 [0, 0, 65536]), .bool true] := hV 9 _ 53 rfl rfl rfl (Pred.waits_near (by kernel_rfl) (by kernel_rfl))
      exact Pred.yields_run (v := .tuple #[.agg (cs .i64 [0, 0, 65536]), .bool true]) (Pred.wanted_none rfl) (by go_simp) ⟨PredS.ext_refl _ _ _, rfl⟩
    · intro b X hE hd hn hV
      have r43 : b.tmps[43]?.getD undef = .tuple #[.agg (cs .i64 [0, 0, 65536]), .bool true] := hV 10 _ 43 rfl rfl rfl (Pred.waits_near (by kernel_rfl) (by kernel_rfl))
      exact Pred.yields_run (v := .agg (cs .i64 [0, 0, 65536])) (Pred.wanted_none rfl) (by go_simp) ⟨PredS.ext_refl _ _ _, rfl⟩
    · intro b X hE hd hn hV
      have r43 : b.tmps[43]?.getD undef = .tuple #[.agg (cs .i64 [0, 0, 65536]), .bool true] := hV 10 _ 43 rfl rfl rfl (Pred.waits_near (by kernel_rfl) (by kernel_rfl))
      exact Pred.yields_run (v := .bool true) (Pred.wanted_none rfl) (by go_simp) ⟨PredS.ext_refl _ _ _, rfl⟩
    · intro b X hE hd hn hV
      have r55 : b.tmps[55]?.getD undef = .bool true := hV 12 _ 55 rfl rfl rfl (Pred.waits_near (by kernel_rfl) (by kernel_rfl))
      exact Pred.yields_run (v := .bool true) (Pred.wanted_none rfl) (by go_simp) ⟨PredS.ext_refl _ _ _, rfl⟩
  · refine ⟨?_, trivial⟩
    · refine ⟨_, 8, _, rfl, rfl, by simp, rfl, fun ρ w => by first | (go_simp; done) | (go_simp; rfl), rfl, rfl, Pred.waits_near (by kernel_rfl) (by kernel_rfl), fun b X g hE hn hV hp hg hb => ?_⟩
      have r54 : b.tmps[54]?.getD undef = .agg (cs .i64 [0, 0, 65536]) := hV 11 _ 54 rfl rfl rfl (Pred.waits_near (by kernel_rfl) (by kernel_rfl))
      simp only at hb
      exact PredS.yields_skip (Pred.wanted_none rfl) (by go_simp) rfl
  intro v w4 hE hv hL
  have e0 : v 0 = .agg (cs .i64 t) := hv 0 _ 44 rfl rfl rfl
  have e1 : v 1 = .int .i64 2 := hv 1 _ 45 rfl rfl rfl
  have e2 : v 2 = .pointer (some ⟨w.heap.size, 12, none⟩) := hv 2 _ 46 rfl rfl rfl
  have e3 : v 3 = .pointer (some ⟨w.heap.size, 12, none⟩) := hv 3 _ 47 rfl rfl rfl
  have e4 : v 4 = .int .i64 (g t 12) := hv 4 _ 48 rfl rfl rfl
  have e5 : v 5 = .int .i64 2 := hv 5 _ 49 rfl rfl rfl
  have e6 : v 6 = .pointer (some ⟨w.heap.size, 12, none⟩) := hv 6 _ 50 rfl rfl rfl
  have e7 : v 7 = .pointer (some ⟨w.heap.size, 13, none⟩) := hv 7 _ 51 rfl rfl rfl
  have e8 : v 8 = .int .i64 (g t 13) := hv 8 _ 52 rfl rfl rfl
  have e9 : v 9 = .tuple #[.agg (cs .i64 [0, 0, 65536]), .bool true] := hv 9 _ 53 rfl rfl rfl
  have e10 : v 10 = .tuple #[.agg (cs .i64 [0, 0, 65536]), .bool true] := hv 10 _ 43 rfl rfl rfl
  have e11 : v 11 = .agg (cs .i64 [0, 0, 65536]) := hv 11 _ 54 rfl rfl rfl
  have e12 : v 12 = .bool true := hv 12 _ 55 rfl rfl rfl
  have e15 : v 15 = .bool true := hv 15 _ 9 rfl rfl rfl
  obtain ⟨⟨g13, e13, o13, q13, n13⟩, -⟩ := hL
  replace q13 : blk w4 g13 = some (.cells (cs .i64 [0, 0, 65536]) 27 (0, 0)) := q13
  clear n13
  simp only [Pred.putsF_cons, Pred.putsF_nil, Nat.zero_add, Nat.reduceAdd, e0, e1, e2, e3, e4, e5, e6, e7, e8, e9, e10, e11, e12, e13, e15, Act.put, List.setIfInBounds_toArray, List.set_cons_zero, List.set_cons_succ]
  clear e0 e1 e2 e3 e4 e5 e6 e7 e8 e9 e10 e11 e12 e13 e15 hv
  have s0 := hE.size
  have b4 := (blk_below hE _ k3).trans b3
  have k4 := blk_lt b4
  have L4 : Below w.heap.size w w4 := L3.trans (hE.mono L3.size)
  have x0 : w4.cell? ⟨g13, 0, none⟩ = some (.int .i64 0) := by rw [blk_cell q13]; rfl
  have x1 : w4.cell? ⟨g13, 1, none⟩ = some (.int .i64 0) := by rw [blk_cell q13]; rfl
  have x2 : w4.cell? ⟨g13, 2, none⟩ = some (.int .i64 65536) := by rw [blk_cell q13]; rfl
  clear b3 k3 L3 hE q13 s0
  go_wp2
  clear x0 x1 x2 o13
  rw [rounds_succ]
  go_wp2_with fail
  refine (covers_any t HT.out HA.out px py hpx hpy _).mono ?_
  rintro e w5 ⟨he, hb⟩
  have hs := hb.size
  have b5 := (blk_below hb _ k4).trans b4
  have L5 : Below w.heap.size w w5 := by repeat' (first | (with_reducible exact Below.refl _ _) | (with_reducible refine Rd.below_step ?_ (by assumption)) | (with_reducible refine Rd.below_alloc ?_ _) | (with_reducible refine Rd.below_drewN ?_ _) | (with_reducible refine Below.drew ?_) | (with_reducible refine Below.setCell ?_ ?_ _) | (with_reducible refine Rd.below_setRow ?_ ?_ _) | go_size | (simp only [World.size_alloc]; omega) | omega)
  have k5 : w.heap.size < w5.heap.size := by omega
  clear hb b4 L4
  rcases he with rfl | ⟨rfl, e0, e1, e2⟩
  · go_wp2_with fail
    refine (awake_any _).mono ?_
    rintro e w9 ⟨rfl, hb⟩
    have L9 : Below w.heap.size w w9 := by repeat' (first | (with_reducible exact Below.refl _ _) | (with_reducible refine Rd.below_step ?_ (by assumption)) | (with_reducible refine Rd.below_alloc ?_ _) | (with_reducible refine Rd.below_drewN ?_ _) | (with_reducible refine Below.drew ?_) | (with_reducible refine Below.setCell ?_ ?_ _) | (with_reducible refine Rd.below_setRow ?_ ?_ _) | go_size | (simp only [World.size_alloc]; omega) | omega)
    clear hb
    go_wp2
    go_ret
    exact ⟨rfl, L9⟩
  have m1 := mid_bd hpx.1 hpx.2
  have m2 := mid_bd hpy.1 hpy.2
  have I : Hid (Ins t (mid px) (mid py)) := ⟨HT.out, HA.out, (by omega : Pt (mid px)), (by omega : Pt (mid py)), e0, e1, e2⟩
  have C1 : Hid (∀ w : World, Calls Try.prog 10 #[.agg (cs .i64 t), .int .i64 (mid px), .int .i64 (mid py)] w fun e w' => e = .returned (.tuple #[.agg (cs .i64 [q0 t (mid px) (mid py), q1 t (mid px) (mid py), q2 t (mid px) (mid py)]), .bool true]) ∧ Below w.heap.size w w') := fun w => weights_yes t HT.out (mid px) (mid py) I.out.hx I.out.hy (in_sm I.out) w
  clear e0 e1 e2
  go_wp2_with fail
  refine (C1.out _).mono ?_
  rintro e w6 ⟨rfl, hb⟩
  have hs6 := hb.size
  simp only [World.size_alloc] at hs6
  have b6 := (blk_below hb _ (by first | omega | (simp only [World.size_alloc]; omega))).trans ((blk_alloc_old _ _ _ k5).trans b5)
  have L6 : Below w.heap.size w w6 := by repeat' (first | (with_reducible exact Below.refl _ _) | (with_reducible refine Rd.below_step ?_ (by assumption)) | (with_reducible refine Rd.below_alloc ?_ _) | (with_reducible refine Rd.below_drewN ?_ _) | (with_reducible refine Below.drew ?_) | (with_reducible refine Below.setCell ?_ ?_ _) | (with_reducible refine Rd.below_setRow ?_ ?_ _) | go_size | (simp only [World.size_alloc]; omega) | omega)
  have k6 : w.heap.size < w6.heap.size := by omega
  clear hb b5 L5
  go_wp2_with fail
  refine (At_any t HT.out HA.out px py hpx hpy _).mono ?_
  rintro e w7 ⟨rfl, hb⟩
  have hs7 := hb.size
  simp only [World.size_alloc] at hs7
  have b7 := (blk_below hb _ (by first | omega | (simp only [World.size_alloc]; omega))).trans ((blk_alloc_old _ _ _ k6).trans b6)
  have c7 : blk w7 w6.heap.size = some (.cells (cs .i64 [q0 t (mid px) (mid py), q1 t (mid px) (mid py), q2 t (mid px) (mid py)]) 27 (0, 0)) := (blk_below hb _ (by simp)).trans (blk_alloc_at _ _ _ rfl)
  have L7 : Below w.heap.size w w7 := by repeat' (first | (with_reducible exact Below.refl _ _) | (with_reducible refine Rd.below_step ?_ (by assumption)) | (with_reducible refine Rd.below_alloc ?_ _) | (with_reducible refine Rd.below_drewN ?_ _) | (with_reducible refine Below.drew ?_) | (with_reducible refine Below.setCell ?_ ?_ _) | (with_reducible refine Rd.below_setRow ?_ ?_ _) | go_size | (simp only [World.size_alloc]; omega) | omega)
  clear hb b6 L6
  have y2 : w7.cell? ⟨w.heap.size, 2, none⟩ = some (.int .i64 (g t 2)) := by rw [blk_cell b7]; exact cs_at (at_of (l := t) (by omega))
  have y8 : w7.cell? ⟨w.heap.size, 8, none⟩ = some (.int .i64 (g t 8)) := by rw [blk_cell b7]; exact cs_at (at_of (l := t) (by omega))
  have y14 : w7.cell? ⟨w.heap.size, 14, none⟩ = some (.int .i64 (g t 14)) := by rw [blk_cell b7]; exact cs_at (at_of (l := t) (by omega))
  have y4 : w7.cell? ⟨w.heap.size, 4, none⟩ = some (.int .i64 (g t 4)) := by rw [blk_cell b7]; exact cs_at (at_of (l := t) (by omega))
  have y10 : w7.cell? ⟨w.heap.size, 10, none⟩ = some (.int .i64 (g t 10)) := by rw [blk_cell b7]; exact cs_at (at_of (l := t) (by omega))
  have y16 : w7.cell? ⟨w.heap.size, 16, none⟩ = some (.int .i64 (g t 16)) := by rw [blk_cell b7]; exact cs_at (at_of (l := t) (by omega))
  have y5 : w7.cell? ⟨w.heap.size, 5, none⟩ = some (.int .i64 (g t 5)) := by rw [blk_cell b7]; exact cs_at (at_of (l := t) (by omega))
  have y11 : w7.cell? ⟨w.heap.size, 11, none⟩ = some (.int .i64 (g t 11)) := by rw [blk_cell b7]; exact cs_at (at_of (l := t) (by omega))
  have y17 : w7.cell? ⟨w.heap.size, 17, none⟩ = some (.int .i64 (g t 17)) := by rw [blk_cell b7]; exact cs_at (at_of (l := t) (by omega))
  have x0 : w7.cell? ⟨w6.heap.size, 0, none⟩ = some (.int .i64 (q0 t (mid px) (mid py))) := by rw [blk_cell c7]; rfl
  have x1 : w7.cell? ⟨w6.heap.size, 1, none⟩ = some (.int .i64 (q1 t (mid px) (mid py))) := by rw [blk_cell c7]; rfl
  have x2 : w7.cell? ⟨w6.heap.size, 2, none⟩ = some (.int .i64 (q2 t (mid px) (mid py))) := by rw [blk_cell c7]; rfl
  have HZ : min (g t 2) (min (g t 8) (g t 14)) ≤ zV t (mid px) (mid py) ∧ zV t (mid px) (mid py) ≤ max (g t 2) (max (g t 8) (g t 14)) := by
    have h0 := HT.out.s0
    have h1 := HT.out.s1
    have h2 := HT.out.s2
    have := h0.z0
    have := h1.z0
    have := h2.z0
    have := h0.z1
    have := h1.z1
    have := h2.z1
    exact in_z I.out (by omega) (by omega) (by omega) (by omega) (by omega) (by omega) (by omega) (by omega)
  have HU : min (g t 4) (min (g t 10) (g t 16)) ≤ atU t (mid px) (mid py) ∧ atU t (mid px) (mid py) ≤ max (g t 4) (max (g t 10) (g t 16)) := in_u I.out (by omega) (by omega) (by omega) (by omega) (by omega) (by omega)
  have HV : min (g t 5) (min (g t 11) (g t 17)) ≤ atW t (mid px) (mid py) ∧ atW t (mid px) (mid py) ≤ max (g t 5) (max (g t 11) (g t 17)) := in_v I.out (by omega) (by omega) (by omega) (by omega) (by omega) (by omega)
  have HQ := in_q I.out
  have Q := qb HT.out I.out.hx I.out.hy (by have := in_sm I.out; omega)
  have Qa := Q.a
  have Qb := Q.b
  have Qc := Q.c
  have Qs : q0 t (mid px) (mid py) + q1 t (mid px) (mid py) + q2 t (mid px) (mid py) = 65536 := by unfold q2; omega
  have d0 : decide (q0 t (mid px) (mid py) < 0) = false := by simp; omega
  have d1 : decide (q1 t (mid px) (mid py) < 0) = false := by simp; omega
  have d2 : decide (q2 t (mid px) (mid py) < 0) = false := by simp; omega
  have d3 : decide (zV t (mid px) (mid py) < min (g t 2) (min (g t 8) (g t 14))) = false := decide_eq_false (by omega)
  have d4 : decide (max (g t 2) (max (g t 8) (g t 14)) < zV t (mid px) (mid py)) = false := decide_eq_false (by omega)
  have d5 : decide (min (g t 4) (min (g t 10) (g t 16)) ≤ atU t (mid px) (mid py)) = true := decide_eq_true (by omega)
  have d6 : decide (atU t (mid px) (mid py) ≤ max (g t 4) (max (g t 10) (g t 16))) = true := decide_eq_true (by omega)
  have d7 : decide (min (g t 5) (min (g t 11) (g t 17)) ≤ atW t (mid px) (mid py)) = true := decide_eq_true (by omega)
  have d8 : decide (atW t (mid px) (mid py) ≤ max (g t 5) (max (g t 11) (g t 17))) = true := decide_eq_true (by omega)
  clear Q
  go_wp2
  go_quiet (fail)
  go_wp2_with fail
  refine (awake_any _).mono ?_
  rintro e w9 ⟨rfl, hb⟩
  have L9 : Below w.heap.size w w9 := by repeat' (first | (with_reducible exact Below.refl _ _) | (with_reducible refine Rd.below_step ?_ (by assumption)) | (with_reducible refine Rd.below_alloc ?_ _) | (with_reducible refine Rd.below_drewN ?_ _) | (with_reducible refine Below.drew ?_) | (with_reducible refine Below.setCell ?_ ?_ _) | (with_reducible refine Rd.below_setRow ?_ ?_ _) | go_size | (simp only [World.size_alloc]; omega) | omega)
  clear hb
  go_wp2
  go_ret
  exact ⟨rfl, L9⟩
end Go.Proofs.Ytjbmochndpdolaa.TriN
