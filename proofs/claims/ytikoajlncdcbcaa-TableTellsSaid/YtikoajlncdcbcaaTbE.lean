/-
  Tables: one that is none; what the document fixes.
-/
import Derived.Test.YtikoajlncdcbcaaTbD
namespace Go.Proofs.Ytikoajlncdcbcaa.TbE
open Go.RowKit Rd Go.Proofs.Ytikoajlncdcbcaa.Row Mid PgM PgA PgB PgC TbA TbB TbC TbD
open Go.Proofs.Ytikoajlncdcbcaa.Pred (Is is_stab Stab)
set_option linter.unusedVariables false
set_option linter.unusedSimpArgs false
set_option maxRecDepth 10000
attribute [local go_sem ↓] store_pg eq_pg3
attribute [local go_sem] one_int pc3 run_store_pg rowStore_eq blk_alloc_at blk_alloc_old blk_drew blk_drewN blk_set_far blk_set_far' blk_grow setRow_alloc_at setRow_alloc_old setRow_drew setRow_drewN
theorem has_nil (L X0 Y0 : Int) (w : World) : Calls Try.prog 21 #[.pointer none, .agg #[.int .i64 L, .int .i64 X0, .int .i64 Y0]] w fun e w' => e = .returned (.bool false) ∧ Below w.heap.size w w' := by
  go_enter Try.func21, Try.ntmps21
  go_upto_region 1 with (fail)
  refine Rd.name_world ?_
  intro w1 hw
  have bP : blk w1 w.heap.size = some (.cells #[.int .i64 L, .int .i64 X0, .int .i64 Y0] 24 (0, 0)) := by rw [hw]; exact blk_alloc_at _ _ _ rfl
  have L1 : Below w.heap.size w w1 := by
    rw [hw]
    repeat' (first | (with_reducible exact Below.refl _ _) | (with_reducible refine Rd.below_step ?_ (by assumption)) | (with_reducible refine Rd.below_alloc ?_ _) | (with_reducible refine Rd.below_drewN ?_ _) | (with_reducible refine Below.drew ?_) | (with_reducible refine Below.setCell ?_ ?_ _) | (with_reducible refine Rd.below_setRow ?_ ?_ _) | go_size | (simp only [World.size_alloc]; omega) | omega)
  have lP := blk_lt bP
  clear hw
  refine Pred.region_vals (Pred.Of [
      Is (.pointer none),
      Is (.bool false),
      Is (.bool false),
      Is (undef),
      Is (undef),
      Is (undef),
      Is (undef),
      Is (undef),
      Is (undef),
      Is (.bool false),
      Is (.bool false),
      Is (undef),
      Is (undef),
      Is (undef),
      Is (undef),
      Is (undef),
      Is (undef),
      Is (.bool false),
      Is (.bool false)]) (by kernel_rfl) (by kernel_rfl) (by kernel_rfl) (Pred.of_stab ?_) ?_ ?_
  · exact ⟨is_stab _, is_stab _, is_stab _, is_stab _, is_stab _, is_stab _, is_stab _, is_stab _, is_stab _, is_stab _, is_stab _, is_stab _, is_stab _, is_stab _, is_stab _, is_stab _, is_stab _, is_stab _, is_stab _, trivial⟩
  · refine ⟨?_, ?_, ?_, ?_, ?_, ?_, ?_, ?_, ?_, ?_, ?_, ?_, ?_, ?_, ?_, ?_, ?_, ?_, ?_, trivial⟩
    · intro b X hE hd hn hV
      have r0 : b.tmps[0]?.getD undef = .pointer none := (hn 0 (by kernel_rfl)).trans rfl
      exact Pred.yields_run (v := .pointer none) (Pred.wanted_none rfl) (by go_simp) ⟨Pred.ext_refl _ _, rfl⟩
    · intro b X hE hd hn hV
      have r5 : b.tmps[5]?.getD undef = .pointer none := hV 0 _ 5 rfl rfl (Pred.waits_near (by kernel_rfl) (by kernel_rfl))
      exact Pred.yields_run (v := .bool false) (Pred.wanted_none rfl) (by go_simp) ⟨Pred.ext_refl _ _, rfl⟩
    · intro b X hE hd hn hV
      have r6 : b.tmps[6]?.getD undef = .bool false := hV 1 _ 6 rfl rfl (Pred.waits_near (by kernel_rfl) (by kernel_rfl))
      exact Pred.yields_run (v := .bool false) (Pred.wanted_none rfl) (by go_simp) ⟨Pred.ext_refl _ _, rfl⟩
    · intro b X hE hd hn hV
      have r7 : b.tmps[7]?.getD undef = .bool false := hV 2 _ 7 rfl rfl (Pred.waits_near (by kernel_rfl) (by kernel_rfl))
      exact Pred.yields_not ((Pred.wanted_at (g := 2) (d := 7) (f := true) rfl rfl r7).trans rfl) ⟨Pred.ext_refl _ _, rfl⟩
    · intro b X hE hd hn hV
      have r7 : b.tmps[7]?.getD undef = .bool false := hV 2 _ 7 rfl rfl (Pred.waits_near (by kernel_rfl) (by kernel_rfl))
      exact Pred.yields_not ((Pred.wanted_at (g := 2) (d := 7) (f := true) rfl rfl r7).trans rfl) ⟨Pred.ext_refl _ _, rfl⟩
    · intro b X hE hd hn hV
      have r7 : b.tmps[7]?.getD undef = .bool false := hV 2 _ 7 rfl rfl (Pred.waits_near (by kernel_rfl) (by kernel_rfl))
      exact Pred.yields_not ((Pred.wanted_at (g := 2) (d := 7) (f := true) rfl rfl r7).trans rfl) ⟨Pred.ext_refl _ _, rfl⟩
    · intro b X hE hd hn hV
      have r7 : b.tmps[7]?.getD undef = .bool false := hV 2 _ 7 rfl rfl (Pred.waits_near (by kernel_rfl) (by kernel_rfl))
      exact Pred.yields_not ((Pred.wanted_at (g := 2) (d := 7) (f := true) rfl rfl r7).trans rfl) ⟨Pred.ext_refl _ _, rfl⟩
    · intro b X hE hd hn hV
      have r7 : b.tmps[7]?.getD undef = .bool false := hV 2 _ 7 rfl rfl (Pred.waits_near (by kernel_rfl) (by kernel_rfl))
      exact Pred.yields_not ((Pred.wanted_at (g := 2) (d := 7) (f := true) rfl rfl r7).trans rfl) ⟨Pred.ext_refl _ _, rfl⟩
    · intro b X hE hd hn hV
      have r7 : b.tmps[7]?.getD undef = .bool false := hV 2 _ 7 rfl rfl (Pred.waits_near (by kernel_rfl) (by kernel_rfl))
      exact Pred.yields_not ((Pred.wanted_at (g := 2) (d := 7) (f := true) rfl rfl r7).trans rfl) ⟨Pred.ext_refl _ _, rfl⟩
    · intro b X hE hd hn hV
      have r7 : b.tmps[7]?.getD undef = .bool false := hV 2 _ 7 rfl rfl (Pred.waits_near (by kernel_rfl) (by kernel_rfl))
      have r13 : b.tmps[13]?.getD undef = undef := hV 8 _ 13 rfl rfl (Pred.waits_near (by kernel_rfl) (by kernel_rfl))
      exact Pred.yields_run (v := .bool false) (Pred.wanted_none rfl) (by go_simp) ⟨Pred.ext_refl _ _, rfl⟩
    · intro b X hE hd hn hV
      have r14 : b.tmps[14]?.getD undef = .bool false := hV 9 _ 14 rfl rfl (Pred.waits_near (by kernel_rfl) (by kernel_rfl))
      exact Pred.yields_run (v := .bool false) (Pred.wanted_none rfl) (by go_simp) ⟨Pred.ext_refl _ _, rfl⟩
    · intro b X hE hd hn hV
      have r15 : b.tmps[15]?.getD undef = .bool false := hV 10 _ 15 rfl rfl (Pred.waits_near (by kernel_rfl) (by kernel_rfl))
      exact Pred.yields_not ((Pred.wanted_at (g := 10) (d := 15) (f := true) rfl rfl r15).trans rfl) ⟨Pred.ext_refl _ _, rfl⟩
    · intro b X hE hd hn hV
      have r15 : b.tmps[15]?.getD undef = .bool false := hV 10 _ 15 rfl rfl (Pred.waits_near (by kernel_rfl) (by kernel_rfl))
      exact Pred.yields_not ((Pred.wanted_at (g := 10) (d := 15) (f := true) rfl rfl r15).trans rfl) ⟨Pred.ext_refl _ _, rfl⟩
    · intro b X hE hd hn hV
      have r15 : b.tmps[15]?.getD undef = .bool false := hV 10 _ 15 rfl rfl (Pred.waits_near (by kernel_rfl) (by kernel_rfl))
      exact Pred.yields_not ((Pred.wanted_at (g := 10) (d := 15) (f := true) rfl rfl r15).trans rfl) ⟨Pred.ext_refl _ _, rfl⟩
    · intro b X hE hd hn hV
      have r15 : b.tmps[15]?.getD undef = .bool false := hV 10 _ 15 rfl rfl (Pred.waits_near (by kernel_rfl) (by kernel_rfl))
      exact Pred.yields_not ((Pred.wanted_at (g := 10) (d := 15) (f := true) rfl rfl r15).trans rfl) ⟨Pred.ext_refl _ _, rfl⟩
    · intro b X hE hd hn hV
      have r15 : b.tmps[15]?.getD undef = .bool false := hV 10 _ 15 rfl rfl (Pred.waits_near (by kernel_rfl) (by kernel_rfl))
      exact Pred.yields_not ((Pred.wanted_at (g := 10) (d := 15) (f := true) rfl rfl r15).trans rfl) ⟨Pred.ext_refl _ _, rfl⟩
    · intro b X hE hd hn hV
      have r15 : b.tmps[15]?.getD undef = .bool false := hV 10 _ 15 rfl rfl (Pred.waits_near (by kernel_rfl) (by kernel_rfl))
      exact Pred.yields_not ((Pred.wanted_at (g := 10) (d := 15) (f := true) rfl rfl r15).trans rfl) ⟨Pred.ext_refl _ _, rfl⟩
    · intro b X hE hd hn hV
      have r15 : b.tmps[15]?.getD undef = .bool false := hV 10 _ 15 rfl rfl (Pred.waits_near (by kernel_rfl) (by kernel_rfl))
      have r21 : b.tmps[21]?.getD undef = undef := hV 16 _ 21 rfl rfl (Pred.waits_near (by kernel_rfl) (by kernel_rfl))
      exact Pred.yields_run (v := .bool false) (Pred.wanted_none rfl) (by go_simp) ⟨Pred.ext_refl _ _, rfl⟩
    · intro b X hE hd hn hV
      have r22 : b.tmps[22]?.getD undef = .bool false := hV 17 _ 22 rfl rfl (Pred.waits_near (by kernel_rfl) (by kernel_rfl))
      exact Pred.yields_run (v := .bool false) (Pred.wanted_none rfl) (by go_simp) ⟨Pred.ext_refl _ _, rfl⟩
  intro v w2 hE hv
  have e0 : v 0 = .pointer none := hv 0 _ 5 rfl rfl
  have e1 : v 1 = .bool false := hv 1 _ 6 rfl rfl
  have e2 : v 2 = .bool false := hv 2 _ 7 rfl rfl
  have e3 : v 3 = undef := hv 3 _ 8 rfl rfl
  have e4 : v 4 = undef := hv 4 _ 9 rfl rfl
  have e5 : v 5 = undef := hv 5 _ 10 rfl rfl
  have e6 : v 6 = undef := hv 6 _ 11 rfl rfl
  have e7 : v 7 = undef := hv 7 _ 12 rfl rfl
  have e8 : v 8 = undef := hv 8 _ 13 rfl rfl
  have e9 : v 9 = .bool false := hv 9 _ 14 rfl rfl
  have e10 : v 10 = .bool false := hv 10 _ 15 rfl rfl
  have e11 : v 11 = undef := hv 11 _ 16 rfl rfl
  have e12 : v 12 = undef := hv 12 _ 17 rfl rfl
  have e13 : v 13 = undef := hv 13 _ 18 rfl rfl
  have e14 : v 14 = undef := hv 14 _ 19 rfl rfl
  have e15 : v 15 = undef := hv 15 _ 20 rfl rfl
  have e16 : v 16 = undef := hv 16 _ 21 rfl rfl
  have e17 : v 17 = .bool false := hv 17 _ 22 rfl rfl
  have e18 : v 18 = .bool false := hv 18 _ 4 rfl rfl
  simp only [Pred.putsF_cons, Pred.putsF_nil, Nat.zero_add, Nat.reduceAdd, e0, e1, e2, e3, e4, e5, e6, e7, e8, e9, e10, e11, e12, e13, e14, e15, e16, e17, e18, Act.put, List.setIfInBounds_toArray, List.set_cons_zero, List.set_cons_succ]
  clear e0 e1 e2 e3 e4 e5 e6 e7 e8 e9 e10 e11 e12 e13 e14 e15 e16 e17 e18 hv
  have L2 : Below w.heap.size w w2 := by repeat' (first | (with_reducible exact Below.refl _ _) | (with_reducible refine Rd.below_step ?_ (by assumption)) | (with_reducible refine Rd.below_alloc ?_ _) | (with_reducible refine Rd.below_drewN ?_ _) | (with_reducible refine Below.drew ?_) | (with_reducible refine Below.setCell ?_ ?_ _) | (with_reducible refine Rd.below_setRow ?_ ?_ _) | go_size | (simp only [World.size_alloc]; omega) | omega)
  clear hE
  go_wp2
  go_ret
  exact ⟨rfl, L2⟩
theorem there_nil (L X0 Y0 : Int) (w : World) : Calls Try.prog 14 #[.pointer none, .agg #[.int .i64 L, .int .i64 X0, .int .i64 Y0]] w fun e w' => e = .returned (.bool false) ∧ Below w.heap.size w w' := by
  go_enter Try.func14, Try.ntmps14
  go_upto_region 1 with (fail)
  refine Rd.name_world ?_
  intro w1 hw
  have bP : blk w1 w.heap.size = some (.cells #[.int .i64 L, .int .i64 X0, .int .i64 Y0] 24 (0, 0)) := by rw [hw]; exact blk_alloc_at _ _ _ rfl
  have L1 : Below w.heap.size w w1 := by
    rw [hw]
    repeat' (first | (with_reducible exact Below.refl _ _) | (with_reducible refine Rd.below_step ?_ (by assumption)) | (with_reducible refine Rd.below_alloc ?_ _) | (with_reducible refine Rd.below_drewN ?_ _) | (with_reducible refine Below.drew ?_) | (with_reducible refine Below.setCell ?_ ?_ _) | (with_reducible refine Rd.below_setRow ?_ ?_ _) | go_size | (simp only [World.size_alloc]; omega) | omega)
  have lP := blk_lt bP
  clear hw
  refine Pred.region_vals (Pred.Of [
      Is (.pointer none),
      Is (.agg #[.int .i64 L, .int .i64 X0, .int .i64 Y0]),
      Is (.bool false),
      Is (.bool false),
      Is (undef),
      Is (undef),
      Is (undef),
      Is (undef),
      Is (undef),
      Is (undef),
      Is (undef),
      Is (undef),
      Is (undef),
      Is (undef),
      Is (undef),
      Is (undef),
      Is (.bool false),
      Is (.bool false)]) (by kernel_rfl) (by kernel_rfl) (by kernel_rfl) (Pred.of_stab ?_) ?_ ?_
  · exact ⟨is_stab _, is_stab _, is_stab _, is_stab _, is_stab _, is_stab _, is_stab _, is_stab _, is_stab _, is_stab _, is_stab _, is_stab _, is_stab _, is_stab _, is_stab _, is_stab _, is_stab _, is_stab _, trivial⟩
  · refine ⟨?_, ?_, ?_, ?_, ?_, ?_, ?_, ?_, ?_, ?_, ?_, ?_, ?_, ?_, ?_, ?_, ?_, ?_, trivial⟩
    · intro b X hE hd hn hV
      have r0 : b.tmps[0]?.getD undef = .pointer none := (hn 0 (by kernel_rfl)).trans rfl
      exact Pred.yields_run (v := .pointer none) (Pred.wanted_none rfl) (by go_simp) ⟨Pred.ext_refl _ _, rfl⟩
    · intro b X hE hd hn hV
      have r3 : b.tmps[3]?.getD undef = .pointer (some ⟨w.heap.size, 0, none⟩) := (hn 3 (by kernel_rfl)).trans rfl
      have q := (blk_below hE _ lP).trans bP
      have z0 : X.cell? ⟨w.heap.size, 0, none⟩ = some (.int .i64 L) := by rw [blk_cell q]; rfl
      have z1 : X.cell? ⟨w.heap.size, 1, none⟩ = some (.int .i64 X0) := by rw [blk_cell q]; rfl
      have z2 : X.cell? ⟨w.heap.size, 2, none⟩ = some (.int .i64 Y0) := by rw [blk_cell q]; rfl
      exact Pred.yields_run (v := .agg #[.int .i64 L, .int .i64 X0, .int .i64 Y0]) (Pred.wanted_none rfl) (by go_simp) ⟨Pred.ext_refl _ _, rfl⟩
    · intro b X hE hd hn hV
      have r5 : b.tmps[5]?.getD undef = .pointer none := hV 0 _ 5 rfl rfl (Pred.waits_near (by kernel_rfl) (by kernel_rfl))
      have r6 : b.tmps[6]?.getD undef = .agg #[.int .i64 L, .int .i64 X0, .int .i64 Y0] := hV 1 _ 6 rfl rfl (Pred.waits_near (by kernel_rfl) (by kernel_rfl))
      refine Pred.yields_call (f := 21) (args := #[.pointer none, .agg #[.int .i64 L, .int .i64 X0, .int .i64 Y0]]) (Pred.wanted_none rfl) (by go_simp) ?_
      exact (has_nil L X0 Y0 _).mono fun e w2 ⟨he, hb⟩ => ⟨_, he, Pred.ext_below hb hE.size, rfl⟩
    · intro b X hE hd hn hV
      have r7 : b.tmps[7]?.getD undef = .bool false := hV 2 _ 7 rfl rfl (Pred.waits_near (by kernel_rfl) (by kernel_rfl))
      exact Pred.yields_run (v := .bool false) (Pred.wanted_none rfl) (by go_simp) ⟨Pred.ext_refl _ _, rfl⟩
    · intro b X hE hd hn hV
      have r8 : b.tmps[8]?.getD undef = .bool false := hV 3 _ 8 rfl rfl (Pred.waits_near (by kernel_rfl) (by kernel_rfl))
      exact Pred.yields_not ((Pred.wanted_at (g := 3) (d := 8) (f := true) rfl rfl r8).trans rfl) ⟨Pred.ext_refl _ _, rfl⟩
    · intro b X hE hd hn hV
      have r8 : b.tmps[8]?.getD undef = .bool false := hV 3 _ 8 rfl rfl (Pred.waits_near (by kernel_rfl) (by kernel_rfl))
      exact Pred.yields_not ((Pred.wanted_at (g := 3) (d := 8) (f := true) rfl rfl r8).trans rfl) ⟨Pred.ext_refl _ _, rfl⟩
    · intro b X hE hd hn hV
      have r8 : b.tmps[8]?.getD undef = .bool false := hV 3 _ 8 rfl rfl (Pred.waits_near (by kernel_rfl) (by kernel_rfl))
      exact Pred.yields_not ((Pred.wanted_at (g := 3) (d := 8) (f := true) rfl rfl r8).trans rfl) ⟨Pred.ext_refl _ _, rfl⟩
    · intro b X hE hd hn hV
      have r8 : b.tmps[8]?.getD undef = .bool false := hV 3 _ 8 rfl rfl (Pred.waits_near (by kernel_rfl) (by kernel_rfl))
      exact Pred.yields_not ((Pred.wanted_at (g := 3) (d := 8) (f := true) rfl rfl r8).trans rfl) ⟨Pred.ext_refl _ _, rfl⟩
    · intro b X hE hd hn hV
      have r8 : b.tmps[8]?.getD undef = .bool false := hV 3 _ 8 rfl rfl (Pred.waits_near (by kernel_rfl) (by kernel_rfl))
      exact Pred.yields_not ((Pred.wanted_at (g := 3) (d := 8) (f := true) rfl rfl r8).trans rfl) ⟨Pred.ext_refl _ _, rfl⟩
    · intro b X hE hd hn hV
      have r8 : b.tmps[8]?.getD undef = .bool false := hV 3 _ 8 rfl rfl (Pred.waits_near (by kernel_rfl) (by kernel_rfl))
      exact Pred.yields_not ((Pred.wanted_at (g := 3) (d := 8) (f := true) rfl rfl r8).trans rfl) ⟨Pred.ext_refl _ _, rfl⟩
    · intro b X hE hd hn hV
      have r8 : b.tmps[8]?.getD undef = .bool false := hV 3 _ 8 rfl rfl (Pred.waits_near (by kernel_rfl) (by kernel_rfl))
      exact Pred.yields_not ((Pred.wanted_at (g := 3) (d := 8) (f := true) rfl rfl r8).trans rfl) ⟨Pred.ext_refl _ _, rfl⟩
    · intro b X hE hd hn hV
      have r8 : b.tmps[8]?.getD undef = .bool false := hV 3 _ 8 rfl rfl (Pred.waits_near (by kernel_rfl) (by kernel_rfl))
      exact Pred.yields_not ((Pred.wanted_at (g := 3) (d := 8) (f := true) rfl rfl r8).trans rfl) ⟨Pred.ext_refl _ _, rfl⟩
    · intro b X hE hd hn hV
      have r8 : b.tmps[8]?.getD undef = .bool false := hV 3 _ 8 rfl rfl (Pred.waits_near (by kernel_rfl) (by kernel_rfl))
      exact Pred.yields_not ((Pred.wanted_at (g := 3) (d := 8) (f := true) rfl rfl r8).trans rfl) ⟨Pred.ext_refl _ _, rfl⟩
    · intro b X hE hd hn hV
      have r8 : b.tmps[8]?.getD undef = .bool false := hV 3 _ 8 rfl rfl (Pred.waits_near (by kernel_rfl) (by kernel_rfl))
      exact Pred.yields_not ((Pred.wanted_at (g := 3) (d := 8) (f := true) rfl rfl r8).trans rfl) ⟨Pred.ext_refl _ _, rfl⟩
    · intro b X hE hd hn hV
      have r8 : b.tmps[8]?.getD undef = .bool false := hV 3 _ 8 rfl rfl (Pred.waits_near (by kernel_rfl) (by kernel_rfl))
      exact Pred.yields_not ((Pred.wanted_at (g := 3) (d := 8) (f := true) rfl rfl r8).trans rfl) ⟨Pred.ext_refl _ _, rfl⟩
    · intro b X hE hd hn hV
      have r8 : b.tmps[8]?.getD undef = .bool false := hV 3 _ 8 rfl rfl (Pred.waits_near (by kernel_rfl) (by kernel_rfl))
      exact Pred.yields_not ((Pred.wanted_at (g := 3) (d := 8) (f := true) rfl rfl r8).trans rfl) ⟨Pred.ext_refl _ _, rfl⟩
    · intro b X hE hd hn hV
      have r8 : b.tmps[8]?.getD undef = .bool false := hV 3 _ 8 rfl rfl (Pred.waits_near (by kernel_rfl) (by kernel_rfl))
      have r20 : b.tmps[20]?.getD undef = undef := hV 15 _ 20 rfl rfl (Pred.waits_near (by kernel_rfl) (by kernel_rfl))
      exact Pred.yields_run (v := .bool false) (Pred.wanted_none rfl) (by go_simp) ⟨Pred.ext_refl _ _, rfl⟩
    · intro b X hE hd hn hV
      have r21 : b.tmps[21]?.getD undef = .bool false := hV 16 _ 21 rfl rfl (Pred.waits_near (by kernel_rfl) (by kernel_rfl))
      exact Pred.yields_run (v := .bool false) (Pred.wanted_none rfl) (by go_simp) ⟨Pred.ext_refl _ _, rfl⟩
  intro v w2 hE hv
  have e0 : v 0 = .pointer none := hv 0 _ 5 rfl rfl
  have e1 : v 1 = .agg #[.int .i64 L, .int .i64 X0, .int .i64 Y0] := hv 1 _ 6 rfl rfl
  have e2 : v 2 = .bool false := hv 2 _ 7 rfl rfl
  have e3 : v 3 = .bool false := hv 3 _ 8 rfl rfl
  have e4 : v 4 = undef := hv 4 _ 9 rfl rfl
  have e5 : v 5 = undef := hv 5 _ 10 rfl rfl
  have e6 : v 6 = undef := hv 6 _ 11 rfl rfl
  have e7 : v 7 = undef := hv 7 _ 12 rfl rfl
  have e8 : v 8 = undef := hv 8 _ 13 rfl rfl
  have e9 : v 9 = undef := hv 9 _ 14 rfl rfl
  have e10 : v 10 = undef := hv 10 _ 15 rfl rfl
  have e11 : v 11 = undef := hv 11 _ 16 rfl rfl
  have e12 : v 12 = undef := hv 12 _ 17 rfl rfl
  have e13 : v 13 = undef := hv 13 _ 18 rfl rfl
  have e14 : v 14 = undef := hv 14 _ 19 rfl rfl
  have e15 : v 15 = undef := hv 15 _ 20 rfl rfl
  have e16 : v 16 = .bool false := hv 16 _ 21 rfl rfl
  have e17 : v 17 = .bool false := hv 17 _ 4 rfl rfl
  simp only [Pred.putsF_cons, Pred.putsF_nil, Nat.zero_add, Nat.reduceAdd, e0, e1, e2, e3, e4, e5, e6, e7, e8, e9, e10, e11, e12, e13, e14, e15, e16, e17, Act.put, List.setIfInBounds_toArray, List.set_cons_zero, List.set_cons_succ]
  clear e0 e1 e2 e3 e4 e5 e6 e7 e8 e9 e10 e11 e12 e13 e14 e15 e16 e17 hv
  have L2 : Below w.heap.size w w2 := by repeat' (first | (with_reducible exact Below.refl _ _) | (with_reducible refine Rd.below_step ?_ (by assumption)) | (with_reducible refine Rd.below_alloc ?_ _) | (with_reducible refine Rd.below_drewN ?_ _) | (with_reducible refine Below.drew ?_) | (with_reducible refine Below.setCell ?_ ?_ _) | (with_reducible refine Rd.below_setRow ?_ ?_ _) | go_size | (simp only [World.size_alloc]; omega) | omega)
  clear hE
  go_wp2
  go_ret
  exact ⟨rfl, L2⟩
theorem set_nil (L X0 Y0 : Int) (yes : Bool) (w : World) : Calls Try.prog 11 #[.pointer none, .agg #[.int .i64 L, .int .i64 X0, .int .i64 Y0], .bool yes] w fun e w' => e = .returned (.int .i64 1) ∧ Below w.heap.size w w' := by
  go_enter Try.func11, Try.ntmps11
  go_upto_region 1 with (fail)
  refine Rd.name_world ?_
  intro w1 hw
  have bP : blk w1 w.heap.size = some (.cells #[.int .i64 L, .int .i64 X0, .int .i64 Y0] 24 (0, 0)) := by rw [hw]; exact blk_alloc_at _ _ _ rfl
  have L1 : Below w.heap.size w w1 := by
    rw [hw]
    repeat' (first | (with_reducible exact Below.refl _ _) | (with_reducible refine Rd.below_step ?_ (by assumption)) | (with_reducible refine Rd.below_alloc ?_ _) | (with_reducible refine Rd.below_drewN ?_ _) | (with_reducible refine Below.drew ?_) | (with_reducible refine Below.setCell ?_ ?_ _) | (with_reducible refine Rd.below_setRow ?_ ?_ _) | go_size | (simp only [World.size_alloc]; omega) | omega)
  have lP := blk_lt bP
  clear hw
  refine Pred.region_vals (Pred.Of [
      Is (.pointer none),
      Is (.agg #[.int .i64 L, .int .i64 X0, .int .i64 Y0]),
      Is (.bool false),
      Is (.bool true),
      Is (.bool true),
      Is (undef),
      Is (undef),
      Is (undef),
      Is (undef),
      Is (undef),
      Is (undef),
      Is (undef),
      Is (undef),
      Is (undef),
      Is (undef),
      Is (undef),
      Is (.bool true)]) (by kernel_rfl) (by kernel_rfl) (by kernel_rfl) (Pred.of_stab ?_) ?_ ?_
  · exact ⟨is_stab _, is_stab _, is_stab _, is_stab _, is_stab _, is_stab _, is_stab _, is_stab _, is_stab _, is_stab _, is_stab _, is_stab _, is_stab _, is_stab _, is_stab _, is_stab _, is_stab _, trivial⟩
  · refine ⟨?_, ?_, ?_, ?_, ?_, ?_, ?_, ?_, ?_, ?_, ?_, ?_, ?_, ?_, ?_, ?_, ?_, trivial⟩
    · intro b X hE hd hn hV
      have r0 : b.tmps[0]?.getD undef = .pointer none := (hn 0 (by kernel_rfl)).trans rfl
      exact Pred.yields_run (v := .pointer none) (Pred.wanted_none rfl) (by go_simp) ⟨Pred.ext_refl _ _, rfl⟩
    · intro b X hE hd hn hV
      have r4 : b.tmps[4]?.getD undef = .pointer (some ⟨w.heap.size, 0, none⟩) := (hn 4 (by kernel_rfl)).trans rfl
      have q := (blk_below hE _ lP).trans bP
      have z0 : X.cell? ⟨w.heap.size, 0, none⟩ = some (.int .i64 L) := by rw [blk_cell q]; rfl
      have z1 : X.cell? ⟨w.heap.size, 1, none⟩ = some (.int .i64 X0) := by rw [blk_cell q]; rfl
      have z2 : X.cell? ⟨w.heap.size, 2, none⟩ = some (.int .i64 Y0) := by rw [blk_cell q]; rfl
      exact Pred.yields_run (v := .agg #[.int .i64 L, .int .i64 X0, .int .i64 Y0]) (Pred.wanted_none rfl) (by go_simp) ⟨Pred.ext_refl _ _, rfl⟩
    · intro b X hE hd hn hV
      have r7 : b.tmps[7]?.getD undef = .pointer none := hV 0 _ 7 rfl rfl (Pred.waits_near (by kernel_rfl) (by kernel_rfl))
      have r8 : b.tmps[8]?.getD undef = .agg #[.int .i64 L, .int .i64 X0, .int .i64 Y0] := hV 1 _ 8 rfl rfl (Pred.waits_near (by kernel_rfl) (by kernel_rfl))
      refine Pred.yields_call (f := 21) (args := #[.pointer none, .agg #[.int .i64 L, .int .i64 X0, .int .i64 Y0]]) (Pred.wanted_none rfl) (by go_simp) ?_
      exact (has_nil L X0 Y0 _).mono fun e w2 ⟨he, hb⟩ => ⟨_, he, Pred.ext_below hb hE.size, rfl⟩
    · intro b X hE hd hn hV
      have r9 : b.tmps[9]?.getD undef = .bool false := hV 2 _ 9 rfl rfl (Pred.waits_near (by kernel_rfl) (by kernel_rfl))
      exact Pred.yields_run (v := .bool true) (Pred.wanted_none rfl) (by go_simp) ⟨Pred.ext_refl _ _, rfl⟩
    · intro b X hE hd hn hV
      have r10 : b.tmps[10]?.getD undef = .bool true := hV 3 _ 10 rfl rfl (Pred.waits_near (by kernel_rfl) (by kernel_rfl))
      exact Pred.yields_run (v := .bool true) (Pred.wanted_none rfl) (by go_simp) ⟨Pred.ext_refl _ _, rfl⟩
    · intro b X hE hd hn hV
      have r11 : b.tmps[11]?.getD undef = .bool true := hV 4 _ 11 rfl rfl (Pred.waits_near (by kernel_rfl) (by kernel_rfl))
      exact Pred.yields_not ((Pred.wanted_at (g := 4) (d := 11) (f := false) rfl rfl r11).trans rfl) ⟨Pred.ext_refl _ _, rfl⟩
    · intro b X hE hd hn hV
      have r11 : b.tmps[11]?.getD undef = .bool true := hV 4 _ 11 rfl rfl (Pred.waits_near (by kernel_rfl) (by kernel_rfl))
      exact Pred.yields_not ((Pred.wanted_at (g := 4) (d := 11) (f := false) rfl rfl r11).trans rfl) ⟨Pred.ext_refl _ _, rfl⟩
    · intro b X hE hd hn hV
      have r11 : b.tmps[11]?.getD undef = .bool true := hV 4 _ 11 rfl rfl (Pred.waits_near (by kernel_rfl) (by kernel_rfl))
      exact Pred.yields_not ((Pred.wanted_at (g := 4) (d := 11) (f := false) rfl rfl r11).trans rfl) ⟨Pred.ext_refl _ _, rfl⟩
    · intro b X hE hd hn hV
      have r11 : b.tmps[11]?.getD undef = .bool true := hV 4 _ 11 rfl rfl (Pred.waits_near (by kernel_rfl) (by kernel_rfl))
      exact Pred.yields_not ((Pred.wanted_at (g := 4) (d := 11) (f := false) rfl rfl r11).trans rfl) ⟨Pred.ext_refl _ _, rfl⟩
    · intro b X hE hd hn hV
      have r11 : b.tmps[11]?.getD undef = .bool true := hV 4 _ 11 rfl rfl (Pred.waits_near (by kernel_rfl) (by kernel_rfl))
      exact Pred.yields_not ((Pred.wanted_at (g := 4) (d := 11) (f := false) rfl rfl r11).trans rfl) ⟨Pred.ext_refl _ _, rfl⟩
    · intro b X hE hd hn hV
      have r11 : b.tmps[11]?.getD undef = .bool true := hV 4 _ 11 rfl rfl (Pred.waits_near (by kernel_rfl) (by kernel_rfl))
      exact Pred.yields_not ((Pred.wanted_at (g := 4) (d := 11) (f := false) rfl rfl r11).trans rfl) ⟨Pred.ext_refl _ _, rfl⟩
    · intro b X hE hd hn hV
      have r11 : b.tmps[11]?.getD undef = .bool true := hV 4 _ 11 rfl rfl (Pred.waits_near (by kernel_rfl) (by kernel_rfl))
      exact Pred.yields_not ((Pred.wanted_at (g := 4) (d := 11) (f := false) rfl rfl r11).trans rfl) ⟨Pred.ext_refl _ _, rfl⟩
    · intro b X hE hd hn hV
      have r11 : b.tmps[11]?.getD undef = .bool true := hV 4 _ 11 rfl rfl (Pred.waits_near (by kernel_rfl) (by kernel_rfl))
      exact Pred.yields_not ((Pred.wanted_at (g := 4) (d := 11) (f := false) rfl rfl r11).trans rfl) ⟨Pred.ext_refl _ _, rfl⟩
    · intro b X hE hd hn hV
      have r19 : b.tmps[19]?.getD undef = undef := hV 12 _ 19 rfl rfl (Pred.waits_near (by kernel_rfl) (by kernel_rfl))
      exact Pred.yields_not (Pred.wanted_un (g := 12) (d := 19) (f := true) rfl rfl r19) ⟨Pred.ext_refl _ _, rfl⟩
    · intro b X hE hd hn hV
      have r19 : b.tmps[19]?.getD undef = undef := hV 12 _ 19 rfl rfl (Pred.waits_near (by kernel_rfl) (by kernel_rfl))
      exact Pred.yields_not (Pred.wanted_un (g := 12) (d := 19) (f := true) rfl rfl r19) ⟨Pred.ext_refl _ _, rfl⟩
    · intro b X hE hd hn hV
      have r11 : b.tmps[11]?.getD undef = .bool true := hV 4 _ 11 rfl rfl (Pred.waits_near (by kernel_rfl) (by kernel_rfl))
      exact Pred.yields_not ((Pred.wanted_at (g := 4) (d := 11) (f := false) rfl rfl r11).trans rfl) ⟨Pred.ext_refl _ _, rfl⟩
    · intro b X hE hd hn hV
      have r11 : b.tmps[11]?.getD undef = .bool true := hV 4 _ 11 rfl rfl (Pred.waits_near (by kernel_rfl) (by kernel_rfl))
      have r22 : b.tmps[22]?.getD undef = undef := hV 15 _ 22 rfl rfl (Pred.waits_near (by kernel_rfl) (by kernel_rfl))
      exact Pred.yields_run (v := .bool true) (Pred.wanted_none rfl) (by go_simp) ⟨Pred.ext_refl _ _, rfl⟩
  intro v w2 hE hv
  have e0 : v 0 = .pointer none := hv 0 _ 7 rfl rfl
  have e1 : v 1 = .agg #[.int .i64 L, .int .i64 X0, .int .i64 Y0] := hv 1 _ 8 rfl rfl
  have e2 : v 2 = .bool false := hv 2 _ 9 rfl rfl
  have e3 : v 3 = .bool true := hv 3 _ 10 rfl rfl
  have e4 : v 4 = .bool true := hv 4 _ 11 rfl rfl
  have e5 : v 5 = undef := hv 5 _ 12 rfl rfl
  have e6 : v 6 = undef := hv 6 _ 13 rfl rfl
  have e7 : v 7 = undef := hv 7 _ 14 rfl rfl
  have e8 : v 8 = undef := hv 8 _ 15 rfl rfl
  have e9 : v 9 = undef := hv 9 _ 16 rfl rfl
  have e10 : v 10 = undef := hv 10 _ 17 rfl rfl
  have e11 : v 11 = undef := hv 11 _ 18 rfl rfl
  have e12 : v 12 = undef := hv 12 _ 19 rfl rfl
  have e13 : v 13 = undef := hv 13 _ 20 rfl rfl
  have e14 : v 14 = undef := hv 14 _ 21 rfl rfl
  have e15 : v 15 = undef := hv 15 _ 22 rfl rfl
  have e16 : v 16 = .bool true := hv 16 _ 23 rfl rfl
  simp only [Pred.putsF_cons, Pred.putsF_nil, Nat.zero_add, Nat.reduceAdd, e0, e1, e2, e3, e4, e5, e6, e7, e8, e9, e10, e11, e12, e13, e14, e15, e16, Act.put, List.setIfInBounds_toArray, List.set_cons_zero, List.set_cons_succ]
  clear e0 e1 e2 e3 e4 e5 e6 e7 e8 e9 e10 e11 e12 e13 e14 e15 e16 hv
  have L2 : Below w.heap.size w w2 := by repeat' (first | (with_reducible exact Below.refl _ _) | (with_reducible refine Rd.below_step ?_ (by assumption)) | (with_reducible refine Rd.below_alloc ?_ _) | (with_reducible refine Rd.below_drewN ?_ _) | (with_reducible refine Below.drew ?_) | (with_reducible refine Below.setCell ?_ ?_ _) | (with_reducible refine Rd.below_setRow ?_ ?_ _) | go_size | (simp only [World.size_alloc]; omega) | omega)
  clear hE
  go_wp2
  go_ret
  exact ⟨rfl, L2⟩
def bs1 : List Bool := startL 2
def bs2 : List Bool := bs1.set 2 true
theorem lk1 : lookV 2 bs1 0 3 1 = ([2, 0, 0], true) := by decide +kernel
theorem lk2 : lookV 2 bs2 0 3 1 = ([1, 1, 0], true) := by decide +kernel
theorem lk3 : lookV 2 bs2 0 4 0 = ([0, 0, 0], false) := by decide +kernel
theorem st1 : setB 2 1 1 0 true = true ∧ (keyV ((2 : Nat) : Int) 1 1 0).toNat = 2 := by decide +kernel
theorem st2 : setB 2 2 0 0 false = false := by decide +kernel
theorem th1 : thereV 2 bs2 2 0 0 = true := by decide +kernel
theorem th2 : thereV 2 bs2 0 0 0 = false := by decide +kernel
theorem look1 (t g : Nat) (w : World) (h : Tab w t g 2 bs1) : Calls Try.prog 12 #[.pointer (some ⟨t, 0, none⟩), .agg #[.int .i64 0, .int .i64 3, .int .i64 1]] w fun e w' => e = .returned (.tuple #[.agg #[.int .i64 2, .int .i64 0, .int .i64 0], .bool true]) ∧ Below w.heap.size w w' := by
  have := look_any t g 2 bs1 0 3 1 w h
  rw [lk1] at this
  exact this
theorem look2 (t g : Nat) (w : World) (h : Tab w t g 2 bs2) : Calls Try.prog 12 #[.pointer (some ⟨t, 0, none⟩), .agg #[.int .i64 0, .int .i64 3, .int .i64 1]] w fun e w' => e = .returned (.tuple #[.agg #[.int .i64 1, .int .i64 1, .int .i64 0], .bool true]) ∧ Below w.heap.size w w' := by
  have := look_any t g 2 bs2 0 3 1 w h
  rw [lk2] at this
  exact this
theorem look3 (t g : Nat) (w : World) (h : Tab w t g 2 bs2) : Calls Try.prog 12 #[.pointer (some ⟨t, 0, none⟩), .agg #[.int .i64 0, .int .i64 4, .int .i64 0]] w fun e w' => e = .returned (.tuple #[.agg #[.int .i64 0, .int .i64 0, .int .i64 0], .bool false]) ∧ Below w.heap.size w w' := by
  have := look_any t g 2 bs2 0 4 0 w h
  rw [lk3] at this
  exact this
theorem set1 (t g : Nat) (w : World) (h : Tab w t g 2 bs1) : Calls Try.prog 11 #[.pointer (some ⟨t, 0, none⟩), .agg #[.int .i64 1, .int .i64 1, .int .i64 0], .bool true] w fun e w' => e = .returned (.int .i64 0) ∧ Tab w' t g 2 bs2 ∧ w.grownBy w' (some g) := by
  have := set_any t g 2 bs1 1 1 0 true w h
  rw [st1.1, if_pos rfl, if_pos rfl, st1.2] at this
  exact this
theorem set2 (t g : Nat) (w : World) (h : Tab w t g 2 bs2) : Calls Try.prog 11 #[.pointer (some ⟨t, 0, none⟩), .agg #[.int .i64 2, .int .i64 0, .int .i64 0], .bool false] w fun e w' => e = .returned (.int .i64 1) ∧ Tab w' t g 2 bs2 ∧ w.grownBy w' (some g) := by
  have := set_any t g 2 bs2 2 0 0 false w h
  rw [st2, if_neg (by decide), if_neg (by decide)] at this
  exact this
theorem there1 (t g : Nat) (w : World) (h : Tab w t g 2 bs2) : Calls Try.prog 14 #[.pointer (some ⟨t, 0, none⟩), .agg #[.int .i64 2, .int .i64 0, .int .i64 0]] w fun e w' => e = .returned (.bool true) ∧ Below w.heap.size w w' := by
  have := there_any t g 2 bs2 2 0 0 w h
  rw [th1] at this
  exact this
theorem there2 (t g : Nat) (w : World) (h : Tab w t g 2 bs2) : Calls Try.prog 14 #[.pointer (some ⟨t, 0, none⟩), .agg #[.int .i64 0, .int .i64 0, .int .i64 0]] w fun e w' => e = .returned (.bool false) ∧ Below w.heap.size w w' := by
  have := there_any t g 2 bs2 0 0 0 w h
  rw [th2] at this
  exact this
/-- a world behind a turn of a block that was laid since -/
theorem below_turn {w X Y : World} {g : Nat} (h : Below w.heap.size w X) (hg : X.grownBy Y (some g)) (hl : w.heap.size ≤ g) : Below w.heap.size w Y :=
  h.grown hg h.size (fun j hj => by injection hj with hj; omega)
theorem blk_turn {X Y : World} {g k : Nat} {o : Obj} (h : blk X k = some o) (hg : X.grownBy Y (some g)) (hk : k ≠ g) : blk Y k = some o :=
  (hg.block k (blk_lt h) (fun e => hk (by injection e))).trans h
set_option maxHeartbeats 4000000 in
theorem awake_any (w : World) : Calls Try.prog 6 #[] w fun e w' => e = .returned (.bool true) ∧ Below w.heap.size w w' := by
  go_enter Try.func6, Try.ntmps6
  go_wp2_with fail
  refine (new_any 2 (by omega) _).mono ?_
  rintro e w1 ⟨⟨t, g, rfl, ht, hg, hT⟩, hb1⟩
  replace hT : Tab w1 t g 2 bs1 := hT
  have L1 : Below w.heap.size w w1 := by repeat' (first | (with_reducible exact Below.refl _ _) | (with_reducible refine Rd.below_step ?_ (by assumption)) | (with_reducible refine Rd.below_alloc ?_ _) | (with_reducible refine Rd.below_drewN ?_ _) | (with_reducible refine Below.drew ?_) | (with_reducible refine Below.setCell ?_ ?_ _) | (with_reducible refine Rd.below_setRow ?_ ?_ _) | go_size | (simp only [World.size_alloc]; omega) | omega)
  clear hb1
  go_wp2_with fail
  refine (new_no 4 (by decide) _).mono ?_
  rintro e w2 ⟨rfl, hb2⟩
  replace hT := hT.bel hb2
  have L2 : Below w.heap.size w w2 := by repeat' (first | (with_reducible exact Below.refl _ _) | (with_reducible refine Rd.below_step ?_ (by assumption)) | (with_reducible refine Rd.below_alloc ?_ _) | (with_reducible refine Rd.below_drewN ?_ _) | (with_reducible refine Below.drew ?_) | (with_reducible refine Below.setCell ?_ ?_ _) | (with_reducible refine Rd.below_setRow ?_ ?_ _) | go_size | (simp only [World.size_alloc]; omega) | omega)
  clear hb2 L1
  go_wp2_with fail
  refine (look1 t g _ hT).mono ?_
  rintro e w3 ⟨rfl, hb3⟩
  replace hT := hT.bel hb3
  have L3 : Below w.heap.size w w3 := by repeat' (first | (with_reducible exact Below.refl _ _) | (with_reducible refine Rd.below_step ?_ (by assumption)) | (with_reducible refine Rd.below_alloc ?_ _) | (with_reducible refine Rd.below_drewN ?_ _) | (with_reducible refine Below.drew ?_) | (with_reducible refine Below.setCell ?_ ?_ _) | (with_reducible refine Rd.below_setRow ?_ ?_ _) | go_size | (simp only [World.size_alloc]; omega) | omega)
  clear hb3 L2
  go_upto_region 6 with (fail)
  refine Rd.name_world ?_
  intro w4 hw
  have bA : blk w4 w3.heap.size = some (.cells #[.int .i64 2, .int .i64 0, .int .i64 0] 24 (0, 0)) := by rw [hw]; exact blk_alloc_at _ _ _ rfl
  have hl := hT.lt.2
  have hne : w3.heap.size ≠ g := by omega
  replace hT : Tab w4 t g 2 bs1 := hT.bel (by rw [hw]; repeat' (first | (with_reducible exact Below.refl _ _) | (with_reducible refine Rd.below_step ?_ (by assumption)) | (with_reducible refine Rd.below_alloc ?_ _) | (with_reducible refine Rd.below_drewN ?_ _) | (with_reducible refine Below.drew ?_) | (with_reducible refine Below.setCell ?_ ?_ _) | (with_reducible refine Rd.below_setRow ?_ ?_ _) | go_size | (simp only [World.size_alloc]; omega) | omega))
  have L4 : Below w.heap.size w w4 := by
    rw [hw]
    repeat' (first | (with_reducible exact Below.refl _ _) | (with_reducible refine Rd.below_step ?_ (by assumption)) | (with_reducible refine Rd.below_alloc ?_ _) | (with_reducible refine Rd.below_drewN ?_ _) | (with_reducible refine Below.drew ?_) | (with_reducible refine Below.setCell ?_ ?_ _) | (with_reducible refine Rd.below_setRow ?_ ?_ _) | go_size | (simp only [World.size_alloc]; omega) | omega)
  obtain ⟨ba, hba⟩ : ∃ p, w3.heap.size = p := ⟨_, rfl⟩
  rw [hba] at bA hne ⊢
  clear hw hba L3 hl
  go_wp2_with fail
  refine (set1 t g _ hT).mono ?_
  rintro e w5 ⟨rfl, hT5, hg5⟩
  have L5 : Below w.heap.size w w5 := below_turn L4 hg5 hg
  replace bA := blk_turn bA hg5 hne
  clear hg5 hT L4
  go_wp2_with fail
  refine (look2 t g _ hT5).mono ?_
  rintro e w6 ⟨rfl, hb6⟩
  have hT := hT5.bel hb6
  replace bA := (blk_below hb6 _ (blk_lt bA)).trans bA
  have L6 : Below w.heap.size w w6 := by repeat' (first | (with_reducible exact Below.refl _ _) | (with_reducible refine Rd.below_step ?_ (by assumption)) | (with_reducible refine Rd.below_alloc ?_ _) | (with_reducible refine Rd.below_drewN ?_ _) | (with_reducible refine Below.drew ?_) | (with_reducible refine Below.setCell ?_ ?_ _) | (with_reducible refine Rd.below_setRow ?_ ?_ _) | go_size | (simp only [World.size_alloc]; omega) | omega)
  clear hb6 L5 hT5
  go_upto_region 8 with (fail)
  refine Rd.name_world ?_
  intro w7 hw
  have bB : blk w7 w6.heap.size = some (.cells #[.int .i64 1, .int .i64 1, .int .i64 0] 24 (0, 0)) := by rw [hw]; exact blk_alloc_at _ _ _ rfl
  replace bA : blk w7 ba = some (.cells #[.int .i64 2, .int .i64 0, .int .i64 0] 24 (0, 0)) := by rw [hw]; exact (blk_alloc_old _ _ _ (blk_lt bA)).trans bA
  have hl := hT.lt.2
  have hne2 : w6.heap.size ≠ g := by omega
  replace hT : Tab w7 t g 2 bs2 := hT.bel (by rw [hw]; repeat' (first | (with_reducible exact Below.refl _ _) | (with_reducible refine Rd.below_step ?_ (by assumption)) | (with_reducible refine Rd.below_alloc ?_ _) | (with_reducible refine Rd.below_drewN ?_ _) | (with_reducible refine Below.drew ?_) | (with_reducible refine Below.setCell ?_ ?_ _) | (with_reducible refine Rd.below_setRow ?_ ?_ _) | go_size | (simp only [World.size_alloc]; omega) | omega))
  have L7 : Below w.heap.size w w7 := by
    rw [hw]
    repeat' (first | (with_reducible exact Below.refl _ _) | (with_reducible refine Rd.below_step ?_ (by assumption)) | (with_reducible refine Rd.below_alloc ?_ _) | (with_reducible refine Rd.below_drewN ?_ _) | (with_reducible refine Below.drew ?_) | (with_reducible refine Below.setCell ?_ ?_ _) | (with_reducible refine Rd.below_setRow ?_ ?_ _) | go_size | (simp only [World.size_alloc]; omega) | omega)
  obtain ⟨bb', hbb⟩ : ∃ p, w6.heap.size = p := ⟨_, rfl⟩
  rw [hbb] at bB hne2 ⊢
  clear hw hbb L6 hl
  go_wp2_with fail
  refine (set2 t g _ hT).mono ?_
  rintro e w8 ⟨rfl, hT8, hg8⟩
  have L8 : Below w.heap.size w w8 := below_turn L7 hg8 hg
  replace bA := blk_turn bA hg8 hne
  replace bB := blk_turn bB hg8 hne2
  clear hg8 hT L7 hne hne2
  go_wp2_with fail
  refine (look3 t g _ hT8).mono ?_
  rintro e w9 ⟨rfl, hb9⟩
  have hT := hT8.bel hb9
  replace bA := (blk_below hb9 _ (blk_lt bA)).trans bA
  replace bB := (blk_below hb9 _ (blk_lt bB)).trans bB
  have L9 : Below w.heap.size w w9 := by repeat' (first | (with_reducible exact Below.refl _ _) | (with_reducible refine Rd.below_step ?_ (by assumption)) | (with_reducible refine Rd.below_alloc ?_ _) | (with_reducible refine Rd.below_drewN ?_ _) | (with_reducible refine Below.drew ?_) | (with_reducible refine Below.setCell ?_ ?_ _) | (with_reducible refine Rd.below_setRow ?_ ?_ _) | go_size | (simp only [World.size_alloc]; omega) | omega)
  clear hb9 L8 hT8
  go_upto_region 11 with (fail)
  refine Rd.name_world ?_
  intro w10 hw
  replace bA : blk w10 ba = some (.cells #[.int .i64 2, .int .i64 0, .int .i64 0] 24 (0, 0)) := by rw [hw]; exact (blk_alloc_old _ _ _ (blk_lt bA)).trans bA
  replace bB : blk w10 bb' = some (.cells #[.int .i64 1, .int .i64 1, .int .i64 0] 24 (0, 0)) := by rw [hw]; exact (blk_alloc_old _ _ _ (blk_lt bB)).trans bB
  replace hT : Tab w10 t g 2 bs2 := hT.bel (by rw [hw]; repeat' (first | (with_reducible exact Below.refl _ _) | (with_reducible refine Rd.below_step ?_ (by assumption)) | (with_reducible refine Rd.below_alloc ?_ _) | (with_reducible refine Rd.below_drewN ?_ _) | (with_reducible refine Below.drew ?_) | (with_reducible refine Below.setCell ?_ ?_ _) | (with_reducible refine Rd.below_setRow ?_ ?_ _) | go_size | (simp only [World.size_alloc]; omega) | omega))
  have L10 : Below w.heap.size w w10 := by
    rw [hw]
    repeat' (first | (with_reducible exact Below.refl _ _) | (with_reducible refine Rd.below_step ?_ (by assumption)) | (with_reducible refine Rd.below_alloc ?_ _) | (with_reducible refine Rd.below_drewN ?_ _) | (with_reducible refine Below.drew ?_) | (with_reducible refine Below.setCell ?_ ?_ _) | (with_reducible refine Rd.below_setRow ?_ ?_ _) | go_size | (simp only [World.size_alloc]; omega) | omega)
  clear hw L9
  have a0 : w10.cell? ⟨ba, 0, none⟩ = some (.int .i64 2) := by rw [blk_cell bA]; rfl
  have a1 : w10.cell? ⟨ba, 1, none⟩ = some (.int .i64 0) := by rw [blk_cell bA]; rfl
  have a2 : w10.cell? ⟨ba, 2, none⟩ = some (.int .i64 0) := by rw [blk_cell bA]; rfl
  have b0 : w10.cell? ⟨bb', 0, none⟩ = some (.int .i64 1) := by rw [blk_cell bB]; rfl
  have b1 : w10.cell? ⟨bb', 1, none⟩ = some (.int .i64 1) := by rw [blk_cell bB]; rfl
  have b2 : w10.cell? ⟨bb', 2, none⟩ = some (.int .i64 0) := by rw [blk_cell bB]; rfl
  have d1 : eqL [2, 0, 0] [2, 0, 0] = true := decide_eq_true rfl
  have d2 : eqL [1, 1, 0] [1, 1, 0] = true := decide_eq_true rfl
  go_wp2_with fail
  refine (there1 t g _ hT).mono ?_
  rintro e w11 ⟨rfl, hb11⟩
  replace hT := hT.bel hb11
  have L11 : Below w.heap.size w w11 := by repeat' (first | (with_reducible exact Below.refl _ _) | (with_reducible refine Rd.below_step ?_ (by assumption)) | (with_reducible refine Rd.below_alloc ?_ _) | (with_reducible refine Rd.below_drewN ?_ _) | (with_reducible refine Below.drew ?_) | (with_reducible refine Below.setCell ?_ ?_ _) | (with_reducible refine Rd.below_setRow ?_ ?_ _) | go_size | (simp only [World.size_alloc]; omega) | omega)
  clear hb11 L10 a0 a1 a2 b0 b1 b2 bA bB
  go_wp2_with fail
  refine (there2 t g _ hT).mono ?_
  rintro e w12 ⟨rfl, hb12⟩
  have L12 : Below w.heap.size w w12 := by repeat' (first | (with_reducible exact Below.refl _ _) | (with_reducible refine Rd.below_step ?_ (by assumption)) | (with_reducible refine Rd.below_alloc ?_ _) | (with_reducible refine Rd.below_drewN ?_ _) | (with_reducible refine Below.drew ?_) | (with_reducible refine Below.setCell ?_ ?_ _) | (with_reducible refine Rd.below_setRow ?_ ?_ _) | go_size | (simp only [World.size_alloc]; omega) | omega)
  clear hb12 L11
  go_wp2_with fail
  refine (set_nil 0 0 0 true _).mono ?_
  rintro e w13 ⟨rfl, hb13⟩
  have L13 : Below w.heap.size w w13 := by repeat' (first | (with_reducible exact Below.refl _ _) | (with_reducible refine Rd.below_step ?_ (by assumption)) | (with_reducible refine Rd.below_alloc ?_ _) | (with_reducible refine Rd.below_drewN ?_ _) | (with_reducible refine Below.drew ?_) | (with_reducible refine Below.setCell ?_ ?_ _) | (with_reducible refine Rd.below_setRow ?_ ?_ _) | go_size | (simp only [World.size_alloc]; omega) | omega)
  clear hb13 L12
  go_wp2_with fail
  refine (there_nil 0 0 0 _).mono ?_
  rintro e w14 ⟨rfl, hb14⟩
  have L14 : Below w.heap.size w w14 := by repeat' (first | (with_reducible exact Below.refl _ _) | (with_reducible refine Rd.below_step ?_ (by assumption)) | (with_reducible refine Rd.below_alloc ?_ _) | (with_reducible refine Rd.below_drewN ?_ _) | (with_reducible refine Below.drew ?_) | (with_reducible refine Below.setCell ?_ ?_ _) | (with_reducible refine Rd.below_setRow ?_ ?_ _) | go_size | (simp only [World.size_alloc]; omega) | omega)
  clear hb14 L13
  go_wp2
  go_ret
  exact ⟨rfl, L14⟩
end Go.Proofs.Ytikoajlncdcbcaa.TbE
