/-
  The law of package super: the newer one of two.
-/
import Derived.Test.YtbicgcnlijgjmaaSupD
import Derived.Test.YtbicgcnlijgjmaaFlat
namespace Go.Proofs.Ytbicgcnlijgjmaa.SupE
open Go.RowKit Rd Go.Proofs.Ytbicgcnlijgjmaa.Row OctA OctB SupA SupB SupC SupD
open CrcA (tblL tblL_len tblL_at tblF byteN)
open CrcB (onV onF onF_lt)
open Go.Proofs.Ytbicgcnlijgjmaa.Pred (Is is_stab Stab)
set_option linter.unusedVariables false
set_option linter.unusedSimpArgs false
set_option maxRecDepth 100000
attribute [local go_sem ↓] CrcA.load_tbl CrcA.store_tbl load_sup store_sup alloc_sup eq_sup
attribute [local go_sem] CrcA.run_load_tbl CrcA.run_store_tbl run_alloc_sup run_load_sup run_store_sup rowLoad_eq rowStore_eq blk_alloc_at blk_alloc_old blk_drew blk_drewN blk_set_far blk_set_far' blk_grow setRow_alloc_at setRow_alloc_old setRow_drew setRow_drewN all_map one_int blkV_size blkV_all blkV_all6 zeroB_size zeroB_all6 one_bool
attribute [local go_sem ↓] CrcA.alloc_tbl
attribute [local go_sem] CrcA.run_alloc_tbl
set_option maxHeartbeats 4000000 in
theorem SuperNewer_walk (a0_0 : Int) (a0_1 : Int) (a0_2 : Bool) (a0_3 : Int) (a0_4 : Int) (a0_5 : Int) (a1_0 : Int) (a1_1 : Int) (a1_2 : Bool) (a1_3 : Int) (a1_4 : Int) (a1_5 : Int) (a2 : Bool) (a3 : Bool) (w : World) (w0_0 : (Lit.int .i64 a0_0).wf = true) (w0_1 : (Lit.int .i64 a0_1).wf = true) (w0_3 : (Lit.int .i64 a0_3).wf = true) (w0_4 : (Lit.int .i64 a0_4).wf = true) (w0_5 : (Lit.int .u32 a0_5).wf = true) (w1_0 : (Lit.int .i64 a1_0).wf = true) (w1_1 : (Lit.int .i64 a1_1).wf = true) (w1_3 : (Lit.int .i64 a1_3).wf = true) (w1_4 : (Lit.int .i64 a1_4).wf = true) (w1_5 : (Lit.int .u32 a1_5).wf = true) :
    Calls Try.prog 5 #[.agg #[.int .i64 a0_0, .int .i64 a0_1, .bool a0_2, .int .i64 a0_3, .int .i64 a0_4, .int .u32 a0_5], .agg #[.int .i64 a1_0, .int .i64 a1_1, .bool a1_2, .int .i64 a1_3, .int .i64 a1_4, .int .u32 a1_5], .bool a2, .bool a3] w fun e w' => e = .returned (.bool true) ∧ Below w.heap.size w w' := by
  show Calls Try.prog _ #[.agg (blkV a0_0 a0_1 a0_2 a0_3 a0_4 a0_5), .agg (blkV a1_0 a1_1 a1_2 a1_3 a1_4 a1_5), .bool a2, .bool a3] w _
  clear w0_0 w0_1 w0_3 w0_4 w0_5 w1_0 w1_1 w1_3 w1_4 w1_5
  cases a2 <;> cases a3
  case false.false =>
    have nA : newV a0_0 a1_0 false false = -1 := by simp [newV]
    have nB : newV a1_0 a0_0 false false = -1 := by simp [newV]
    have NA := Lib.hid nA
    have NB := Lib.hid nB
    clear nA nB
    go_enter Try.func5, Try.ntmps5
    go_upto_region 1 with (fail)
    refine Rd.name_world ?_
    intro W hW
    have x0 : blk W w.heap.size = some (.cells (blkV a0_0 a0_1 a0_2 a0_3 a0_4 a0_5) 24 (0, 0)) := by rw [hW]; exact blk2_0 w _ _
    have y0 : blk W (w.heap.size + 1) = some (.cells (blkV a1_0 a1_1 a1_2 a1_3 a1_4 a1_5) 24 (0, 0)) := by rw [hW]; exact blk2_1 w _ _
    have L1 : Below w.heap.size w W := by rw [hW]; repeat' (first | (with_reducible exact Below.refl _ _) | (with_reducible refine Rd.below_step ?_ (by assumption)) | (with_reducible refine Rd.below_alloc ?_ _) | (with_reducible refine Rd.below_drewN ?_ _) | (with_reducible refine Below.drew ?_) | (with_reducible refine Below.setCell ?_ ?_ _) | (with_reducible refine Rd.below_setRow ?_ ?_ _) | go_size | (simp only [World.size_alloc]; omega) | omega)
    clear hW
    have l1 := blk_lt x0
    have l2 := blk_lt y0
    refine Pred.region_vals (Pred.Of [
        Is (.agg (blkV a0_0 a0_1 a0_2 a0_3 a0_4 a0_5)),
        Is (.agg (blkV a1_0 a1_1 a1_2 a1_3 a1_4 a1_5)),
        Is (.bool false),
        Is (.bool false),
        Is (.int .i64 (-1)),
        Is (.agg (blkV a1_0 a1_1 a1_2 a1_3 a1_4 a1_5)),
        Is (.agg (blkV a0_0 a0_1 a0_2 a0_3 a0_4 a0_5)),
        Is (.bool false),
        Is (.bool false),
        Is (.int .i64 (-1)),
        Is (.int .i64 (-1)),
        Is (.int .i64 (-1))]) (by kernel_rfl) (by kernel_rfl) (by kernel_rfl) (Pred.of_stab ?_) ?_ ?_
    · exact ⟨is_stab _, is_stab _, is_stab _, is_stab _, is_stab _, is_stab _, is_stab _, is_stab _, is_stab _, is_stab _, is_stab _, is_stab _, trivial⟩
    · refine ⟨?_, ?_, ?_, ?_, ?_, ?_, ?_, ?_, ?_, ?_, ?_, ?_, trivial⟩
      · intro b X hE hd hn hV
        have r4 : b.tmps[4]?.getD undef = .pointer (some ⟨w.heap.size, 0, none⟩) := (hn 4 (by kernel_rfl)).trans rfl
        have q := (blk_below hE _ l1).trans x0
        exact Pred.yields_run (v := .agg (blkV a0_0 a0_1 a0_2 a0_3 a0_4 a0_5)) (Pred.wanted_none rfl) (by go_simp) ⟨Pred.ext_refl _ _, rfl⟩
      · intro b X hE hd hn hV
        have r5 : b.tmps[5]?.getD undef = .pointer (some ⟨w.heap.size + 1, 0, none⟩) := (hn 5 (by kernel_rfl)).trans rfl
        have q := (blk_below hE _ l2).trans y0
        exact Pred.yields_run (v := .agg (blkV a1_0 a1_1 a1_2 a1_3 a1_4 a1_5)) (Pred.wanted_none rfl) (by go_simp) ⟨Pred.ext_refl _ _, rfl⟩
      · intro b X hE hd hn hV
        have r2 : b.tmps[2]?.getD undef = .bool false := (hn 2 (by kernel_rfl)).trans rfl
        exact Pred.yields_run (v := .bool false) (Pred.wanted_none rfl) (by go_simp) ⟨Pred.ext_refl _ _, rfl⟩
      · intro b X hE hd hn hV
        have r3 : b.tmps[3]?.getD undef = .bool false := (hn 3 (by kernel_rfl)).trans rfl
        exact Pred.yields_run (v := .bool false) (Pred.wanted_none rfl) (by go_simp) ⟨Pred.ext_refl _ _, rfl⟩
      · intro b X hE hd hn hV
        have r13 : b.tmps[13]?.getD undef = .agg (blkV a0_0 a0_1 a0_2 a0_3 a0_4 a0_5) := hV 0 _ 13 rfl rfl (Pred.waits_near (by kernel_rfl) (by kernel_rfl))
        have r14 : b.tmps[14]?.getD undef = .agg (blkV a1_0 a1_1 a1_2 a1_3 a1_4 a1_5) := hV 1 _ 14 rfl rfl (Pred.waits_near (by kernel_rfl) (by kernel_rfl))
        have r15 : b.tmps[15]?.getD undef = .bool false := hV 2 _ 15 rfl rfl (Pred.waits_near (by kernel_rfl) (by kernel_rfl))
        have r16 : b.tmps[16]?.getD undef = .bool false := hV 3 _ 16 rfl rfl (Pred.waits_near (by kernel_rfl) (by kernel_rfl))
        refine Pred.yields_call (f := 15) (args := #[.agg (blkV a0_0 a0_1 a0_2 a0_3 a0_4 a0_5), .agg (blkV a1_0 a1_1 a1_2 a1_3 a1_4 a1_5), .bool false, .bool false]) (Pred.wanted_none rfl) (by go_simp) ?_
        exact (newer_any _ _ _ _ _ _ _ _ _ _ _ _ _ _ _).mono fun e w2 ⟨he, hb⟩ => ⟨_, he, Pred.ext_below hb hE.size, by show Value.int .i64 _ = _; rw [NA.out]⟩
      · intro b X hE hd hn hV
        have r5 : b.tmps[5]?.getD undef = .pointer (some ⟨w.heap.size + 1, 0, none⟩) := (hn 5 (by kernel_rfl)).trans rfl
        have q := (blk_below hE _ l2).trans y0
        exact Pred.yields_run (v := .agg (blkV a1_0 a1_1 a1_2 a1_3 a1_4 a1_5)) (Pred.wanted_none rfl) (by go_simp) ⟨Pred.ext_refl _ _, rfl⟩
      · intro b X hE hd hn hV
        have r4 : b.tmps[4]?.getD undef = .pointer (some ⟨w.heap.size, 0, none⟩) := (hn 4 (by kernel_rfl)).trans rfl
        have q := (blk_below hE _ l1).trans x0
        exact Pred.yields_run (v := .agg (blkV a0_0 a0_1 a0_2 a0_3 a0_4 a0_5)) (Pred.wanted_none rfl) (by go_simp) ⟨Pred.ext_refl _ _, rfl⟩
      · intro b X hE hd hn hV
        have r3 : b.tmps[3]?.getD undef = .bool false := (hn 3 (by kernel_rfl)).trans rfl
        exact Pred.yields_run (v := .bool false) (Pred.wanted_none rfl) (by go_simp) ⟨Pred.ext_refl _ _, rfl⟩
      · intro b X hE hd hn hV
        have r2 : b.tmps[2]?.getD undef = .bool false := (hn 2 (by kernel_rfl)).trans rfl
        exact Pred.yields_run (v := .bool false) (Pred.wanted_none rfl) (by go_simp) ⟨Pred.ext_refl _ _, rfl⟩
      · intro b X hE hd hn hV
        have r18 : b.tmps[18]?.getD undef = .agg (blkV a1_0 a1_1 a1_2 a1_3 a1_4 a1_5) := hV 5 _ 18 rfl rfl (Pred.waits_near (by kernel_rfl) (by kernel_rfl))
        have r19 : b.tmps[19]?.getD undef = .agg (blkV a0_0 a0_1 a0_2 a0_3 a0_4 a0_5) := hV 6 _ 19 rfl rfl (Pred.waits_near (by kernel_rfl) (by kernel_rfl))
        have r20 : b.tmps[20]?.getD undef = .bool false := hV 7 _ 20 rfl rfl (Pred.waits_near (by kernel_rfl) (by kernel_rfl))
        have r21 : b.tmps[21]?.getD undef = .bool false := hV 8 _ 21 rfl rfl (Pred.waits_near (by kernel_rfl) (by kernel_rfl))
        refine Pred.yields_call (f := 15) (args := #[.agg (blkV a1_0 a1_1 a1_2 a1_3 a1_4 a1_5), .agg (blkV a0_0 a0_1 a0_2 a0_3 a0_4 a0_5), .bool false, .bool false]) (Pred.wanted_none rfl) (by go_simp) ?_
        exact (newer_any _ _ _ _ _ _ _ _ _ _ _ _ _ _ _).mono fun e w2 ⟨he, hb⟩ => ⟨_, he, Pred.ext_below hb hE.size, by show Value.int .i64 _ = _; rw [NB.out]⟩
      · intro b X hE hd hn hV
        have r17 : b.tmps[17]?.getD undef = .int .i64 (-1) := hV 4 _ 17 rfl rfl (Pred.waits_near (by kernel_rfl) (by kernel_rfl))
        exact Pred.yields_run (v := .int .i64 (-1)) (Pred.wanted_none rfl) (by go_simp) ⟨Pred.ext_refl _ _, rfl⟩
      · intro b X hE hd hn hV
        have r22 : b.tmps[22]?.getD undef = .int .i64 (-1) := hV 9 _ 22 rfl rfl (Pred.waits_near (by kernel_rfl) (by kernel_rfl))
        exact Pred.yields_run (v := .int .i64 (-1)) (Pred.wanted_none rfl) (by go_simp) ⟨Pred.ext_refl _ _, rfl⟩
    intro v X hE hv
    have e0 : v 0 = .agg (blkV a0_0 a0_1 a0_2 a0_3 a0_4 a0_5) := hv 0 _ 13 rfl rfl
    have e1 : v 1 = .agg (blkV a1_0 a1_1 a1_2 a1_3 a1_4 a1_5) := hv 1 _ 14 rfl rfl
    have e2 : v 2 = .bool false := hv 2 _ 15 rfl rfl
    have e3 : v 3 = .bool false := hv 3 _ 16 rfl rfl
    have e4 : v 4 = .int .i64 (-1) := hv 4 _ 17 rfl rfl
    have e5 : v 5 = .agg (blkV a1_0 a1_1 a1_2 a1_3 a1_4 a1_5) := hv 5 _ 18 rfl rfl
    have e6 : v 6 = .agg (blkV a0_0 a0_1 a0_2 a0_3 a0_4 a0_5) := hv 6 _ 19 rfl rfl
    have e7 : v 7 = .bool false := hv 7 _ 20 rfl rfl
    have e8 : v 8 = .bool false := hv 8 _ 21 rfl rfl
    have e9 : v 9 = .int .i64 (-1) := hv 9 _ 22 rfl rfl
    have e10 : v 10 = .int .i64 (-1) := hv 10 _ 9 rfl rfl
    have e11 : v 11 = .int .i64 (-1) := hv 11 _ 10 rfl rfl
    simp only [Pred.putsF_cons, Pred.putsF_nil, Nat.zero_add, Nat.reduceAdd, e0, e1, e2, e3, e4, e5, e6, e7, e8, e9, e10, e11, Act.put, List.setIfInBounds_toArray, List.set_cons_zero, List.set_cons_succ]
    clear e0 e1 e2 e3 e4 e5 e6 e7 e8 e9 e10 e11 hv
    have x1 := (blk_below hE _ l1).trans x0
    have y1 := (blk_below hE _ l2).trans y0
    have s1 := hE.size
    have sW := L1.size
    have L2 : Below w.heap.size w X := L1.trans (hE.mono sW)
    have c0 := blk_cell x1 0
    have c1 := blk_cell y1 0
    unfold blkV at c0 c1
    simp only [List.getElem?_toArray, List.getElem?_cons_zero] at c0 c1
    have m1 := blk_lt x1
    have m2 := blk_lt y1
    clear hE x0 y0 L1 l1 l2 x1 y1 NA NB
    go_wp2_with (go_at_call 6; refine (awake_any _).mono ?_; rintro e Z ⟨rfl, hb⟩)
    go_ret
    exact ⟨rfl, by repeat' (first | (with_reducible exact Below.refl _ _) | (with_reducible refine Rd.below_step ?_ (by assumption)) | (with_reducible refine Rd.below_alloc ?_ _) | (with_reducible refine Rd.below_drewN ?_ _) | (with_reducible refine Below.drew ?_) | (with_reducible refine Below.setCell ?_ ?_ _) | (with_reducible refine Rd.below_setRow ?_ ?_ _) | go_size | (simp only [World.size_alloc]; omega) | omega)⟩
  case false.true =>
    have nA : newV a0_0 a1_0 false true = 1 := by simp [newV]
    have nB : newV a1_0 a0_0 true false = 0 := by simp [newV]
    have NA := Lib.hid nA
    have NB := Lib.hid nB
    clear nA nB
    go_enter Try.func5, Try.ntmps5
    go_upto_region 1 with (fail)
    refine Rd.name_world ?_
    intro W hW
    have x0 : blk W w.heap.size = some (.cells (blkV a0_0 a0_1 a0_2 a0_3 a0_4 a0_5) 24 (0, 0)) := by rw [hW]; exact blk2_0 w _ _
    have y0 : blk W (w.heap.size + 1) = some (.cells (blkV a1_0 a1_1 a1_2 a1_3 a1_4 a1_5) 24 (0, 0)) := by rw [hW]; exact blk2_1 w _ _
    have L1 : Below w.heap.size w W := by rw [hW]; repeat' (first | (with_reducible exact Below.refl _ _) | (with_reducible refine Rd.below_step ?_ (by assumption)) | (with_reducible refine Rd.below_alloc ?_ _) | (with_reducible refine Rd.below_drewN ?_ _) | (with_reducible refine Below.drew ?_) | (with_reducible refine Below.setCell ?_ ?_ _) | (with_reducible refine Rd.below_setRow ?_ ?_ _) | go_size | (simp only [World.size_alloc]; omega) | omega)
    clear hW
    have l1 := blk_lt x0
    have l2 := blk_lt y0
    refine Pred.region_vals (Pred.Of [
        Is (.agg (blkV a0_0 a0_1 a0_2 a0_3 a0_4 a0_5)),
        Is (.agg (blkV a1_0 a1_1 a1_2 a1_3 a1_4 a1_5)),
        Is (.bool false),
        Is (.bool true),
        Is (.int .i64 (1)),
        Is (.agg (blkV a1_0 a1_1 a1_2 a1_3 a1_4 a1_5)),
        Is (.agg (blkV a0_0 a0_1 a0_2 a0_3 a0_4 a0_5)),
        Is (.bool true),
        Is (.bool false),
        Is (.int .i64 (0)),
        Is (.int .i64 (1)),
        Is (.int .i64 (0))]) (by kernel_rfl) (by kernel_rfl) (by kernel_rfl) (Pred.of_stab ?_) ?_ ?_
    · exact ⟨is_stab _, is_stab _, is_stab _, is_stab _, is_stab _, is_stab _, is_stab _, is_stab _, is_stab _, is_stab _, is_stab _, is_stab _, trivial⟩
    · refine ⟨?_, ?_, ?_, ?_, ?_, ?_, ?_, ?_, ?_, ?_, ?_, ?_, trivial⟩
      · intro b X hE hd hn hV
        have r4 : b.tmps[4]?.getD undef = .pointer (some ⟨w.heap.size, 0, none⟩) := (hn 4 (by kernel_rfl)).trans rfl
        have q := (blk_below hE _ l1).trans x0
        exact Pred.yields_run (v := .agg (blkV a0_0 a0_1 a0_2 a0_3 a0_4 a0_5)) (Pred.wanted_none rfl) (by go_simp) ⟨Pred.ext_refl _ _, rfl⟩
      · intro b X hE hd hn hV
        have r5 : b.tmps[5]?.getD undef = .pointer (some ⟨w.heap.size + 1, 0, none⟩) := (hn 5 (by kernel_rfl)).trans rfl
        have q := (blk_below hE _ l2).trans y0
        exact Pred.yields_run (v := .agg (blkV a1_0 a1_1 a1_2 a1_3 a1_4 a1_5)) (Pred.wanted_none rfl) (by go_simp) ⟨Pred.ext_refl _ _, rfl⟩
      · intro b X hE hd hn hV
        have r2 : b.tmps[2]?.getD undef = .bool false := (hn 2 (by kernel_rfl)).trans rfl
        exact Pred.yields_run (v := .bool false) (Pred.wanted_none rfl) (by go_simp) ⟨Pred.ext_refl _ _, rfl⟩
      · intro b X hE hd hn hV
        have r3 : b.tmps[3]?.getD undef = .bool true := (hn 3 (by kernel_rfl)).trans rfl
        exact Pred.yields_run (v := .bool true) (Pred.wanted_none rfl) (by go_simp) ⟨Pred.ext_refl _ _, rfl⟩
      · intro b X hE hd hn hV
        have r13 : b.tmps[13]?.getD undef = .agg (blkV a0_0 a0_1 a0_2 a0_3 a0_4 a0_5) := hV 0 _ 13 rfl rfl (Pred.waits_near (by kernel_rfl) (by kernel_rfl))
        have r14 : b.tmps[14]?.getD undef = .agg (blkV a1_0 a1_1 a1_2 a1_3 a1_4 a1_5) := hV 1 _ 14 rfl rfl (Pred.waits_near (by kernel_rfl) (by kernel_rfl))
        have r15 : b.tmps[15]?.getD undef = .bool false := hV 2 _ 15 rfl rfl (Pred.waits_near (by kernel_rfl) (by kernel_rfl))
        have r16 : b.tmps[16]?.getD undef = .bool true := hV 3 _ 16 rfl rfl (Pred.waits_near (by kernel_rfl) (by kernel_rfl))
        refine Pred.yields_call (f := 15) (args := #[.agg (blkV a0_0 a0_1 a0_2 a0_3 a0_4 a0_5), .agg (blkV a1_0 a1_1 a1_2 a1_3 a1_4 a1_5), .bool false, .bool true]) (Pred.wanted_none rfl) (by go_simp) ?_
        exact (newer_any _ _ _ _ _ _ _ _ _ _ _ _ _ _ _).mono fun e w2 ⟨he, hb⟩ => ⟨_, he, Pred.ext_below hb hE.size, by show Value.int .i64 _ = _; rw [NA.out]⟩
      · intro b X hE hd hn hV
        have r5 : b.tmps[5]?.getD undef = .pointer (some ⟨w.heap.size + 1, 0, none⟩) := (hn 5 (by kernel_rfl)).trans rfl
        have q := (blk_below hE _ l2).trans y0
        exact Pred.yields_run (v := .agg (blkV a1_0 a1_1 a1_2 a1_3 a1_4 a1_5)) (Pred.wanted_none rfl) (by go_simp) ⟨Pred.ext_refl _ _, rfl⟩
      · intro b X hE hd hn hV
        have r4 : b.tmps[4]?.getD undef = .pointer (some ⟨w.heap.size, 0, none⟩) := (hn 4 (by kernel_rfl)).trans rfl
        have q := (blk_below hE _ l1).trans x0
        exact Pred.yields_run (v := .agg (blkV a0_0 a0_1 a0_2 a0_3 a0_4 a0_5)) (Pred.wanted_none rfl) (by go_simp) ⟨Pred.ext_refl _ _, rfl⟩
      · intro b X hE hd hn hV
        have r3 : b.tmps[3]?.getD undef = .bool true := (hn 3 (by kernel_rfl)).trans rfl
        exact Pred.yields_run (v := .bool true) (Pred.wanted_none rfl) (by go_simp) ⟨Pred.ext_refl _ _, rfl⟩
      · intro b X hE hd hn hV
        have r2 : b.tmps[2]?.getD undef = .bool false := (hn 2 (by kernel_rfl)).trans rfl
        exact Pred.yields_run (v := .bool false) (Pred.wanted_none rfl) (by go_simp) ⟨Pred.ext_refl _ _, rfl⟩
      · intro b X hE hd hn hV
        have r18 : b.tmps[18]?.getD undef = .agg (blkV a1_0 a1_1 a1_2 a1_3 a1_4 a1_5) := hV 5 _ 18 rfl rfl (Pred.waits_near (by kernel_rfl) (by kernel_rfl))
        have r19 : b.tmps[19]?.getD undef = .agg (blkV a0_0 a0_1 a0_2 a0_3 a0_4 a0_5) := hV 6 _ 19 rfl rfl (Pred.waits_near (by kernel_rfl) (by kernel_rfl))
        have r20 : b.tmps[20]?.getD undef = .bool true := hV 7 _ 20 rfl rfl (Pred.waits_near (by kernel_rfl) (by kernel_rfl))
        have r21 : b.tmps[21]?.getD undef = .bool false := hV 8 _ 21 rfl rfl (Pred.waits_near (by kernel_rfl) (by kernel_rfl))
        refine Pred.yields_call (f := 15) (args := #[.agg (blkV a1_0 a1_1 a1_2 a1_3 a1_4 a1_5), .agg (blkV a0_0 a0_1 a0_2 a0_3 a0_4 a0_5), .bool true, .bool false]) (Pred.wanted_none rfl) (by go_simp) ?_
        exact (newer_any _ _ _ _ _ _ _ _ _ _ _ _ _ _ _).mono fun e w2 ⟨he, hb⟩ => ⟨_, he, Pred.ext_below hb hE.size, by show Value.int .i64 _ = _; rw [NB.out]⟩
      · intro b X hE hd hn hV
        have r17 : b.tmps[17]?.getD undef = .int .i64 (1) := hV 4 _ 17 rfl rfl (Pred.waits_near (by kernel_rfl) (by kernel_rfl))
        exact Pred.yields_run (v := .int .i64 (1)) (Pred.wanted_none rfl) (by go_simp) ⟨Pred.ext_refl _ _, rfl⟩
      · intro b X hE hd hn hV
        have r22 : b.tmps[22]?.getD undef = .int .i64 (0) := hV 9 _ 22 rfl rfl (Pred.waits_near (by kernel_rfl) (by kernel_rfl))
        exact Pred.yields_run (v := .int .i64 (0)) (Pred.wanted_none rfl) (by go_simp) ⟨Pred.ext_refl _ _, rfl⟩
    intro v X hE hv
    have e0 : v 0 = .agg (blkV a0_0 a0_1 a0_2 a0_3 a0_4 a0_5) := hv 0 _ 13 rfl rfl
    have e1 : v 1 = .agg (blkV a1_0 a1_1 a1_2 a1_3 a1_4 a1_5) := hv 1 _ 14 rfl rfl
    have e2 : v 2 = .bool false := hv 2 _ 15 rfl rfl
    have e3 : v 3 = .bool true := hv 3 _ 16 rfl rfl
    have e4 : v 4 = .int .i64 (1) := hv 4 _ 17 rfl rfl
    have e5 : v 5 = .agg (blkV a1_0 a1_1 a1_2 a1_3 a1_4 a1_5) := hv 5 _ 18 rfl rfl
    have e6 : v 6 = .agg (blkV a0_0 a0_1 a0_2 a0_3 a0_4 a0_5) := hv 6 _ 19 rfl rfl
    have e7 : v 7 = .bool true := hv 7 _ 20 rfl rfl
    have e8 : v 8 = .bool false := hv 8 _ 21 rfl rfl
    have e9 : v 9 = .int .i64 (0) := hv 9 _ 22 rfl rfl
    have e10 : v 10 = .int .i64 (1) := hv 10 _ 9 rfl rfl
    have e11 : v 11 = .int .i64 (0) := hv 11 _ 10 rfl rfl
    simp only [Pred.putsF_cons, Pred.putsF_nil, Nat.zero_add, Nat.reduceAdd, e0, e1, e2, e3, e4, e5, e6, e7, e8, e9, e10, e11, Act.put, List.setIfInBounds_toArray, List.set_cons_zero, List.set_cons_succ]
    clear e0 e1 e2 e3 e4 e5 e6 e7 e8 e9 e10 e11 hv
    have x1 := (blk_below hE _ l1).trans x0
    have y1 := (blk_below hE _ l2).trans y0
    have s1 := hE.size
    have sW := L1.size
    have L2 : Below w.heap.size w X := L1.trans (hE.mono sW)
    have c0 := blk_cell x1 0
    have c1 := blk_cell y1 0
    unfold blkV at c0 c1
    simp only [List.getElem?_toArray, List.getElem?_cons_zero] at c0 c1
    have m1 := blk_lt x1
    have m2 := blk_lt y1
    clear hE x0 y0 L1 l1 l2 x1 y1 NA NB
    go_wp2_with (go_at_call 6; refine (awake_any _).mono ?_; rintro e Z ⟨rfl, hb⟩)
    go_ret
    exact ⟨rfl, by repeat' (first | (with_reducible exact Below.refl _ _) | (with_reducible refine Rd.below_step ?_ (by assumption)) | (with_reducible refine Rd.below_alloc ?_ _) | (with_reducible refine Rd.below_drewN ?_ _) | (with_reducible refine Below.drew ?_) | (with_reducible refine Below.setCell ?_ ?_ _) | (with_reducible refine Rd.below_setRow ?_ ?_ _) | go_size | (simp only [World.size_alloc]; omega) | omega)⟩
  case true.false =>
    have nA : newV a0_0 a1_0 true false = 0 := by simp [newV]
    have nB : newV a1_0 a0_0 false true = 1 := by simp [newV]
    have NA := Lib.hid nA
    have NB := Lib.hid nB
    clear nA nB
    go_enter Try.func5, Try.ntmps5
    go_upto_region 1 with (fail)
    refine Rd.name_world ?_
    intro W hW
    have x0 : blk W w.heap.size = some (.cells (blkV a0_0 a0_1 a0_2 a0_3 a0_4 a0_5) 24 (0, 0)) := by rw [hW]; exact blk2_0 w _ _
    have y0 : blk W (w.heap.size + 1) = some (.cells (blkV a1_0 a1_1 a1_2 a1_3 a1_4 a1_5) 24 (0, 0)) := by rw [hW]; exact blk2_1 w _ _
    have L1 : Below w.heap.size w W := by rw [hW]; repeat' (first | (with_reducible exact Below.refl _ _) | (with_reducible refine Rd.below_step ?_ (by assumption)) | (with_reducible refine Rd.below_alloc ?_ _) | (with_reducible refine Rd.below_drewN ?_ _) | (with_reducible refine Below.drew ?_) | (with_reducible refine Below.setCell ?_ ?_ _) | (with_reducible refine Rd.below_setRow ?_ ?_ _) | go_size | (simp only [World.size_alloc]; omega) | omega)
    clear hW
    have l1 := blk_lt x0
    have l2 := blk_lt y0
    refine Pred.region_vals (Pred.Of [
        Is (.agg (blkV a0_0 a0_1 a0_2 a0_3 a0_4 a0_5)),
        Is (.agg (blkV a1_0 a1_1 a1_2 a1_3 a1_4 a1_5)),
        Is (.bool true),
        Is (.bool false),
        Is (.int .i64 (0)),
        Is (.agg (blkV a1_0 a1_1 a1_2 a1_3 a1_4 a1_5)),
        Is (.agg (blkV a0_0 a0_1 a0_2 a0_3 a0_4 a0_5)),
        Is (.bool false),
        Is (.bool true),
        Is (.int .i64 (1)),
        Is (.int .i64 (0)),
        Is (.int .i64 (1))]) (by kernel_rfl) (by kernel_rfl) (by kernel_rfl) (Pred.of_stab ?_) ?_ ?_
    · exact ⟨is_stab _, is_stab _, is_stab _, is_stab _, is_stab _, is_stab _, is_stab _, is_stab _, is_stab _, is_stab _, is_stab _, is_stab _, trivial⟩
    · refine ⟨?_, ?_, ?_, ?_, ?_, ?_, ?_, ?_, ?_, ?_, ?_, ?_, trivial⟩
      · intro b X hE hd hn hV
        have r4 : b.tmps[4]?.getD undef = .pointer (some ⟨w.heap.size, 0, none⟩) := (hn 4 (by kernel_rfl)).trans rfl
        have q := (blk_below hE _ l1).trans x0
        exact Pred.yields_run (v := .agg (blkV a0_0 a0_1 a0_2 a0_3 a0_4 a0_5)) (Pred.wanted_none rfl) (by go_simp) ⟨Pred.ext_refl _ _, rfl⟩
      · intro b X hE hd hn hV
        have r5 : b.tmps[5]?.getD undef = .pointer (some ⟨w.heap.size + 1, 0, none⟩) := (hn 5 (by kernel_rfl)).trans rfl
        have q := (blk_below hE _ l2).trans y0
        exact Pred.yields_run (v := .agg (blkV a1_0 a1_1 a1_2 a1_3 a1_4 a1_5)) (Pred.wanted_none rfl) (by go_simp) ⟨Pred.ext_refl _ _, rfl⟩
      · intro b X hE hd hn hV
        have r2 : b.tmps[2]?.getD undef = .bool true := (hn 2 (by kernel_rfl)).trans rfl
        exact Pred.yields_run (v := .bool true) (Pred.wanted_none rfl) (by go_simp) ⟨Pred.ext_refl _ _, rfl⟩
      · intro b X hE hd hn hV
        have r3 : b.tmps[3]?.getD undef = .bool false := (hn 3 (by kernel_rfl)).trans rfl
        exact Pred.yields_run (v := .bool false) (Pred.wanted_none rfl) (by go_simp) ⟨Pred.ext_refl _ _, rfl⟩
      · intro b X hE hd hn hV
        have r13 : b.tmps[13]?.getD undef = .agg (blkV a0_0 a0_1 a0_2 a0_3 a0_4 a0_5) := hV 0 _ 13 rfl rfl (Pred.waits_near (by kernel_rfl) (by kernel_rfl))
        have r14 : b.tmps[14]?.getD undef = .agg (blkV a1_0 a1_1 a1_2 a1_3 a1_4 a1_5) := hV 1 _ 14 rfl rfl (Pred.waits_near (by kernel_rfl) (by kernel_rfl))
        have r15 : b.tmps[15]?.getD undef = .bool true := hV 2 _ 15 rfl rfl (Pred.waits_near (by kernel_rfl) (by kernel_rfl))
        have r16 : b.tmps[16]?.getD undef = .bool false := hV 3 _ 16 rfl rfl (Pred.waits_near (by kernel_rfl) (by kernel_rfl))
        refine Pred.yields_call (f := 15) (args := #[.agg (blkV a0_0 a0_1 a0_2 a0_3 a0_4 a0_5), .agg (blkV a1_0 a1_1 a1_2 a1_3 a1_4 a1_5), .bool true, .bool false]) (Pred.wanted_none rfl) (by go_simp) ?_
        exact (newer_any _ _ _ _ _ _ _ _ _ _ _ _ _ _ _).mono fun e w2 ⟨he, hb⟩ => ⟨_, he, Pred.ext_below hb hE.size, by show Value.int .i64 _ = _; rw [NA.out]⟩
      · intro b X hE hd hn hV
        have r5 : b.tmps[5]?.getD undef = .pointer (some ⟨w.heap.size + 1, 0, none⟩) := (hn 5 (by kernel_rfl)).trans rfl
        have q := (blk_below hE _ l2).trans y0
        exact Pred.yields_run (v := .agg (blkV a1_0 a1_1 a1_2 a1_3 a1_4 a1_5)) (Pred.wanted_none rfl) (by go_simp) ⟨Pred.ext_refl _ _, rfl⟩
      · intro b X hE hd hn hV
        have r4 : b.tmps[4]?.getD undef = .pointer (some ⟨w.heap.size, 0, none⟩) := (hn 4 (by kernel_rfl)).trans rfl
        have q := (blk_below hE _ l1).trans x0
        exact Pred.yields_run (v := .agg (blkV a0_0 a0_1 a0_2 a0_3 a0_4 a0_5)) (Pred.wanted_none rfl) (by go_simp) ⟨Pred.ext_refl _ _, rfl⟩
      · intro b X hE hd hn hV
        have r3 : b.tmps[3]?.getD undef = .bool false := (hn 3 (by kernel_rfl)).trans rfl
        exact Pred.yields_run (v := .bool false) (Pred.wanted_none rfl) (by go_simp) ⟨Pred.ext_refl _ _, rfl⟩
      · intro b X hE hd hn hV
        have r2 : b.tmps[2]?.getD undef = .bool true := (hn 2 (by kernel_rfl)).trans rfl
        exact Pred.yields_run (v := .bool true) (Pred.wanted_none rfl) (by go_simp) ⟨Pred.ext_refl _ _, rfl⟩
      · intro b X hE hd hn hV
        have r18 : b.tmps[18]?.getD undef = .agg (blkV a1_0 a1_1 a1_2 a1_3 a1_4 a1_5) := hV 5 _ 18 rfl rfl (Pred.waits_near (by kernel_rfl) (by kernel_rfl))
        have r19 : b.tmps[19]?.getD undef = .agg (blkV a0_0 a0_1 a0_2 a0_3 a0_4 a0_5) := hV 6 _ 19 rfl rfl (Pred.waits_near (by kernel_rfl) (by kernel_rfl))
        have r20 : b.tmps[20]?.getD undef = .bool false := hV 7 _ 20 rfl rfl (Pred.waits_near (by kernel_rfl) (by kernel_rfl))
        have r21 : b.tmps[21]?.getD undef = .bool true := hV 8 _ 21 rfl rfl (Pred.waits_near (by kernel_rfl) (by kernel_rfl))
        refine Pred.yields_call (f := 15) (args := #[.agg (blkV a1_0 a1_1 a1_2 a1_3 a1_4 a1_5), .agg (blkV a0_0 a0_1 a0_2 a0_3 a0_4 a0_5), .bool false, .bool true]) (Pred.wanted_none rfl) (by go_simp) ?_
        exact (newer_any _ _ _ _ _ _ _ _ _ _ _ _ _ _ _).mono fun e w2 ⟨he, hb⟩ => ⟨_, he, Pred.ext_below hb hE.size, by show Value.int .i64 _ = _; rw [NB.out]⟩
      · intro b X hE hd hn hV
        have r17 : b.tmps[17]?.getD undef = .int .i64 (0) := hV 4 _ 17 rfl rfl (Pred.waits_near (by kernel_rfl) (by kernel_rfl))
        exact Pred.yields_run (v := .int .i64 (0)) (Pred.wanted_none rfl) (by go_simp) ⟨Pred.ext_refl _ _, rfl⟩
      · intro b X hE hd hn hV
        have r22 : b.tmps[22]?.getD undef = .int .i64 (1) := hV 9 _ 22 rfl rfl (Pred.waits_near (by kernel_rfl) (by kernel_rfl))
        exact Pred.yields_run (v := .int .i64 (1)) (Pred.wanted_none rfl) (by go_simp) ⟨Pred.ext_refl _ _, rfl⟩
    intro v X hE hv
    have e0 : v 0 = .agg (blkV a0_0 a0_1 a0_2 a0_3 a0_4 a0_5) := hv 0 _ 13 rfl rfl
    have e1 : v 1 = .agg (blkV a1_0 a1_1 a1_2 a1_3 a1_4 a1_5) := hv 1 _ 14 rfl rfl
    have e2 : v 2 = .bool true := hv 2 _ 15 rfl rfl
    have e3 : v 3 = .bool false := hv 3 _ 16 rfl rfl
    have e4 : v 4 = .int .i64 (0) := hv 4 _ 17 rfl rfl
    have e5 : v 5 = .agg (blkV a1_0 a1_1 a1_2 a1_3 a1_4 a1_5) := hv 5 _ 18 rfl rfl
    have e6 : v 6 = .agg (blkV a0_0 a0_1 a0_2 a0_3 a0_4 a0_5) := hv 6 _ 19 rfl rfl
    have e7 : v 7 = .bool false := hv 7 _ 20 rfl rfl
    have e8 : v 8 = .bool true := hv 8 _ 21 rfl rfl
    have e9 : v 9 = .int .i64 (1) := hv 9 _ 22 rfl rfl
    have e10 : v 10 = .int .i64 (0) := hv 10 _ 9 rfl rfl
    have e11 : v 11 = .int .i64 (1) := hv 11 _ 10 rfl rfl
    simp only [Pred.putsF_cons, Pred.putsF_nil, Nat.zero_add, Nat.reduceAdd, e0, e1, e2, e3, e4, e5, e6, e7, e8, e9, e10, e11, Act.put, List.setIfInBounds_toArray, List.set_cons_zero, List.set_cons_succ]
    clear e0 e1 e2 e3 e4 e5 e6 e7 e8 e9 e10 e11 hv
    have x1 := (blk_below hE _ l1).trans x0
    have y1 := (blk_below hE _ l2).trans y0
    have s1 := hE.size
    have sW := L1.size
    have L2 : Below w.heap.size w X := L1.trans (hE.mono sW)
    have c0 := blk_cell x1 0
    have c1 := blk_cell y1 0
    unfold blkV at c0 c1
    simp only [List.getElem?_toArray, List.getElem?_cons_zero] at c0 c1
    have m1 := blk_lt x1
    have m2 := blk_lt y1
    clear hE x0 y0 L1 l1 l2 x1 y1 NA NB
    go_wp2_with (go_at_call 6; refine (awake_any _).mono ?_; rintro e Z ⟨rfl, hb⟩)
    go_ret
    exact ⟨rfl, by repeat' (first | (with_reducible exact Below.refl _ _) | (with_reducible refine Rd.below_step ?_ (by assumption)) | (with_reducible refine Rd.below_alloc ?_ _) | (with_reducible refine Rd.below_drewN ?_ _) | (with_reducible refine Below.drew ?_) | (with_reducible refine Below.setCell ?_ ?_ _) | (with_reducible refine Rd.below_setRow ?_ ?_ _) | go_size | (simp only [World.size_alloc]; omega) | omega)⟩
  case true.true =>
    rcases Int.lt_trichotomy a0_0 a1_0 with hlt | heq | hgt
    · have hne : ¬ a0_0 = a1_0 := by omega
      have nA : newV a0_0 a1_0 true true = 1 := by simp [newV] <;> omega
      have nB : newV a1_0 a0_0 true true = 0 := by simp [newV] <;> omega
      have NA := Lib.hid nA
      have NB := Lib.hid nB
      clear nA nB
      go_enter Try.func5, Try.ntmps5
      go_upto_region 1 with (fail)
      refine Rd.name_world ?_
      intro W hW
      have x0 : blk W w.heap.size = some (.cells (blkV a0_0 a0_1 a0_2 a0_3 a0_4 a0_5) 24 (0, 0)) := by rw [hW]; exact blk2_0 w _ _
      have y0 : blk W (w.heap.size + 1) = some (.cells (blkV a1_0 a1_1 a1_2 a1_3 a1_4 a1_5) 24 (0, 0)) := by rw [hW]; exact blk2_1 w _ _
      have L1 : Below w.heap.size w W := by rw [hW]; repeat' (first | (with_reducible exact Below.refl _ _) | (with_reducible refine Rd.below_step ?_ (by assumption)) | (with_reducible refine Rd.below_alloc ?_ _) | (with_reducible refine Rd.below_drewN ?_ _) | (with_reducible refine Below.drew ?_) | (with_reducible refine Below.setCell ?_ ?_ _) | (with_reducible refine Rd.below_setRow ?_ ?_ _) | go_size | (simp only [World.size_alloc]; omega) | omega)
      clear hW
      have l1 := blk_lt x0
      have l2 := blk_lt y0
      refine Pred.region_vals (Pred.Of [
          Is (.agg (blkV a0_0 a0_1 a0_2 a0_3 a0_4 a0_5)),
          Is (.agg (blkV a1_0 a1_1 a1_2 a1_3 a1_4 a1_5)),
          Is (.bool true),
          Is (.bool true),
          Is (.int .i64 (1)),
          Is (.agg (blkV a1_0 a1_1 a1_2 a1_3 a1_4 a1_5)),
          Is (.agg (blkV a0_0 a0_1 a0_2 a0_3 a0_4 a0_5)),
          Is (.bool true),
          Is (.bool true),
          Is (.int .i64 (0)),
          Is (.int .i64 (1)),
          Is (.int .i64 (0))]) (by kernel_rfl) (by kernel_rfl) (by kernel_rfl) (Pred.of_stab ?_) ?_ ?_
      · exact ⟨is_stab _, is_stab _, is_stab _, is_stab _, is_stab _, is_stab _, is_stab _, is_stab _, is_stab _, is_stab _, is_stab _, is_stab _, trivial⟩
      · refine ⟨?_, ?_, ?_, ?_, ?_, ?_, ?_, ?_, ?_, ?_, ?_, ?_, trivial⟩
        · intro b X hE hd hn hV
          have r4 : b.tmps[4]?.getD undef = .pointer (some ⟨w.heap.size, 0, none⟩) := (hn 4 (by kernel_rfl)).trans rfl
          have q := (blk_below hE _ l1).trans x0
          exact Pred.yields_run (v := .agg (blkV a0_0 a0_1 a0_2 a0_3 a0_4 a0_5)) (Pred.wanted_none rfl) (by go_simp) ⟨Pred.ext_refl _ _, rfl⟩
        · intro b X hE hd hn hV
          have r5 : b.tmps[5]?.getD undef = .pointer (some ⟨w.heap.size + 1, 0, none⟩) := (hn 5 (by kernel_rfl)).trans rfl
          have q := (blk_below hE _ l2).trans y0
          exact Pred.yields_run (v := .agg (blkV a1_0 a1_1 a1_2 a1_3 a1_4 a1_5)) (Pred.wanted_none rfl) (by go_simp) ⟨Pred.ext_refl _ _, rfl⟩
        · intro b X hE hd hn hV
          have r2 : b.tmps[2]?.getD undef = .bool true := (hn 2 (by kernel_rfl)).trans rfl
          exact Pred.yields_run (v := .bool true) (Pred.wanted_none rfl) (by go_simp) ⟨Pred.ext_refl _ _, rfl⟩
        · intro b X hE hd hn hV
          have r3 : b.tmps[3]?.getD undef = .bool true := (hn 3 (by kernel_rfl)).trans rfl
          exact Pred.yields_run (v := .bool true) (Pred.wanted_none rfl) (by go_simp) ⟨Pred.ext_refl _ _, rfl⟩
        · intro b X hE hd hn hV
          have r13 : b.tmps[13]?.getD undef = .agg (blkV a0_0 a0_1 a0_2 a0_3 a0_4 a0_5) := hV 0 _ 13 rfl rfl (Pred.waits_near (by kernel_rfl) (by kernel_rfl))
          have r14 : b.tmps[14]?.getD undef = .agg (blkV a1_0 a1_1 a1_2 a1_3 a1_4 a1_5) := hV 1 _ 14 rfl rfl (Pred.waits_near (by kernel_rfl) (by kernel_rfl))
          have r15 : b.tmps[15]?.getD undef = .bool true := hV 2 _ 15 rfl rfl (Pred.waits_near (by kernel_rfl) (by kernel_rfl))
          have r16 : b.tmps[16]?.getD undef = .bool true := hV 3 _ 16 rfl rfl (Pred.waits_near (by kernel_rfl) (by kernel_rfl))
          refine Pred.yields_call (f := 15) (args := #[.agg (blkV a0_0 a0_1 a0_2 a0_3 a0_4 a0_5), .agg (blkV a1_0 a1_1 a1_2 a1_3 a1_4 a1_5), .bool true, .bool true]) (Pred.wanted_none rfl) (by go_simp) ?_
          exact (newer_any _ _ _ _ _ _ _ _ _ _ _ _ _ _ _).mono fun e w2 ⟨he, hb⟩ => ⟨_, he, Pred.ext_below hb hE.size, by show Value.int .i64 _ = _; rw [NA.out]⟩
        · intro b X hE hd hn hV
          have r5 : b.tmps[5]?.getD undef = .pointer (some ⟨w.heap.size + 1, 0, none⟩) := (hn 5 (by kernel_rfl)).trans rfl
          have q := (blk_below hE _ l2).trans y0
          exact Pred.yields_run (v := .agg (blkV a1_0 a1_1 a1_2 a1_3 a1_4 a1_5)) (Pred.wanted_none rfl) (by go_simp) ⟨Pred.ext_refl _ _, rfl⟩
        · intro b X hE hd hn hV
          have r4 : b.tmps[4]?.getD undef = .pointer (some ⟨w.heap.size, 0, none⟩) := (hn 4 (by kernel_rfl)).trans rfl
          have q := (blk_below hE _ l1).trans x0
          exact Pred.yields_run (v := .agg (blkV a0_0 a0_1 a0_2 a0_3 a0_4 a0_5)) (Pred.wanted_none rfl) (by go_simp) ⟨Pred.ext_refl _ _, rfl⟩
        · intro b X hE hd hn hV
          have r3 : b.tmps[3]?.getD undef = .bool true := (hn 3 (by kernel_rfl)).trans rfl
          exact Pred.yields_run (v := .bool true) (Pred.wanted_none rfl) (by go_simp) ⟨Pred.ext_refl _ _, rfl⟩
        · intro b X hE hd hn hV
          have r2 : b.tmps[2]?.getD undef = .bool true := (hn 2 (by kernel_rfl)).trans rfl
          exact Pred.yields_run (v := .bool true) (Pred.wanted_none rfl) (by go_simp) ⟨Pred.ext_refl _ _, rfl⟩
        · intro b X hE hd hn hV
          have r18 : b.tmps[18]?.getD undef = .agg (blkV a1_0 a1_1 a1_2 a1_3 a1_4 a1_5) := hV 5 _ 18 rfl rfl (Pred.waits_near (by kernel_rfl) (by kernel_rfl))
          have r19 : b.tmps[19]?.getD undef = .agg (blkV a0_0 a0_1 a0_2 a0_3 a0_4 a0_5) := hV 6 _ 19 rfl rfl (Pred.waits_near (by kernel_rfl) (by kernel_rfl))
          have r20 : b.tmps[20]?.getD undef = .bool true := hV 7 _ 20 rfl rfl (Pred.waits_near (by kernel_rfl) (by kernel_rfl))
          have r21 : b.tmps[21]?.getD undef = .bool true := hV 8 _ 21 rfl rfl (Pred.waits_near (by kernel_rfl) (by kernel_rfl))
          refine Pred.yields_call (f := 15) (args := #[.agg (blkV a1_0 a1_1 a1_2 a1_3 a1_4 a1_5), .agg (blkV a0_0 a0_1 a0_2 a0_3 a0_4 a0_5), .bool true, .bool true]) (Pred.wanted_none rfl) (by go_simp) ?_
          exact (newer_any _ _ _ _ _ _ _ _ _ _ _ _ _ _ _).mono fun e w2 ⟨he, hb⟩ => ⟨_, he, Pred.ext_below hb hE.size, by show Value.int .i64 _ = _; rw [NB.out]⟩
        · intro b X hE hd hn hV
          have r17 : b.tmps[17]?.getD undef = .int .i64 (1) := hV 4 _ 17 rfl rfl (Pred.waits_near (by kernel_rfl) (by kernel_rfl))
          exact Pred.yields_run (v := .int .i64 (1)) (Pred.wanted_none rfl) (by go_simp) ⟨Pred.ext_refl _ _, rfl⟩
        · intro b X hE hd hn hV
          have r22 : b.tmps[22]?.getD undef = .int .i64 (0) := hV 9 _ 22 rfl rfl (Pred.waits_near (by kernel_rfl) (by kernel_rfl))
          exact Pred.yields_run (v := .int .i64 (0)) (Pred.wanted_none rfl) (by go_simp) ⟨Pred.ext_refl _ _, rfl⟩
      intro v X hE hv
      have e0 : v 0 = .agg (blkV a0_0 a0_1 a0_2 a0_3 a0_4 a0_5) := hv 0 _ 13 rfl rfl
      have e1 : v 1 = .agg (blkV a1_0 a1_1 a1_2 a1_3 a1_4 a1_5) := hv 1 _ 14 rfl rfl
      have e2 : v 2 = .bool true := hv 2 _ 15 rfl rfl
      have e3 : v 3 = .bool true := hv 3 _ 16 rfl rfl
      have e4 : v 4 = .int .i64 (1) := hv 4 _ 17 rfl rfl
      have e5 : v 5 = .agg (blkV a1_0 a1_1 a1_2 a1_3 a1_4 a1_5) := hv 5 _ 18 rfl rfl
      have e6 : v 6 = .agg (blkV a0_0 a0_1 a0_2 a0_3 a0_4 a0_5) := hv 6 _ 19 rfl rfl
      have e7 : v 7 = .bool true := hv 7 _ 20 rfl rfl
      have e8 : v 8 = .bool true := hv 8 _ 21 rfl rfl
      have e9 : v 9 = .int .i64 (0) := hv 9 _ 22 rfl rfl
      have e10 : v 10 = .int .i64 (1) := hv 10 _ 9 rfl rfl
      have e11 : v 11 = .int .i64 (0) := hv 11 _ 10 rfl rfl
      simp only [Pred.putsF_cons, Pred.putsF_nil, Nat.zero_add, Nat.reduceAdd, e0, e1, e2, e3, e4, e5, e6, e7, e8, e9, e10, e11, Act.put, List.setIfInBounds_toArray, List.set_cons_zero, List.set_cons_succ]
      clear e0 e1 e2 e3 e4 e5 e6 e7 e8 e9 e10 e11 hv
      have x1 := (blk_below hE _ l1).trans x0
      have y1 := (blk_below hE _ l2).trans y0
      have s1 := hE.size
      have sW := L1.size
      have L2 : Below w.heap.size w X := L1.trans (hE.mono sW)
      have c0 := blk_cell x1 0
      have c1 := blk_cell y1 0
      unfold blkV at c0 c1
      simp only [List.getElem?_toArray, List.getElem?_cons_zero] at c0 c1
      have m1 := blk_lt x1
      have m2 := blk_lt y1
      clear hE x0 y0 L1 l1 l2 x1 y1 NA NB
      go_wp2_with (go_at_call 6; refine (awake_any _).mono ?_; rintro e Z ⟨rfl, hb⟩)
      go_ret
      exact ⟨rfl, by repeat' (first | (with_reducible exact Below.refl _ _) | (with_reducible refine Rd.below_step ?_ (by assumption)) | (with_reducible refine Rd.below_alloc ?_ _) | (with_reducible refine Rd.below_drewN ?_ _) | (with_reducible refine Below.drew ?_) | (with_reducible refine Below.setCell ?_ ?_ _) | (with_reducible refine Rd.below_setRow ?_ ?_ _) | go_size | (simp only [World.size_alloc]; omega) | omega)⟩
    · subst heq
      have nA : newV a0_0 a0_0 true true = 0 := by simp [newV] <;> omega
      have nB : newV a0_0 a0_0 true true = 0 := by simp [newV] <;> omega
      have NA := Lib.hid nA
      have NB := Lib.hid nB
      clear nA nB
      go_enter Try.func5, Try.ntmps5
      go_upto_region 1 with (fail)
      refine Rd.name_world ?_
      intro W hW
      have x0 : blk W w.heap.size = some (.cells (blkV a0_0 a0_1 a0_2 a0_3 a0_4 a0_5) 24 (0, 0)) := by rw [hW]; exact blk2_0 w _ _
      have y0 : blk W (w.heap.size + 1) = some (.cells (blkV a0_0 a1_1 a1_2 a1_3 a1_4 a1_5) 24 (0, 0)) := by rw [hW]; exact blk2_1 w _ _
      have L1 : Below w.heap.size w W := by rw [hW]; repeat' (first | (with_reducible exact Below.refl _ _) | (with_reducible refine Rd.below_step ?_ (by assumption)) | (with_reducible refine Rd.below_alloc ?_ _) | (with_reducible refine Rd.below_drewN ?_ _) | (with_reducible refine Below.drew ?_) | (with_reducible refine Below.setCell ?_ ?_ _) | (with_reducible refine Rd.below_setRow ?_ ?_ _) | go_size | (simp only [World.size_alloc]; omega) | omega)
      clear hW
      have l1 := blk_lt x0
      have l2 := blk_lt y0
      refine Pred.region_vals (Pred.Of [
          Is (.agg (blkV a0_0 a0_1 a0_2 a0_3 a0_4 a0_5)),
          Is (.agg (blkV a0_0 a1_1 a1_2 a1_3 a1_4 a1_5)),
          Is (.bool true),
          Is (.bool true),
          Is (.int .i64 (0)),
          Is (.agg (blkV a0_0 a1_1 a1_2 a1_3 a1_4 a1_5)),
          Is (.agg (blkV a0_0 a0_1 a0_2 a0_3 a0_4 a0_5)),
          Is (.bool true),
          Is (.bool true),
          Is (.int .i64 (0)),
          Is (.int .i64 (0)),
          Is (.int .i64 (0))]) (by kernel_rfl) (by kernel_rfl) (by kernel_rfl) (Pred.of_stab ?_) ?_ ?_
      · exact ⟨is_stab _, is_stab _, is_stab _, is_stab _, is_stab _, is_stab _, is_stab _, is_stab _, is_stab _, is_stab _, is_stab _, is_stab _, trivial⟩
      · refine ⟨?_, ?_, ?_, ?_, ?_, ?_, ?_, ?_, ?_, ?_, ?_, ?_, trivial⟩
        · intro b X hE hd hn hV
          have r4 : b.tmps[4]?.getD undef = .pointer (some ⟨w.heap.size, 0, none⟩) := (hn 4 (by kernel_rfl)).trans rfl
          have q := (blk_below hE _ l1).trans x0
          exact Pred.yields_run (v := .agg (blkV a0_0 a0_1 a0_2 a0_3 a0_4 a0_5)) (Pred.wanted_none rfl) (by go_simp) ⟨Pred.ext_refl _ _, rfl⟩
        · intro b X hE hd hn hV
          have r5 : b.tmps[5]?.getD undef = .pointer (some ⟨w.heap.size + 1, 0, none⟩) := (hn 5 (by kernel_rfl)).trans rfl
          have q := (blk_below hE _ l2).trans y0
          exact Pred.yields_run (v := .agg (blkV a0_0 a1_1 a1_2 a1_3 a1_4 a1_5)) (Pred.wanted_none rfl) (by go_simp) ⟨Pred.ext_refl _ _, rfl⟩
        · intro b X hE hd hn hV
          have r2 : b.tmps[2]?.getD undef = .bool true := (hn 2 (by kernel_rfl)).trans rfl
          exact Pred.yields_run (v := .bool true) (Pred.wanted_none rfl) (by go_simp) ⟨Pred.ext_refl _ _, rfl⟩
        · intro b X hE hd hn hV
          have r3 : b.tmps[3]?.getD undef = .bool true := (hn 3 (by kernel_rfl)).trans rfl
          exact Pred.yields_run (v := .bool true) (Pred.wanted_none rfl) (by go_simp) ⟨Pred.ext_refl _ _, rfl⟩
        · intro b X hE hd hn hV
          have r13 : b.tmps[13]?.getD undef = .agg (blkV a0_0 a0_1 a0_2 a0_3 a0_4 a0_5) := hV 0 _ 13 rfl rfl (Pred.waits_near (by kernel_rfl) (by kernel_rfl))
          have r14 : b.tmps[14]?.getD undef = .agg (blkV a0_0 a1_1 a1_2 a1_3 a1_4 a1_5) := hV 1 _ 14 rfl rfl (Pred.waits_near (by kernel_rfl) (by kernel_rfl))
          have r15 : b.tmps[15]?.getD undef = .bool true := hV 2 _ 15 rfl rfl (Pred.waits_near (by kernel_rfl) (by kernel_rfl))
          have r16 : b.tmps[16]?.getD undef = .bool true := hV 3 _ 16 rfl rfl (Pred.waits_near (by kernel_rfl) (by kernel_rfl))
          refine Pred.yields_call (f := 15) (args := #[.agg (blkV a0_0 a0_1 a0_2 a0_3 a0_4 a0_5), .agg (blkV a0_0 a1_1 a1_2 a1_3 a1_4 a1_5), .bool true, .bool true]) (Pred.wanted_none rfl) (by go_simp) ?_
          exact (newer_any _ _ _ _ _ _ _ _ _ _ _ _ _ _ _).mono fun e w2 ⟨he, hb⟩ => ⟨_, he, Pred.ext_below hb hE.size, by show Value.int .i64 _ = _; rw [NA.out]⟩
        · intro b X hE hd hn hV
          have r5 : b.tmps[5]?.getD undef = .pointer (some ⟨w.heap.size + 1, 0, none⟩) := (hn 5 (by kernel_rfl)).trans rfl
          have q := (blk_below hE _ l2).trans y0
          exact Pred.yields_run (v := .agg (blkV a0_0 a1_1 a1_2 a1_3 a1_4 a1_5)) (Pred.wanted_none rfl) (by go_simp) ⟨Pred.ext_refl _ _, rfl⟩
        · intro b X hE hd hn hV
          have r4 : b.tmps[4]?.getD undef = .pointer (some ⟨w.heap.size, 0, none⟩) := (hn 4 (by kernel_rfl)).trans rfl
          have q := (blk_below hE _ l1).trans x0
          exact Pred.yields_run (v := .agg (blkV a0_0 a0_1 a0_2 a0_3 a0_4 a0_5)) (Pred.wanted_none rfl) (by go_simp) ⟨Pred.ext_refl _ _, rfl⟩
        · intro b X hE hd hn hV
          have r3 : b.tmps[3]?.getD undef = .bool true := (hn 3 (by kernel_rfl)).trans rfl
          exact Pred.yields_run (v := .bool true) (Pred.wanted_none rfl) (by go_simp) ⟨Pred.ext_refl _ _, rfl⟩
        · intro b X hE hd hn hV
          have r2 : b.tmps[2]?.getD undef = .bool true := (hn 2 (by kernel_rfl)).trans rfl
          exact Pred.yields_run (v := .bool true) (Pred.wanted_none rfl) (by go_simp) ⟨Pred.ext_refl _ _, rfl⟩
        · intro b X hE hd hn hV
          have r18 : b.tmps[18]?.getD undef = .agg (blkV a0_0 a1_1 a1_2 a1_3 a1_4 a1_5) := hV 5 _ 18 rfl rfl (Pred.waits_near (by kernel_rfl) (by kernel_rfl))
          have r19 : b.tmps[19]?.getD undef = .agg (blkV a0_0 a0_1 a0_2 a0_3 a0_4 a0_5) := hV 6 _ 19 rfl rfl (Pred.waits_near (by kernel_rfl) (by kernel_rfl))
          have r20 : b.tmps[20]?.getD undef = .bool true := hV 7 _ 20 rfl rfl (Pred.waits_near (by kernel_rfl) (by kernel_rfl))
          have r21 : b.tmps[21]?.getD undef = .bool true := hV 8 _ 21 rfl rfl (Pred.waits_near (by kernel_rfl) (by kernel_rfl))
          refine Pred.yields_call (f := 15) (args := #[.agg (blkV a0_0 a1_1 a1_2 a1_3 a1_4 a1_5), .agg (blkV a0_0 a0_1 a0_2 a0_3 a0_4 a0_5), .bool true, .bool true]) (Pred.wanted_none rfl) (by go_simp) ?_
          exact (newer_any _ _ _ _ _ _ _ _ _ _ _ _ _ _ _).mono fun e w2 ⟨he, hb⟩ => ⟨_, he, Pred.ext_below hb hE.size, by show Value.int .i64 _ = _; rw [NB.out]⟩
        · intro b X hE hd hn hV
          have r17 : b.tmps[17]?.getD undef = .int .i64 (0) := hV 4 _ 17 rfl rfl (Pred.waits_near (by kernel_rfl) (by kernel_rfl))
          exact Pred.yields_run (v := .int .i64 (0)) (Pred.wanted_none rfl) (by go_simp) ⟨Pred.ext_refl _ _, rfl⟩
        · intro b X hE hd hn hV
          have r22 : b.tmps[22]?.getD undef = .int .i64 (0) := hV 9 _ 22 rfl rfl (Pred.waits_near (by kernel_rfl) (by kernel_rfl))
          exact Pred.yields_run (v := .int .i64 (0)) (Pred.wanted_none rfl) (by go_simp) ⟨Pred.ext_refl _ _, rfl⟩
      intro v X hE hv
      have e0 : v 0 = .agg (blkV a0_0 a0_1 a0_2 a0_3 a0_4 a0_5) := hv 0 _ 13 rfl rfl
      have e1 : v 1 = .agg (blkV a0_0 a1_1 a1_2 a1_3 a1_4 a1_5) := hv 1 _ 14 rfl rfl
      have e2 : v 2 = .bool true := hv 2 _ 15 rfl rfl
      have e3 : v 3 = .bool true := hv 3 _ 16 rfl rfl
      have e4 : v 4 = .int .i64 (0) := hv 4 _ 17 rfl rfl
      have e5 : v 5 = .agg (blkV a0_0 a1_1 a1_2 a1_3 a1_4 a1_5) := hv 5 _ 18 rfl rfl
      have e6 : v 6 = .agg (blkV a0_0 a0_1 a0_2 a0_3 a0_4 a0_5) := hv 6 _ 19 rfl rfl
      have e7 : v 7 = .bool true := hv 7 _ 20 rfl rfl
      have e8 : v 8 = .bool true := hv 8 _ 21 rfl rfl
      have e9 : v 9 = .int .i64 (0) := hv 9 _ 22 rfl rfl
      have e10 : v 10 = .int .i64 (0) := hv 10 _ 9 rfl rfl
      have e11 : v 11 = .int .i64 (0) := hv 11 _ 10 rfl rfl
      simp only [Pred.putsF_cons, Pred.putsF_nil, Nat.zero_add, Nat.reduceAdd, e0, e1, e2, e3, e4, e5, e6, e7, e8, e9, e10, e11, Act.put, List.setIfInBounds_toArray, List.set_cons_zero, List.set_cons_succ]
      clear e0 e1 e2 e3 e4 e5 e6 e7 e8 e9 e10 e11 hv
      have x1 := (blk_below hE _ l1).trans x0
      have y1 := (blk_below hE _ l2).trans y0
      have s1 := hE.size
      have sW := L1.size
      have L2 : Below w.heap.size w X := L1.trans (hE.mono sW)
      have c0 := blk_cell x1 0
      have c1 := blk_cell y1 0
      unfold blkV at c0 c1
      simp only [List.getElem?_toArray, List.getElem?_cons_zero] at c0 c1
      have m1 := blk_lt x1
      have m2 := blk_lt y1
      clear hE x0 y0 L1 l1 l2 x1 y1 NA NB
      go_wp2_with (go_at_call 6; refine (awake_any _).mono ?_; rintro e Z ⟨rfl, hb⟩)
      go_ret
      exact ⟨rfl, by repeat' (first | (with_reducible exact Below.refl _ _) | (with_reducible refine Rd.below_step ?_ (by assumption)) | (with_reducible refine Rd.below_alloc ?_ _) | (with_reducible refine Rd.below_drewN ?_ _) | (with_reducible refine Below.drew ?_) | (with_reducible refine Below.setCell ?_ ?_ _) | (with_reducible refine Rd.below_setRow ?_ ?_ _) | go_size | (simp only [World.size_alloc]; omega) | omega)⟩
    · have hne : ¬ a0_0 = a1_0 := by omega
      have hng : ¬ a0_0 < a1_0 := by omega
      have nA : newV a0_0 a1_0 true true = 0 := by simp [newV] <;> omega
      have nB : newV a1_0 a0_0 true true = 1 := by simp [newV] <;> omega
      have NA := Lib.hid nA
      have NB := Lib.hid nB
      clear nA nB
      go_enter Try.func5, Try.ntmps5
      go_upto_region 1 with (fail)
      refine Rd.name_world ?_
      intro W hW
      have x0 : blk W w.heap.size = some (.cells (blkV a0_0 a0_1 a0_2 a0_3 a0_4 a0_5) 24 (0, 0)) := by rw [hW]; exact blk2_0 w _ _
      have y0 : blk W (w.heap.size + 1) = some (.cells (blkV a1_0 a1_1 a1_2 a1_3 a1_4 a1_5) 24 (0, 0)) := by rw [hW]; exact blk2_1 w _ _
      have L1 : Below w.heap.size w W := by rw [hW]; repeat' (first | (with_reducible exact Below.refl _ _) | (with_reducible refine Rd.below_step ?_ (by assumption)) | (with_reducible refine Rd.below_alloc ?_ _) | (with_reducible refine Rd.below_drewN ?_ _) | (with_reducible refine Below.drew ?_) | (with_reducible refine Below.setCell ?_ ?_ _) | (with_reducible refine Rd.below_setRow ?_ ?_ _) | go_size | (simp only [World.size_alloc]; omega) | omega)
      clear hW
      have l1 := blk_lt x0
      have l2 := blk_lt y0
      refine Pred.region_vals (Pred.Of [
          Is (.agg (blkV a0_0 a0_1 a0_2 a0_3 a0_4 a0_5)),
          Is (.agg (blkV a1_0 a1_1 a1_2 a1_3 a1_4 a1_5)),
          Is (.bool true),
          Is (.bool true),
          Is (.int .i64 (0)),
          Is (.agg (blkV a1_0 a1_1 a1_2 a1_3 a1_4 a1_5)),
          Is (.agg (blkV a0_0 a0_1 a0_2 a0_3 a0_4 a0_5)),
          Is (.bool true),
          Is (.bool true),
          Is (.int .i64 (1)),
          Is (.int .i64 (0)),
          Is (.int .i64 (1))]) (by kernel_rfl) (by kernel_rfl) (by kernel_rfl) (Pred.of_stab ?_) ?_ ?_
      · exact ⟨is_stab _, is_stab _, is_stab _, is_stab _, is_stab _, is_stab _, is_stab _, is_stab _, is_stab _, is_stab _, is_stab _, is_stab _, trivial⟩
      · refine ⟨?_, ?_, ?_, ?_, ?_, ?_, ?_, ?_, ?_, ?_, ?_, ?_, trivial⟩
        · intro b X hE hd hn hV
          have r4 : b.tmps[4]?.getD undef = .pointer (some ⟨w.heap.size, 0, none⟩) := (hn 4 (by kernel_rfl)).trans rfl
          have q := (blk_below hE _ l1).trans x0
          exact Pred.yields_run (v := .agg (blkV a0_0 a0_1 a0_2 a0_3 a0_4 a0_5)) (Pred.wanted_none rfl) (by go_simp) ⟨Pred.ext_refl _ _, rfl⟩
        · intro b X hE hd hn hV
          have r5 : b.tmps[5]?.getD undef = .pointer (some ⟨w.heap.size + 1, 0, none⟩) := (hn 5 (by kernel_rfl)).trans rfl
          have q := (blk_below hE _ l2).trans y0
          exact Pred.yields_run (v := .agg (blkV a1_0 a1_1 a1_2 a1_3 a1_4 a1_5)) (Pred.wanted_none rfl) (by go_simp) ⟨Pred.ext_refl _ _, rfl⟩
        · intro b X hE hd hn hV
          have r2 : b.tmps[2]?.getD undef = .bool true := (hn 2 (by kernel_rfl)).trans rfl
          exact Pred.yields_run (v := .bool true) (Pred.wanted_none rfl) (by go_simp) ⟨Pred.ext_refl _ _, rfl⟩
        · intro b X hE hd hn hV
          have r3 : b.tmps[3]?.getD undef = .bool true := (hn 3 (by kernel_rfl)).trans rfl
          exact Pred.yields_run (v := .bool true) (Pred.wanted_none rfl) (by go_simp) ⟨Pred.ext_refl _ _, rfl⟩
        · intro b X hE hd hn hV
          have r13 : b.tmps[13]?.getD undef = .agg (blkV a0_0 a0_1 a0_2 a0_3 a0_4 a0_5) := hV 0 _ 13 rfl rfl (Pred.waits_near (by kernel_rfl) (by kernel_rfl))
          have r14 : b.tmps[14]?.getD undef = .agg (blkV a1_0 a1_1 a1_2 a1_3 a1_4 a1_5) := hV 1 _ 14 rfl rfl (Pred.waits_near (by kernel_rfl) (by kernel_rfl))
          have r15 : b.tmps[15]?.getD undef = .bool true := hV 2 _ 15 rfl rfl (Pred.waits_near (by kernel_rfl) (by kernel_rfl))
          have r16 : b.tmps[16]?.getD undef = .bool true := hV 3 _ 16 rfl rfl (Pred.waits_near (by kernel_rfl) (by kernel_rfl))
          refine Pred.yields_call (f := 15) (args := #[.agg (blkV a0_0 a0_1 a0_2 a0_3 a0_4 a0_5), .agg (blkV a1_0 a1_1 a1_2 a1_3 a1_4 a1_5), .bool true, .bool true]) (Pred.wanted_none rfl) (by go_simp) ?_
          exact (newer_any _ _ _ _ _ _ _ _ _ _ _ _ _ _ _).mono fun e w2 ⟨he, hb⟩ => ⟨_, he, Pred.ext_below hb hE.size, by show Value.int .i64 _ = _; rw [NA.out]⟩
        · intro b X hE hd hn hV
          have r5 : b.tmps[5]?.getD undef = .pointer (some ⟨w.heap.size + 1, 0, none⟩) := (hn 5 (by kernel_rfl)).trans rfl
          have q := (blk_below hE _ l2).trans y0
          exact Pred.yields_run (v := .agg (blkV a1_0 a1_1 a1_2 a1_3 a1_4 a1_5)) (Pred.wanted_none rfl) (by go_simp) ⟨Pred.ext_refl _ _, rfl⟩
        · intro b X hE hd hn hV
          have r4 : b.tmps[4]?.getD undef = .pointer (some ⟨w.heap.size, 0, none⟩) := (hn 4 (by kernel_rfl)).trans rfl
          have q := (blk_below hE _ l1).trans x0
          exact Pred.yields_run (v := .agg (blkV a0_0 a0_1 a0_2 a0_3 a0_4 a0_5)) (Pred.wanted_none rfl) (by go_simp) ⟨Pred.ext_refl _ _, rfl⟩
        · intro b X hE hd hn hV
          have r3 : b.tmps[3]?.getD undef = .bool true := (hn 3 (by kernel_rfl)).trans rfl
          exact Pred.yields_run (v := .bool true) (Pred.wanted_none rfl) (by go_simp) ⟨Pred.ext_refl _ _, rfl⟩
        · intro b X hE hd hn hV
          have r2 : b.tmps[2]?.getD undef = .bool true := (hn 2 (by kernel_rfl)).trans rfl
          exact Pred.yields_run (v := .bool true) (Pred.wanted_none rfl) (by go_simp) ⟨Pred.ext_refl _ _, rfl⟩
        · intro b X hE hd hn hV
          have r18 : b.tmps[18]?.getD undef = .agg (blkV a1_0 a1_1 a1_2 a1_3 a1_4 a1_5) := hV 5 _ 18 rfl rfl (Pred.waits_near (by kernel_rfl) (by kernel_rfl))
          have r19 : b.tmps[19]?.getD undef = .agg (blkV a0_0 a0_1 a0_2 a0_3 a0_4 a0_5) := hV 6 _ 19 rfl rfl (Pred.waits_near (by kernel_rfl) (by kernel_rfl))
          have r20 : b.tmps[20]?.getD undef = .bool true := hV 7 _ 20 rfl rfl (Pred.waits_near (by kernel_rfl) (by kernel_rfl))
          have r21 : b.tmps[21]?.getD undef = .bool true := hV 8 _ 21 rfl rfl (Pred.waits_near (by kernel_rfl) (by kernel_rfl))
          refine Pred.yields_call (f := 15) (args := #[.agg (blkV a1_0 a1_1 a1_2 a1_3 a1_4 a1_5), .agg (blkV a0_0 a0_1 a0_2 a0_3 a0_4 a0_5), .bool true, .bool true]) (Pred.wanted_none rfl) (by go_simp) ?_
          exact (newer_any _ _ _ _ _ _ _ _ _ _ _ _ _ _ _).mono fun e w2 ⟨he, hb⟩ => ⟨_, he, Pred.ext_below hb hE.size, by show Value.int .i64 _ = _; rw [NB.out]⟩
        · intro b X hE hd hn hV
          have r17 : b.tmps[17]?.getD undef = .int .i64 (0) := hV 4 _ 17 rfl rfl (Pred.waits_near (by kernel_rfl) (by kernel_rfl))
          exact Pred.yields_run (v := .int .i64 (0)) (Pred.wanted_none rfl) (by go_simp) ⟨Pred.ext_refl _ _, rfl⟩
        · intro b X hE hd hn hV
          have r22 : b.tmps[22]?.getD undef = .int .i64 (1) := hV 9 _ 22 rfl rfl (Pred.waits_near (by kernel_rfl) (by kernel_rfl))
          exact Pred.yields_run (v := .int .i64 (1)) (Pred.wanted_none rfl) (by go_simp) ⟨Pred.ext_refl _ _, rfl⟩
      intro v X hE hv
      have e0 : v 0 = .agg (blkV a0_0 a0_1 a0_2 a0_3 a0_4 a0_5) := hv 0 _ 13 rfl rfl
      have e1 : v 1 = .agg (blkV a1_0 a1_1 a1_2 a1_3 a1_4 a1_5) := hv 1 _ 14 rfl rfl
      have e2 : v 2 = .bool true := hv 2 _ 15 rfl rfl
      have e3 : v 3 = .bool true := hv 3 _ 16 rfl rfl
      have e4 : v 4 = .int .i64 (0) := hv 4 _ 17 rfl rfl
      have e5 : v 5 = .agg (blkV a1_0 a1_1 a1_2 a1_3 a1_4 a1_5) := hv 5 _ 18 rfl rfl
      have e6 : v 6 = .agg (blkV a0_0 a0_1 a0_2 a0_3 a0_4 a0_5) := hv 6 _ 19 rfl rfl
      have e7 : v 7 = .bool true := hv 7 _ 20 rfl rfl
      have e8 : v 8 = .bool true := hv 8 _ 21 rfl rfl
      have e9 : v 9 = .int .i64 (1) := hv 9 _ 22 rfl rfl
      have e10 : v 10 = .int .i64 (0) := hv 10 _ 9 rfl rfl
      have e11 : v 11 = .int .i64 (1) := hv 11 _ 10 rfl rfl
      simp only [Pred.putsF_cons, Pred.putsF_nil, Nat.zero_add, Nat.reduceAdd, e0, e1, e2, e3, e4, e5, e6, e7, e8, e9, e10, e11, Act.put, List.setIfInBounds_toArray, List.set_cons_zero, List.set_cons_succ]
      clear e0 e1 e2 e3 e4 e5 e6 e7 e8 e9 e10 e11 hv
      have x1 := (blk_below hE _ l1).trans x0
      have y1 := (blk_below hE _ l2).trans y0
      have s1 := hE.size
      have sW := L1.size
      have L2 : Below w.heap.size w X := L1.trans (hE.mono sW)
      have c0 := blk_cell x1 0
      have c1 := blk_cell y1 0
      unfold blkV at c0 c1
      simp only [List.getElem?_toArray, List.getElem?_cons_zero] at c0 c1
      have m1 := blk_lt x1
      have m2 := blk_lt y1
      clear hE x0 y0 L1 l1 l2 x1 y1 NA NB
      go_wp2_with (go_at_call 6; refine (awake_any _).mono ?_; rintro e Z ⟨rfl, hb⟩)
      go_ret
      exact ⟨rfl, by repeat' (first | (with_reducible exact Below.refl _ _) | (with_reducible refine Rd.below_step ?_ (by assumption)) | (with_reducible refine Rd.below_alloc ?_ _) | (with_reducible refine Rd.below_drewN ?_ _) | (with_reducible refine Below.drew ?_) | (with_reducible refine Below.setCell ?_ ?_ _) | (with_reducible refine Rd.below_setRow ?_ ?_ _) | go_size | (simp only [World.size_alloc]; omega) | omega)⟩
end Go.Proofs.Ytbicgcnlijgjmaa.SupE
