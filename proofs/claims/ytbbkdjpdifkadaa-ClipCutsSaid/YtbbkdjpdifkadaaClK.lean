/-
  ClipCuts.
-/
import Derived.Test.YtbbkdjpdifkadaaClJ
import Derived.Test.YtbbkdjpdifkadaaClH
import Derived.BigGuard
namespace Go.Proofs.Ytbbkdjpdifkadaa.ClK
open Go.RowKit FixA Num Rd Go.Proofs.Ytbbkdjpdifkadaa.Row Mid ClM ClA ClB ClC ClD ClE ClF ClI ClJ ClH
open Go.Proofs.Ytbbkdjpdifkadaa.Pred (Is is_stab Stab)
set_option linter.unusedVariables false
set_option linter.unusedSimpArgs false
set_option maxRecDepth 10000
attribute [local go_sem] pc6 pc4
attribute [local go_sem ↓] load_vec load_vx store_vx
attribute [local go_sem] one_int run_load_vec run_load_vx run_store_vx rowLoad_eq rowStore_eq midLoad_eq pc_vec pc_vx blk_alloc_at blk_alloc_old blk_drew blk_drewN blk_set_far blk_set_far' blk_grow setRow_alloc_at setRow_alloc_old setRow_drew setRow_drewN
attribute [local go_sem high] run_maxT run_minT
theorem tmod7 (p : Int) : -7 < p.tmod 7 ∧ p.tmod 7 < 7 := by
  rcases Int.le_total 0 p with h | h
  · rw [Int.tmod_eq_emod_of_nonneg h]; omega
  · have e : p.tmod 7 = -((-p).tmod 7) := by rw [Int.neg_tmod, Int.neg_neg]
    rw [e, Int.tmod_eq_emod_of_nonneg (by omega)]; omega
theorem k_bd (p : Int) : 0 ≤ (wrap64 (p.tmod 7 + 7)).tmod 7 ∧ (wrap64 (p.tmod 7 + 7)).tmod 7 ≤ 6 := by
  have h := tmod7 p
  have e : wrap64 (p.tmod 7 + 7) = p.tmod 7 + 7 := by unfold wrap64; omega
  rw [e, Int.tmod_eq_emod_of_nonneg (by omega)]
  omega
set_option maxHeartbeats 4000000 in
theorem cuts_gen (x0 x1 x2 x3 x4 x5 y0 y1 y2 y3 y4 y5 p : Int) (hp : (Lit.int .i64 p).wf = true) (w : World) :
    Calls Try.prog 5 #[.agg #[.int .i64 x0, .int .i64 x1, .int .i64 x2, .int .i64 x3, .int .i64 x4, .int .i64 x5], .agg #[.int .i64 y0, .int .i64 y1, .int .i64 y2, .int .i64 y3, .int .i64 y4, .int .i64 y5], .int .i64 p] w fun e w' => e = .returned (.bool true) ∧ Below w.heap.size w w' := by
  go_enter Try.func5, Try.ntmps5
  go_upto_region 2 with (fail)
  have hk := k_bd p
  obtain ⟨k, ek⟩ : ∃ k, (wrap64 (p.tmod 7 + 7)).tmod 7 = k := ⟨_, rfl⟩
  rw [ek] at hk ⊢
  generalize wrap64 (p.tmod 7 + 7) = p2
  generalize p.tmod 7 = p1
  clear ek hp
  have HK := Lib.hid hk
  clear hk
  refine Rd.name_world ?_
  intro w0 hw
  have bA0 : blk w0 w.heap.size = some (.cells #[.int .i64 x0, .int .i64 x1, .int .i64 x2, .int .i64 x3, .int .i64 x4, .int .i64 x5] 28 (0, 0)) := by rw [hw]; exact blk2_0 _ _ _
  have bB0 : blk w0 (w.heap.size + 1) = some (.cells #[.int .i64 y0, .int .i64 y1, .int .i64 y2, .int .i64 y3, .int .i64 y4, .int .i64 y5] 28 (0, 0)) := by rw [hw]; exact blk2_1 _ _ _
  have L0 : Below w.heap.size w w0 := by
    rw [hw]
    repeat' (first | (with_reducible exact Below.refl _ _) | (with_reducible refine Rd.below_step ?_ (by assumption)) | (with_reducible refine Rd.below_alloc ?_ _) | (with_reducible refine Rd.below_drewN ?_ _) | (with_reducible refine Below.drew ?_) | (with_reducible refine Below.setCell ?_ ?_ _) | (with_reducible refine Rd.below_setRow ?_ ?_ _) | go_size | (simp only [World.size_alloc]; omega) | omega)
  have lA0 := blk_lt bA0
  have lB0 := blk_lt bB0
  clear hw
  go_wp2_with fail
  refine (far_any [[x0, x1, x2, x3, x4, x5], [y0, y1, y2, y3, y4, y5]] _ _ _ (rowAt_blk (blk_alloc_at _ _ _ rfl) rfl (by intro v hv; simp only [List.mem_cons, List.not_mem_nil, or_false] at hv; rcases hv with rfl | rfl <;> rfl)) (by simp)).mono ?_
  rintro e w1 ⟨⟨b, rfl, hfar⟩, hb⟩
  have L1 : Below w.heap.size w w1 := by repeat' (first | (with_reducible exact Below.refl _ _) | (with_reducible refine Rd.below_step ?_ (by assumption)) | (with_reducible refine Rd.below_alloc ?_ _) | (with_reducible refine Rd.below_drewN ?_ _) | (with_reducible refine Below.drew ?_) | (with_reducible refine Below.setCell ?_ ?_ _) | (with_reducible refine Rd.below_setRow ?_ ?_ _) | go_size | (simp only [World.size_alloc]; omega) | omega)
  cases b with
  | true =>
    go_wp2_with fail
    refine (awake_any _).mono ?_
    rintro e w9 ⟨rfl, hb9⟩
    have L9 : Below w.heap.size w w9 := by repeat' (first | (with_reducible exact Below.refl _ _) | (with_reducible refine Rd.below_step ?_ (by assumption)) | (with_reducible refine Rd.below_alloc ?_ _) | (with_reducible refine Rd.below_drewN ?_ _) | (with_reducible refine Below.drew ?_) | (with_reducible refine Below.setCell ?_ ?_ _) | (with_reducible refine Rd.below_setRow ?_ ?_ _) | go_size | (simp only [World.size_alloc]; omega) | omega)
    go_wp2
    go_ret
    exact ⟨rfl, L9⟩
  | false =>
    have bA : blk w1 w.heap.size = some (.cells #[.int .i64 x0, .int .i64 x1, .int .i64 x2, .int .i64 x3, .int .i64 x4, .int .i64 x5] 28 (0, 0)) := (blk_below hb _ (by simp; omega)).trans ((blk_alloc_old _ _ _ lA0).trans bA0)
    have bB : blk w1 (w.heap.size + 1) = some (.cells #[.int .i64 y0, .int .i64 y1, .int .i64 y2, .int .i64 y3, .int .i64 y4, .int .i64 y5] 28 (0, 0)) := (blk_below hb _ (by simp; omega)).trans ((blk_alloc_old _ _ _ lB0).trans bB0)
    have VA : Hid (Vx [x0, x1, x2, x3, x4, x5]) := Lib.hid (hfar rfl _ (by simp))
    have VB : Hid (Vx [y0, y1, y2, y3, y4, y5]) := Lib.hid (hfar rfl _ (by simp))
    clear hfar hb L0 lA0 lB0 bA0 bB0
    have lA := blk_lt bA
    have lB := blk_lt bB
    obtain ⟨d, ed⟩ : ∃ d, insV [x0, x1, x2, x3, x4, x5] k = d := ⟨_, rfl⟩
    obtain ⟨f, ef⟩ : ∃ f, insV [y0, y1, y2, y3, y4, y5] k = f := ⟨_, rfl⟩
    have ED := Lib.hid ed
    have EF := Lib.hid ef
    have CA : Hid (∀ W : World, Calls Try.prog 10 #[.agg #[.int .i64 x0, .int .i64 x1, .int .i64 x2, .int .i64 x3], .int .i64 k] W fun e w' => e = .returned (.int .i64 d) ∧ Below W.heap.size W w') := Lib.hid fun W => by have h := rinside_v VA.out k W; rw [ed] at h; exact h
    have CB : Hid (∀ W : World, Calls Try.prog 10 #[.agg #[.int .i64 y0, .int .i64 y1, .int .i64 y2, .int .i64 y3], .int .i64 k] W fun e w' => e = .returned (.int .i64 f) ∧ Below W.heap.size W w') := Lib.hid fun W => by have h := rinside_v VB.out k W; rw [ef] at h; exact h
    clear ed ef
    go_upto_region 4 with (fail)
    refine Pred.region_vals (Pred.Of [
        Is (.pointer (some ⟨w.heap.size, 0, none⟩)),
        Is (.agg #[.int .i64 x0, .int .i64 x1, .int .i64 x2, .int .i64 x3]),
        Is (.int .i64 k),
        Is (.int .i64 d),
        Is (.pointer (some ⟨(w.heap.size + 1), 0, none⟩)),
        Is (.agg #[.int .i64 y0, .int .i64 y1, .int .i64 y2, .int .i64 y3]),
        Is (.int .i64 k),
        Is (.int .i64 f),
        Is (.int .i64 d),
        Is (.int .i64 f)]) (by kernel_rfl) (by kernel_rfl) (by kernel_rfl) (Pred.of_stab ?_) ?_ ?_
    · exact ⟨is_stab _, is_stab _, is_stab _, is_stab _, is_stab _, is_stab _, is_stab _, is_stab _, is_stab _, is_stab _, trivial⟩
    · refine ⟨?_, ?_, ?_, ?_, ?_, ?_, ?_, ?_, ?_, ?_, trivial⟩
      · intro b X hE hd hn hV
        have r3 : b.tmps[3]?.getD undef = .pointer (some ⟨w.heap.size, 0, none⟩) := (hn 3 (by kernel_rfl)).trans rfl
        exact Pred.yields_run (v := .pointer (some ⟨w.heap.size, 0, none⟩)) (Pred.wanted_none rfl) (by go_simp) ⟨Pred.ext_refl _ _, rfl⟩
      · intro b X hE hd hn hV
        have r23 : b.tmps[23]?.getD undef = .pointer (some ⟨w.heap.size, 0, none⟩) := hV 0 _ 23 rfl rfl (Pred.waits_near (by kernel_rfl) (by kernel_rfl))
        have q := (blk_below hE _ lA).trans bA
        exact Pred.yields_run (v := .agg #[.int .i64 x0, .int .i64 x1, .int .i64 x2, .int .i64 x3]) (Pred.wanted_none rfl) (by go_simp) ⟨Pred.ext_refl _ _, rfl⟩
      · intro b X hE hd hn hV
        have r7 : b.tmps[7]?.getD undef = .int .i64 k := (hn 7 (by kernel_rfl)).trans rfl
        exact Pred.yields_run (v := .int .i64 k) (Pred.wanted_none rfl) (by go_simp) ⟨Pred.ext_refl _ _, rfl⟩
      · intro b X hE hd hn hV
        have r24 : b.tmps[24]?.getD undef = .agg #[.int .i64 x0, .int .i64 x1, .int .i64 x2, .int .i64 x3] := hV 1 _ 24 rfl rfl (Pred.waits_near (by kernel_rfl) (by kernel_rfl))
        have r25 : b.tmps[25]?.getD undef = .int .i64 k := hV 2 _ 25 rfl rfl (Pred.waits_near (by kernel_rfl) (by kernel_rfl))
        refine Pred.yields_call (f := 10) (args := #[.agg #[.int .i64 x0, .int .i64 x1, .int .i64 x2, .int .i64 x3], .int .i64 k]) (Pred.wanted_none rfl) (by go_simp) ?_
        exact (CA.out _).mono fun e w2 ⟨he, hb⟩ => ⟨_, he, Pred.ext_below hb hE.size, rfl⟩
      · intro b X hE hd hn hV
        have r4 : b.tmps[4]?.getD undef = .pointer (some ⟨(w.heap.size + 1), 0, none⟩) := (hn 4 (by kernel_rfl)).trans rfl
        exact Pred.yields_run (v := .pointer (some ⟨(w.heap.size + 1), 0, none⟩)) (Pred.wanted_none rfl) (by go_simp) ⟨Pred.ext_refl _ _, rfl⟩
      · intro b X hE hd hn hV
        have r27 : b.tmps[27]?.getD undef = .pointer (some ⟨(w.heap.size + 1), 0, none⟩) := hV 4 _ 27 rfl rfl (Pred.waits_near (by kernel_rfl) (by kernel_rfl))
        have q := (blk_below hE _ lB).trans bB
        exact Pred.yields_run (v := .agg #[.int .i64 y0, .int .i64 y1, .int .i64 y2, .int .i64 y3]) (Pred.wanted_none rfl) (by go_simp) ⟨Pred.ext_refl _ _, rfl⟩
      · intro b X hE hd hn hV
        have r7 : b.tmps[7]?.getD undef = .int .i64 k := (hn 7 (by kernel_rfl)).trans rfl
        exact Pred.yields_run (v := .int .i64 k) (Pred.wanted_none rfl) (by go_simp) ⟨Pred.ext_refl _ _, rfl⟩
      · intro b X hE hd hn hV
        have r28 : b.tmps[28]?.getD undef = .agg #[.int .i64 y0, .int .i64 y1, .int .i64 y2, .int .i64 y3] := hV 5 _ 28 rfl rfl (Pred.waits_near (by kernel_rfl) (by kernel_rfl))
        have r29 : b.tmps[29]?.getD undef = .int .i64 k := hV 6 _ 29 rfl rfl (Pred.waits_near (by kernel_rfl) (by kernel_rfl))
        refine Pred.yields_call (f := 10) (args := #[.agg #[.int .i64 y0, .int .i64 y1, .int .i64 y2, .int .i64 y3], .int .i64 k]) (Pred.wanted_none rfl) (by go_simp) ?_
        exact (CB.out _).mono fun e w2 ⟨he, hb⟩ => ⟨_, he, Pred.ext_below hb hE.size, rfl⟩
      · intro b X hE hd hn hV
        have r26 : b.tmps[26]?.getD undef = .int .i64 d := hV 3 _ 26 rfl rfl (Pred.waits_near (by kernel_rfl) (by kernel_rfl))
        exact Pred.yields_run (v := .int .i64 d) (Pred.wanted_none rfl) (by go_simp) ⟨Pred.ext_refl _ _, rfl⟩
      · intro b X hE hd hn hV
        have r30 : b.tmps[30]?.getD undef = .int .i64 f := hV 7 _ 30 rfl rfl (Pred.waits_near (by kernel_rfl) (by kernel_rfl))
        exact Pred.yields_run (v := .int .i64 f) (Pred.wanted_none rfl) (by go_simp) ⟨Pred.ext_refl _ _, rfl⟩
    intro v w4 hE hv
    have e0 : v 0 = .pointer (some ⟨w.heap.size, 0, none⟩) := hv 0 _ 23 rfl rfl
    have e1 : v 1 = .agg #[.int .i64 x0, .int .i64 x1, .int .i64 x2, .int .i64 x3] := hv 1 _ 24 rfl rfl
    have e2 : v 2 = .int .i64 k := hv 2 _ 25 rfl rfl
    have e3 : v 3 = .int .i64 d := hv 3 _ 26 rfl rfl
    have e4 : v 4 = .pointer (some ⟨(w.heap.size + 1), 0, none⟩) := hv 4 _ 27 rfl rfl
    have e5 : v 5 = .agg #[.int .i64 y0, .int .i64 y1, .int .i64 y2, .int .i64 y3] := hv 5 _ 28 rfl rfl
    have e6 : v 6 = .int .i64 k := hv 6 _ 29 rfl rfl
    have e7 : v 7 = .int .i64 f := hv 7 _ 30 rfl rfl
    have e8 : v 8 = .int .i64 d := hv 8 _ 8 rfl rfl
    have e9 : v 9 = .int .i64 f := hv 9 _ 9 rfl rfl
    simp only [Pred.putsF_cons, Pred.putsF_nil, Nat.zero_add, Nat.reduceAdd, e0, e1, e2, e3, e4, e5, e6, e7, e8, e9, Act.put, List.setIfInBounds_toArray, List.set_cons_zero, List.set_cons_succ]
    clear e0 e1 e2 e3 e4 e5 e6 e7 e8 e9 hv
    have LX : Below w.heap.size w w4 := L1.trans (hE.mono L1.size)
    have bA4 := (blk_below hE _ lA).trans bA
    have bB4 := (blk_below hE _ lB).trans bB
    have hs4 := hE.size
    clear hE bA bB CA CB
    by_cases h1 : d < 0
    · have d1 : decide (d < 0) = true := by simpa using h1
      clear h1
      go_wp2_with fail
      refine (awake_any _).mono ?_
      rintro e w9 ⟨rfl, hb9⟩
      have L9 : Below w.heap.size w w9 := by repeat' (first | (with_reducible exact Below.refl _ _) | (with_reducible refine Rd.below_step ?_ (by assumption)) | (with_reducible refine Rd.below_alloc ?_ _) | (with_reducible refine Rd.below_drewN ?_ _) | (with_reducible refine Below.drew ?_) | (with_reducible refine Below.setCell ?_ ?_ _) | (with_reducible refine Rd.below_setRow ?_ ?_ _) | go_size | (simp only [World.size_alloc]; omega) | omega)
      go_wp2
      go_ret
      exact ⟨rfl, L9⟩
    have d1 : decide (d < 0) = false := by simpa using h1
    by_cases h2 : 0 ≤ f
    · have d2 : decide (0 ≤ f) = true := by simpa using h2
      clear h1 h2
      go_wp2_with fail
      refine (awake_any _).mono ?_
      rintro e w9 ⟨rfl, hb9⟩
      have L9 : Below w.heap.size w w9 := by repeat' (first | (with_reducible exact Below.refl _ _) | (with_reducible refine Rd.below_step ?_ (by assumption)) | (with_reducible refine Rd.below_alloc ?_ _) | (with_reducible refine Rd.below_drewN ?_ _) | (with_reducible refine Below.drew ?_) | (with_reducible refine Below.setCell ?_ ?_ _) | (with_reducible refine Rd.below_setRow ?_ ?_ _) | go_size | (simp only [World.size_alloc]; omega) | omega)
      go_wp2
      go_ret
      exact ⟨rfl, L9⟩
    have d2 : decide (0 ≤ f) = false := by simpa using h2
    obtain ⟨c0, c1, c2, c3, c4, c5, ec⟩ := len6 (show (cutV [x0, x1, x2, x3, x4, x5] [y0, y1, y2, y3, y4, y5] k).length = 6 from rfl)
    have CC : Hid (∀ W : World, Calls Try.prog 11 #[.agg #[.int .i64 x0, .int .i64 x1, .int .i64 x2, .int .i64 x3, .int .i64 x4, .int .i64 x5], .agg #[.int .i64 y0, .int .i64 y1, .int .i64 y2, .int .i64 y3, .int .i64 y4, .int .i64 y5], .int .i64 k] W fun e w' => e = .returned (.agg #[.int .i64 c0, .int .i64 c1, .int .i64 c2, .int .i64 c3, .int .i64 c4, .int .i64 c5]) ∧ Below W.heap.size W w') := Lib.hid fun W => by have h := cut_any [x0, x1, x2, x3, x4, x5] [y0, y1, y2, y3, y4, y5] VA.out VB.out k W; rw [ec] at h; exact h
    have hm := fun i => btw_bd (a := ClM.g [x0, x1, x2, x3, x4, x5] i) (b := ClM.g [y0, y1, y2, y3, y4, y5] i) (cutT_bd [x0, x1, x2, x3, x4, x5] [y0, y1, y2, y3, y4, y5] k).1 (cutT_bd [x0, x1, x2, x3, x4, x5] [y0, y1, y2, y3, y4, y5] k).2
    have hmm : ∀ i, i < 6 → min (ClM.g [x0, x1, x2, x3, x4, x5] i) (ClM.g [y0, y1, y2, y3, y4, y5] i) ≤ ClM.g [c0, c1, c2, c3, c4, c5] i ∧ ClM.g [c0, c1, c2, c3, c4, c5] i ≤ max (ClM.g [x0, x1, x2, x3, x4, x5] i) (ClM.g [y0, y1, y2, y3, y4, y5] i) := by
      intro i hi
      rw [← ec]
      have e : i = 0 ∨ i = 1 ∨ i = 2 ∨ i = 3 ∨ i = 4 ∨ i = 5 := by omega
      rcases e with rfl | rfl | rfl | rfl | rfl | rfl
      · exact hm 0
      · exact hm 1
      · exact hm 2
      · exact hm 3
      · exact hm 4
      · exact hm 5
    have HM := Lib.hid hmm
    have VC : Vx [c0, c1, c2, c3, c4, c5] := by rw [← ec]; exact cutV_vx VA.out VB.out k
    have hnr := cut_near (a := [x0, x1, x2, x3, x4, x5]) (b := [y0, y1, y2, y3, y4, y5]) HK.out.1 HK.out.2 (by rw [ED.out]; omega) (by rw [EF.out]; omega)
    rw [ec, ED.out, EF.out] at hnr
    obtain ⟨u, eu⟩ : ∃ u, insV [c0, c1, c2, c3, c4, c5] k = u := ⟨_, rfl⟩
    have bu := insV_bd VC k
    have bd := insV_bd VA.out k
    have bf := insV_bd VB.out k
    rw [eu] at hnr bu
    rw [ED.out] at bd
    rw [EF.out] at bf
    have CU : Hid (∀ W : World, Calls Try.prog 10 #[.agg #[.int .i64 c0, .int .i64 c1, .int .i64 c2, .int .i64 c3], .int .i64 k] W fun e w' => e = .returned (.int .i64 u) ∧ Below W.heap.size W w') := Lib.hid fun W => by have h := rinside_v VC k W; rw [eu] at h; exact h
    have HNR := Lib.hid hnr
    have BDD := Lib.hid (show (0 ≤ d ∧ f < 0) ∧ (-1073741824 ≤ u ∧ u ≤ 1073741824) ∧ (-1073741824 ≤ d ∧ d ≤ 1073741824) ∧ (-1073741824 ≤ f ∧ f ≤ 1073741824) by omega)
    clear hnr bu bd bf eu VC hmm hm ec h1 h2
    go_wp2_with fail
    refine (CC.out _).mono ?_
    rintro e w5 ⟨rfl, hb5⟩
    have hs5 := hb5.size
    have bA5 := (blk_below hb5 _ (by omega)).trans bA4
    have bB5 := (blk_below hb5 _ (by omega)).trans bB4
    have L5 : Below w.heap.size w w5 := by repeat' (first | (with_reducible exact Below.refl _ _) | (with_reducible refine Rd.below_step ?_ (by assumption)) | (with_reducible refine Rd.below_alloc ?_ _) | (with_reducible refine Rd.below_drewN ?_ _) | (with_reducible refine Below.drew ?_) | (with_reducible refine Below.setCell ?_ ?_ _) | (with_reducible refine Rd.below_setRow ?_ ?_ _) | go_size | (simp only [World.size_alloc]; omega) | omega)
    have l5A := blk_lt bA5
    have l5B := blk_lt bB5
    clear hb5 bA4 bB4 CC
    go_upto_region 8 with (fail)
    refine Rd.name_world ?_
    intro w6 hw
    have bA6 : blk w6 w.heap.size = some (.cells #[.int .i64 x0, .int .i64 x1, .int .i64 x2, .int .i64 x3, .int .i64 x4, .int .i64 x5] 28 (0, 0)) := by rw [hw]; exact (blk_alloc_old _ _ _ l5A).trans bA5
    have bB6 : blk w6 (w.heap.size + 1) = some (.cells #[.int .i64 y0, .int .i64 y1, .int .i64 y2, .int .i64 y3, .int .i64 y4, .int .i64 y5] 28 (0, 0)) := by rw [hw]; exact (blk_alloc_old _ _ _ l5B).trans bB5
    have bC6 : blk w6 w5.heap.size = some (.cells #[.int .i64 c0, .int .i64 c1, .int .i64 c2, .int .i64 c3, .int .i64 c4, .int .i64 c5] 28 (0, 0)) := by rw [hw]; exact blk_alloc_at _ _ _ rfl
    have L6 : Below w.heap.size w w6 := by
      rw [hw]
      repeat' (first | (with_reducible exact Below.refl _ _) | (with_reducible refine Rd.below_step ?_ (by assumption)) | (with_reducible refine Rd.below_alloc ?_ _) | (with_reducible refine Rd.below_drewN ?_ _) | (with_reducible refine Below.drew ?_) | (with_reducible refine Below.setCell ?_ ?_ _) | (with_reducible refine Rd.below_setRow ?_ ?_ _) | go_size | (simp only [World.size_alloc]; omega) | omega)
    have lA6 := blk_lt bA6
    have lB6 := blk_lt bB6
    have lC6 := blk_lt bC6
    have B6 := Lib.hid (And.intro bA6 (And.intro bB6 bC6))
    clear hw bA5 bB5 l5A l5B bA6 bB6 bC6
    go_wp2_with fail
    go_loopw [11] (fun i W => ∃ j : Nat, j ≤ 4 ∧ i = .int .i64 j ∧ Below w6.heap.size w6 W) (fun i _ => 4 - (intOf i).toNat)
    case atStart => exact ⟨0, by omega, rfl, by repeat' (first | (with_reducible exact Below.refl _ _) | (with_reducible refine Rd.below_step ?_ (by assumption)) | (with_reducible refine Rd.below_alloc ?_ _) | (with_reducible refine Rd.below_drewN ?_ _) | (with_reducible refine Below.drew ?_) | (with_reducible refine Below.setCell ?_ ?_ _) | (with_reducible refine Rd.below_setRow ?_ ?_ _) | go_size | (simp only [World.size_alloc]; omega) | omega)⟩
    case round =>
      rename World => W
      obtain ⟨j, hj, rfl, hbW⟩ := hrel
      have bA := (blk_below hbW _ lA6).trans B6.out.1
      have bB := (blk_below hbW _ lB6).trans B6.out.2.1
      have bC := (blk_below hbW _ lC6).trans B6.out.2.2
      have lA := blk_lt bA
      have lB := blk_lt bB
      have lC := blk_lt bC
      have L7 : Below w.heap.size w W := L6.trans (hbW.mono L6.size)
      by_cases hj4 : j < 4
      · have hj4' : (j : Int) < 4 := by omega
        obtain ⟨xa, exa⟩ : ∃ x, ClM.g [x0, x1, x2, x3, x4, x5] j = x := ⟨_, rfl⟩
        obtain ⟨xb, exb⟩ : ∃ x, ClM.g [y0, y1, y2, y3, y4, y5] j = x := ⟨_, rfl⟩
        obtain ⟨xc, exc⟩ : ∃ x, ClM.g [c0, c1, c2, c3, c4, c5] j = x := ⟨_, rfl⟩
        have hmj := HM.out j (by omega)
        rw [exa, exb, exc] at hmj
        have e4 : j = 0 ∨ j = 1 ∨ j = 2 ∨ j = 3 := by omega
        have cA : Hid ((#[.int .i64 x0, .int .i64 x1, .int .i64 x2, .int .i64 x3, .int .i64 x4, .int .i64 x5] : Array Value)[j]? = some (.int .i64 xa)) := Lib.hid (by rw [← exa]; rcases e4 with rfl | rfl | rfl | rfl <;> rfl)
        have cB : Hid ((#[.int .i64 y0, .int .i64 y1, .int .i64 y2, .int .i64 y3, .int .i64 y4, .int .i64 y5] : Array Value)[j]? = some (.int .i64 xb)) := Lib.hid (by rw [← exb]; rcases e4 with rfl | rfl | rfl | rfl <;> rfl)
        have cC : Hid ((#[.int .i64 c0, .int .i64 c1, .int .i64 c2, .int .i64 c3, .int .i64 c4, .int .i64 c5] : Array Value)[j]? = some (.int .i64 xc)) := Lib.hid (by rw [← exc]; rcases e4 with rfl | rfl | rfl | rfl <;> rfl)
        have m1 : ¬ xc < min xa xb := by omega
        have m2 : ¬ max xa xb < xc := by omega
        clear exa exb exc hmj e4
        go_upto_region 11 with (fail)
        refine Pred.region_vals (Pred.Of [
            Is (.int .i64 (j : Int)),
            Is (.pointer (some ⟨w5.heap.size, 0, none⟩)),
            Is (.pointer (some ⟨w5.heap.size, j, none⟩)),
            Is (.int .i64 xc),
            Is (.int .i64 (j : Int)),
            Is (.pointer (some ⟨w.heap.size, 0, none⟩)),
            Is (.pointer (some ⟨w.heap.size, j, none⟩)),
            Is (.int .i64 xa),
            Is (.int .i64 (j : Int)),
            Is (.pointer (some ⟨(w.heap.size + 1), 0, none⟩)),
            Is (.pointer (some ⟨(w.heap.size + 1), j, none⟩)),
            Is (.int .i64 xb),
            Is (.int .i64 (min xa xb)),
            Is (.bool false),
            Is (.bool false),
            Is (.int .i64 (j : Int)),
            Is (.pointer (some ⟨w5.heap.size, 0, none⟩)),
            Is (.pointer (some ⟨w5.heap.size, j, none⟩)),
            Is (.int .i64 xc),
            Is (.int .i64 (j : Int)),
            Is (.pointer (some ⟨w.heap.size, 0, none⟩)),
            Is (.pointer (some ⟨w.heap.size, j, none⟩)),
            Is (.int .i64 xa),
            Is (.int .i64 (j : Int)),
            Is (.pointer (some ⟨(w.heap.size + 1), 0, none⟩)),
            Is (.pointer (some ⟨(w.heap.size + 1), j, none⟩)),
            Is (.int .i64 xb),
            Is (.int .i64 (max xa xb)),
            Is (.bool false),
            Is (.bool false)]) (by kernel_rfl) (by kernel_rfl) (by kernel_rfl) (Pred.of_stab ?_) ?_ ?_
        · exact ⟨is_stab _, is_stab _, is_stab _, is_stab _, is_stab _, is_stab _, is_stab _, is_stab _, is_stab _, is_stab _, is_stab _, is_stab _, is_stab _, is_stab _, is_stab _, is_stab _, is_stab _, is_stab _, is_stab _, is_stab _, is_stab _, is_stab _, is_stab _, is_stab _, is_stab _, is_stab _, is_stab _, is_stab _, is_stab _, is_stab _, trivial⟩
        · refine ⟨?_, ?_, ?_, ?_, ?_, ?_, ?_, ?_, ?_, ?_, ?_, ?_, ?_, ?_, ?_, ?_, ?_, ?_, ?_, ?_, ?_, ?_, ?_, ?_, ?_, ?_, ?_, ?_, ?_, ?_, trivial⟩
          · intro b X hE hd hn hV
            have r11 : b.tmps[11]?.getD undef = .int .i64 (j : Int) := (hn 11 (by kernel_rfl)).trans rfl
            exact Pred.yields_run (v := .int .i64 (j : Int)) (Pred.wanted_none rfl) (by go_simp) ⟨Pred.ext_refl _ _, rfl⟩
          · intro b X hE hd hn hV
            have r10 : b.tmps[10]?.getD undef = .pointer (some ⟨w5.heap.size, 0, none⟩) := (hn 10 (by kernel_rfl)).trans rfl
            exact Pred.yields_run (v := .pointer (some ⟨w5.heap.size, 0, none⟩)) (Pred.wanted_none rfl) (by go_simp) ⟨Pred.ext_refl _ _, rfl⟩
          · intro b X hE hd hn hV
            have r47 : b.tmps[47]?.getD undef = .pointer (some ⟨w5.heap.size, 0, none⟩) := hV 1 _ 47 rfl rfl (Pred.waits_near (by kernel_rfl) (by kernel_rfl))
            have r46 : b.tmps[46]?.getD undef = .int .i64 (j : Int) := hV 0 _ 46 rfl rfl (Pred.waits_near (by kernel_rfl) (by kernel_rfl))
            exact Pred.yields_run (v := .pointer (some ⟨w5.heap.size, j, none⟩)) (Pred.wanted_none rfl) (by go_simp) ⟨Pred.ext_refl _ _, rfl⟩
          · intro b X hE hd hn hV
            have r48 : b.tmps[48]?.getD undef = .pointer (some ⟨w5.heap.size, j, none⟩) := hV 2 _ 48 rfl rfl (Pred.waits_near (by kernel_rfl) (by kernel_rfl))
            have q := (blk_below hE _ lC).trans bC
            have q2 : X.cell? ⟨w5.heap.size, j, none⟩ = some (.int .i64 xc) := (blk_cell q j).trans cC.out
            exact Pred.yields_run (v := .int .i64 xc) (Pred.wanted_none rfl) (by go_simp) ⟨Pred.ext_refl _ _, rfl⟩
          · intro b X hE hd hn hV
            have r11 : b.tmps[11]?.getD undef = .int .i64 (j : Int) := (hn 11 (by kernel_rfl)).trans rfl
            exact Pred.yields_run (v := .int .i64 (j : Int)) (Pred.wanted_none rfl) (by go_simp) ⟨Pred.ext_refl _ _, rfl⟩
          · intro b X hE hd hn hV
            have r3 : b.tmps[3]?.getD undef = .pointer (some ⟨w.heap.size, 0, none⟩) := (hn 3 (by kernel_rfl)).trans rfl
            exact Pred.yields_run (v := .pointer (some ⟨w.heap.size, 0, none⟩)) (Pred.wanted_none rfl) (by go_simp) ⟨Pred.ext_refl _ _, rfl⟩
          · intro b X hE hd hn hV
            have r51 : b.tmps[51]?.getD undef = .pointer (some ⟨w.heap.size, 0, none⟩) := hV 5 _ 51 rfl rfl (Pred.waits_near (by kernel_rfl) (by kernel_rfl))
            have r50 : b.tmps[50]?.getD undef = .int .i64 (j : Int) := hV 4 _ 50 rfl rfl (Pred.waits_near (by kernel_rfl) (by kernel_rfl))
            exact Pred.yields_run (v := .pointer (some ⟨w.heap.size, j, none⟩)) (Pred.wanted_none rfl) (by go_simp) ⟨Pred.ext_refl _ _, rfl⟩
          · intro b X hE hd hn hV
            have r52 : b.tmps[52]?.getD undef = .pointer (some ⟨w.heap.size, j, none⟩) := hV 6 _ 52 rfl rfl (Pred.waits_near (by kernel_rfl) (by kernel_rfl))
            have q := (blk_below hE _ lA).trans bA
            have q2 : X.cell? ⟨w.heap.size, j, none⟩ = some (.int .i64 xa) := (blk_cell q j).trans cA.out
            exact Pred.yields_run (v := .int .i64 xa) (Pred.wanted_none rfl) (by go_simp) ⟨Pred.ext_refl _ _, rfl⟩
          · intro b X hE hd hn hV
            have r11 : b.tmps[11]?.getD undef = .int .i64 (j : Int) := (hn 11 (by kernel_rfl)).trans rfl
            exact Pred.yields_run (v := .int .i64 (j : Int)) (Pred.wanted_none rfl) (by go_simp) ⟨Pred.ext_refl _ _, rfl⟩
          · intro b X hE hd hn hV
            have r4 : b.tmps[4]?.getD undef = .pointer (some ⟨(w.heap.size + 1), 0, none⟩) := (hn 4 (by kernel_rfl)).trans rfl
            exact Pred.yields_run (v := .pointer (some ⟨(w.heap.size + 1), 0, none⟩)) (Pred.wanted_none rfl) (by go_simp) ⟨Pred.ext_refl _ _, rfl⟩
          · intro b X hE hd hn hV
            have r55 : b.tmps[55]?.getD undef = .pointer (some ⟨(w.heap.size + 1), 0, none⟩) := hV 9 _ 55 rfl rfl (Pred.waits_near (by kernel_rfl) (by kernel_rfl))
            have r54 : b.tmps[54]?.getD undef = .int .i64 (j : Int) := hV 8 _ 54 rfl rfl (Pred.waits_near (by kernel_rfl) (by kernel_rfl))
            exact Pred.yields_run (v := .pointer (some ⟨(w.heap.size + 1), j, none⟩)) (Pred.wanted_none rfl) (by go_simp) ⟨Pred.ext_refl _ _, rfl⟩
          · intro b X hE hd hn hV
            have r56 : b.tmps[56]?.getD undef = .pointer (some ⟨(w.heap.size + 1), j, none⟩) := hV 10 _ 56 rfl rfl (Pred.waits_near (by kernel_rfl) (by kernel_rfl))
            have q := (blk_below hE _ lB).trans bB
            have q2 : X.cell? ⟨(w.heap.size + 1), j, none⟩ = some (.int .i64 xb) := (blk_cell q j).trans cB.out
            exact Pred.yields_run (v := .int .i64 xb) (Pred.wanted_none rfl) (by go_simp) ⟨Pred.ext_refl _ _, rfl⟩
          · intro b X hE hd hn hV
            have r53 : b.tmps[53]?.getD undef = .int .i64 xa := hV 7 _ 53 rfl rfl (Pred.waits_near (by kernel_rfl) (by kernel_rfl))
            have r57 : b.tmps[57]?.getD undef = .int .i64 xb := hV 11 _ 57 rfl rfl (Pred.waits_near (by kernel_rfl) (by kernel_rfl))
            exact Pred.yields_run (v := .int .i64 (min xa xb)) (Pred.wanted_none rfl) (by go_simp) ⟨Pred.ext_refl _ _, rfl⟩
          · intro b X hE hd hn hV
            have r49 : b.tmps[49]?.getD undef = .int .i64 xc := hV 3 _ 49 rfl rfl (Pred.waits_near (by kernel_rfl) (by kernel_rfl))
            have r58 : b.tmps[58]?.getD undef = .int .i64 (min xa xb) := hV 12 _ 58 rfl rfl (Pred.waits_near (by kernel_rfl) (by kernel_rfl))
            exact Pred.yields_run (v := .bool false) (Pred.wanted_none rfl) (by go_simp) ⟨Pred.ext_refl _ _, rfl⟩
          · intro b X hE hd hn hV
            have r59 : b.tmps[59]?.getD undef = .bool false := hV 13 _ 59 rfl rfl (Pred.waits_near (by kernel_rfl) (by kernel_rfl))
            exact Pred.yields_run (v := .bool false) (Pred.wanted_none rfl) (by go_simp) ⟨Pred.ext_refl _ _, rfl⟩
          · intro b X hE hd hn hV
            have r11 : b.tmps[11]?.getD undef = .int .i64 (j : Int) := (hn 11 (by kernel_rfl)).trans rfl
            have r60 : b.tmps[60]?.getD undef = .bool false := hV 14 _ 60 rfl rfl (Pred.waits_near (by kernel_rfl) (by kernel_rfl))
            exact Pred.yields_run (v := .int .i64 (j : Int)) ((Pred.wanted_at (g := 14) (d := 60) (f := false) rfl rfl r60).trans rfl) (by go_simp) ⟨Pred.ext_refl _ _, rfl⟩
          · intro b X hE hd hn hV
            have r10 : b.tmps[10]?.getD undef = .pointer (some ⟨w5.heap.size, 0, none⟩) := (hn 10 (by kernel_rfl)).trans rfl
            have r60 : b.tmps[60]?.getD undef = .bool false := hV 14 _ 60 rfl rfl (Pred.waits_near (by kernel_rfl) (by kernel_rfl))
            exact Pred.yields_run (v := .pointer (some ⟨w5.heap.size, 0, none⟩)) ((Pred.wanted_at (g := 14) (d := 60) (f := false) rfl rfl r60).trans rfl) (by go_simp) ⟨Pred.ext_refl _ _, rfl⟩
          · intro b X hE hd hn hV
            have r62 : b.tmps[62]?.getD undef = .pointer (some ⟨w5.heap.size, 0, none⟩) := hV 16 _ 62 rfl rfl (Pred.waits_near (by kernel_rfl) (by kernel_rfl))
            have r61 : b.tmps[61]?.getD undef = .int .i64 (j : Int) := hV 15 _ 61 rfl rfl (Pred.waits_near (by kernel_rfl) (by kernel_rfl))
            have r60 : b.tmps[60]?.getD undef = .bool false := hV 14 _ 60 rfl rfl (Pred.waits_near (by kernel_rfl) (by kernel_rfl))
            exact Pred.yields_run (v := .pointer (some ⟨w5.heap.size, j, none⟩)) ((Pred.wanted_at (g := 14) (d := 60) (f := false) rfl rfl r60).trans rfl) (by go_simp) ⟨Pred.ext_refl _ _, rfl⟩
          · intro b X hE hd hn hV
            have r63 : b.tmps[63]?.getD undef = .pointer (some ⟨w5.heap.size, j, none⟩) := hV 17 _ 63 rfl rfl (Pred.waits_near (by kernel_rfl) (by kernel_rfl))
            have r60 : b.tmps[60]?.getD undef = .bool false := hV 14 _ 60 rfl rfl (Pred.waits_near (by kernel_rfl) (by kernel_rfl))
            have q := (blk_below hE _ lC).trans bC
            have q2 : X.cell? ⟨w5.heap.size, j, none⟩ = some (.int .i64 xc) := (blk_cell q j).trans cC.out
            exact Pred.yields_run (v := .int .i64 xc) ((Pred.wanted_at (g := 14) (d := 60) (f := false) rfl rfl r60).trans rfl) (by go_simp) ⟨Pred.ext_refl _ _, rfl⟩
          · intro b X hE hd hn hV
            have r11 : b.tmps[11]?.getD undef = .int .i64 (j : Int) := (hn 11 (by kernel_rfl)).trans rfl
            have r60 : b.tmps[60]?.getD undef = .bool false := hV 14 _ 60 rfl rfl (Pred.waits_near (by kernel_rfl) (by kernel_rfl))
            exact Pred.yields_run (v := .int .i64 (j : Int)) ((Pred.wanted_at (g := 14) (d := 60) (f := false) rfl rfl r60).trans rfl) (by go_simp) ⟨Pred.ext_refl _ _, rfl⟩
          · intro b X hE hd hn hV
            have r3 : b.tmps[3]?.getD undef = .pointer (some ⟨w.heap.size, 0, none⟩) := (hn 3 (by kernel_rfl)).trans rfl
            have r60 : b.tmps[60]?.getD undef = .bool false := hV 14 _ 60 rfl rfl (Pred.waits_near (by kernel_rfl) (by kernel_rfl))
            exact Pred.yields_run (v := .pointer (some ⟨w.heap.size, 0, none⟩)) ((Pred.wanted_at (g := 14) (d := 60) (f := false) rfl rfl r60).trans rfl) (by go_simp) ⟨Pred.ext_refl _ _, rfl⟩
          · intro b X hE hd hn hV
            have r66 : b.tmps[66]?.getD undef = .pointer (some ⟨w.heap.size, 0, none⟩) := hV 20 _ 66 rfl rfl (Pred.waits_near (by kernel_rfl) (by kernel_rfl))
            have r65 : b.tmps[65]?.getD undef = .int .i64 (j : Int) := hV 19 _ 65 rfl rfl (Pred.waits_near (by kernel_rfl) (by kernel_rfl))
            have r60 : b.tmps[60]?.getD undef = .bool false := hV 14 _ 60 rfl rfl (Pred.waits_near (by kernel_rfl) (by kernel_rfl))
            exact Pred.yields_run (v := .pointer (some ⟨w.heap.size, j, none⟩)) ((Pred.wanted_at (g := 14) (d := 60) (f := false) rfl rfl r60).trans rfl) (by go_simp) ⟨Pred.ext_refl _ _, rfl⟩
          · intro b X hE hd hn hV
            have r67 : b.tmps[67]?.getD undef = .pointer (some ⟨w.heap.size, j, none⟩) := hV 21 _ 67 rfl rfl (Pred.waits_near (by kernel_rfl) (by kernel_rfl))
            have r60 : b.tmps[60]?.getD undef = .bool false := hV 14 _ 60 rfl rfl (Pred.waits_near (by kernel_rfl) (by kernel_rfl))
            have q := (blk_below hE _ lA).trans bA
            have q2 : X.cell? ⟨w.heap.size, j, none⟩ = some (.int .i64 xa) := (blk_cell q j).trans cA.out
            exact Pred.yields_run (v := .int .i64 xa) ((Pred.wanted_at (g := 14) (d := 60) (f := false) rfl rfl r60).trans rfl) (by go_simp) ⟨Pred.ext_refl _ _, rfl⟩
          · intro b X hE hd hn hV
            have r11 : b.tmps[11]?.getD undef = .int .i64 (j : Int) := (hn 11 (by kernel_rfl)).trans rfl
            have r60 : b.tmps[60]?.getD undef = .bool false := hV 14 _ 60 rfl rfl (Pred.waits_near (by kernel_rfl) (by kernel_rfl))
            exact Pred.yields_run (v := .int .i64 (j : Int)) ((Pred.wanted_at (g := 14) (d := 60) (f := false) rfl rfl r60).trans rfl) (by go_simp) ⟨Pred.ext_refl _ _, rfl⟩
          · intro b X hE hd hn hV
            have r4 : b.tmps[4]?.getD undef = .pointer (some ⟨(w.heap.size + 1), 0, none⟩) := (hn 4 (by kernel_rfl)).trans rfl
            have r60 : b.tmps[60]?.getD undef = .bool false := hV 14 _ 60 rfl rfl (Pred.waits_near (by kernel_rfl) (by kernel_rfl))
            exact Pred.yields_run (v := .pointer (some ⟨(w.heap.size + 1), 0, none⟩)) ((Pred.wanted_at (g := 14) (d := 60) (f := false) rfl rfl r60).trans rfl) (by go_simp) ⟨Pred.ext_refl _ _, rfl⟩
          · intro b X hE hd hn hV
            have r70 : b.tmps[70]?.getD undef = .pointer (some ⟨(w.heap.size + 1), 0, none⟩) := hV 24 _ 70 rfl rfl (Pred.waits_near (by kernel_rfl) (by kernel_rfl))
            have r69 : b.tmps[69]?.getD undef = .int .i64 (j : Int) := hV 23 _ 69 rfl rfl (Pred.waits_near (by kernel_rfl) (by kernel_rfl))
            have r60 : b.tmps[60]?.getD undef = .bool false := hV 14 _ 60 rfl rfl (Pred.waits_near (by kernel_rfl) (by kernel_rfl))
            exact Pred.yields_run (v := .pointer (some ⟨(w.heap.size + 1), j, none⟩)) ((Pred.wanted_at (g := 14) (d := 60) (f := false) rfl rfl r60).trans rfl) (by go_simp) ⟨Pred.ext_refl _ _, rfl⟩
          · intro b X hE hd hn hV
            have r71 : b.tmps[71]?.getD undef = .pointer (some ⟨(w.heap.size + 1), j, none⟩) := hV 25 _ 71 rfl rfl (Pred.waits_near (by kernel_rfl) (by kernel_rfl))
            have r60 : b.tmps[60]?.getD undef = .bool false := hV 14 _ 60 rfl rfl (Pred.waits_near (by kernel_rfl) (by kernel_rfl))
            have q := (blk_below hE _ lB).trans bB
            have q2 : X.cell? ⟨(w.heap.size + 1), j, none⟩ = some (.int .i64 xb) := (blk_cell q j).trans cB.out
            exact Pred.yields_run (v := .int .i64 xb) ((Pred.wanted_at (g := 14) (d := 60) (f := false) rfl rfl r60).trans rfl) (by go_simp) ⟨Pred.ext_refl _ _, rfl⟩
          · intro b X hE hd hn hV
            have r68 : b.tmps[68]?.getD undef = .int .i64 xa := hV 22 _ 68 rfl rfl (Pred.waits_near (by kernel_rfl) (by kernel_rfl))
            have r72 : b.tmps[72]?.getD undef = .int .i64 xb := hV 26 _ 72 rfl rfl (Pred.waits_near (by kernel_rfl) (by kernel_rfl))
            have r60 : b.tmps[60]?.getD undef = .bool false := hV 14 _ 60 rfl rfl (Pred.waits_near (by kernel_rfl) (by kernel_rfl))
            exact Pred.yields_run (v := .int .i64 (max xa xb)) ((Pred.wanted_at (g := 14) (d := 60) (f := false) rfl rfl r60).trans rfl) (by go_simp) ⟨Pred.ext_refl _ _, rfl⟩
          · intro b X hE hd hn hV
            have r64 : b.tmps[64]?.getD undef = .int .i64 xc := hV 18 _ 64 rfl rfl (Pred.waits_near (by kernel_rfl) (by kernel_rfl))
            have r73 : b.tmps[73]?.getD undef = .int .i64 (max xa xb) := hV 27 _ 73 rfl rfl (Pred.waits_near (by kernel_rfl) (by kernel_rfl))
            have r60 : b.tmps[60]?.getD undef = .bool false := hV 14 _ 60 rfl rfl (Pred.waits_near (by kernel_rfl) (by kernel_rfl))
            exact Pred.yields_run (v := .bool false) ((Pred.wanted_at (g := 14) (d := 60) (f := false) rfl rfl r60).trans rfl) (by go_simp) ⟨Pred.ext_refl _ _, rfl⟩
          · intro b X hE hd hn hV
            have r60 : b.tmps[60]?.getD undef = .bool false := hV 14 _ 60 rfl rfl (Pred.waits_near (by kernel_rfl) (by kernel_rfl))
            have r74 : b.tmps[74]?.getD undef = .bool false := hV 28 _ 74 rfl rfl (Pred.waits_near (by kernel_rfl) (by kernel_rfl))
            exact Pred.yields_run (v := .bool false) (Pred.wanted_none rfl) (by go_simp) ⟨Pred.ext_refl _ _, rfl⟩
        intro v w8 hE hv
        have e0 : v 0 = .int .i64 (j : Int) := hv 0 _ 46 rfl rfl
        have e1 : v 1 = .pointer (some ⟨w5.heap.size, 0, none⟩) := hv 1 _ 47 rfl rfl
        have e2 : v 2 = .pointer (some ⟨w5.heap.size, j, none⟩) := hv 2 _ 48 rfl rfl
        have e3 : v 3 = .int .i64 xc := hv 3 _ 49 rfl rfl
        have e4 : v 4 = .int .i64 (j : Int) := hv 4 _ 50 rfl rfl
        have e5 : v 5 = .pointer (some ⟨w.heap.size, 0, none⟩) := hv 5 _ 51 rfl rfl
        have e6 : v 6 = .pointer (some ⟨w.heap.size, j, none⟩) := hv 6 _ 52 rfl rfl
        have e7 : v 7 = .int .i64 xa := hv 7 _ 53 rfl rfl
        have e8 : v 8 = .int .i64 (j : Int) := hv 8 _ 54 rfl rfl
        have e9 : v 9 = .pointer (some ⟨(w.heap.size + 1), 0, none⟩) := hv 9 _ 55 rfl rfl
        have e10 : v 10 = .pointer (some ⟨(w.heap.size + 1), j, none⟩) := hv 10 _ 56 rfl rfl
        have e11 : v 11 = .int .i64 xb := hv 11 _ 57 rfl rfl
        have e12 : v 12 = .int .i64 (min xa xb) := hv 12 _ 58 rfl rfl
        have e13 : v 13 = .bool false := hv 13 _ 59 rfl rfl
        have e14 : v 14 = .bool false := hv 14 _ 60 rfl rfl
        have e15 : v 15 = .int .i64 (j : Int) := hv 15 _ 61 rfl rfl
        have e16 : v 16 = .pointer (some ⟨w5.heap.size, 0, none⟩) := hv 16 _ 62 rfl rfl
        have e17 : v 17 = .pointer (some ⟨w5.heap.size, j, none⟩) := hv 17 _ 63 rfl rfl
        have e18 : v 18 = .int .i64 xc := hv 18 _ 64 rfl rfl
        have e19 : v 19 = .int .i64 (j : Int) := hv 19 _ 65 rfl rfl
        have e20 : v 20 = .pointer (some ⟨w.heap.size, 0, none⟩) := hv 20 _ 66 rfl rfl
        have e21 : v 21 = .pointer (some ⟨w.heap.size, j, none⟩) := hv 21 _ 67 rfl rfl
        have e22 : v 22 = .int .i64 xa := hv 22 _ 68 rfl rfl
        have e23 : v 23 = .int .i64 (j : Int) := hv 23 _ 69 rfl rfl
        have e24 : v 24 = .pointer (some ⟨(w.heap.size + 1), 0, none⟩) := hv 24 _ 70 rfl rfl
        have e25 : v 25 = .pointer (some ⟨(w.heap.size + 1), j, none⟩) := hv 25 _ 71 rfl rfl
        have e26 : v 26 = .int .i64 xb := hv 26 _ 72 rfl rfl
        have e27 : v 27 = .int .i64 (max xa xb) := hv 27 _ 73 rfl rfl
        have e28 : v 28 = .bool false := hv 28 _ 74 rfl rfl
        have e29 : v 29 = .bool false := hv 29 _ 75 rfl rfl
        simp only [Pred.putsF_cons, Pred.putsF_nil, Nat.zero_add, Nat.reduceAdd, e0, e1, e2, e3, e4, e5, e6, e7, e8, e9, e10, e11, e12, e13, e14, e15, e16, e17, e18, e19, e20, e21, e22, e23, e24, e25, e26, e27, e28, e29, Act.put, List.setIfInBounds_toArray, List.set_cons_zero, List.set_cons_succ]
        clear e0 e1 e2 e3 e4 e5 e6 e7 e8 e9 e10 e11 e12 e13 e14 e15 e16 e17 e18 e19 e20 e21 e22 e23 e24 e25 e26 e27 e28 e29 hv
        go_wp2
        go_roundw
        case rel =>
          exact ⟨j + 1, by omega, by go_num, hbW.trans (hE.mono hbW.size)⟩
        case measure => simp [intOf]; omega
      · obtain rfl : j = 4 := by omega
        have M4 := HM.out 4 (by omega)
        have M5 := HM.out 5 (by omega)
        have n := HNR.out
        have bd := BDD.out
        have q : (d - f).tdiv 131072 = (d - f) / 131072 := Int.tdiv_eq_ediv_of_nonneg (by omega)
        obtain ⟨qq, eq⟩ : ∃ q, (d - f) / 131072 = q := ⟨_, rfl⟩
        have bq : 0 ≤ qq ∧ qq ≤ 16384 := by omega
        rw [eq] at q n
        have M4' : min x4 y4 ≤ c4 ∧ c4 ≤ max x4 y4 := M4
        have M5' : min x5 y5 ≤ c5 ∧ c5 ≤ max x5 y5 := M5
        have b1 := bd.2.2.1
        have b2 := bd.2.2.2
        have g1 : decide (min x4 y4 ≤ c4) = true := decide_eq_true M4'.1
        have g2 : decide (c4 ≤ max x4 y4) = true := decide_eq_true M4'.2
        have g3 : decide (min x5 y5 ≤ c5) = true := decide_eq_true M5'.1
        have g4 : decide (c5 ≤ max x5 y5) = true := decide_eq_true M5'.2
        have g5 : decide (-(qq + 3) ≤ u) = true := decide_eq_true n.2
        have g6 : decide (u ≤ qq + 3) = true := decide_eq_true n.1
        clear eq M4 M5 bd M4' M5' n
        go_wp2_with fail
        refine (CU.out _).mono ?_
        rintro e w8 ⟨rfl, hb8⟩
        have bA8 := (blk_below hb8 _ lA).trans bA
        have bB8 := (blk_below hb8 _ lB).trans bB
        have bC8 := (blk_below hb8 _ lC).trans bC
        have L8 : Below w.heap.size w w8 := by repeat' (first | (with_reducible exact Below.refl _ _) | (with_reducible refine Rd.below_step ?_ (by assumption)) | (with_reducible refine Rd.below_alloc ?_ _) | (with_reducible refine Rd.below_drewN ?_ _) | (with_reducible refine Below.drew ?_) | (with_reducible refine Below.setCell ?_ ?_ _) | (with_reducible refine Rd.below_setRow ?_ ?_ _) | go_size | (simp only [World.size_alloc]; omega) | omega)
        clear hb8 bA bB bC CU
        have kA4 : w8.cell? ⟨w.heap.size, 4, none⟩ = some (.int .i64 x4) := by rw [blk_cell bA8]; rfl
        have kA5 : w8.cell? ⟨w.heap.size, 5, none⟩ = some (.int .i64 x5) := by rw [blk_cell bA8]; rfl
        have kB4 : w8.cell? ⟨w.heap.size + 1, 4, none⟩ = some (.int .i64 y4) := by rw [blk_cell bB8]; rfl
        have kB5 : w8.cell? ⟨w.heap.size + 1, 5, none⟩ = some (.int .i64 y5) := by rw [blk_cell bB8]; rfl
        have kC4 : w8.cell? ⟨w5.heap.size, 4, none⟩ = some (.int .i64 c4) := by rw [blk_cell bC8]; rfl
        have kC5 : w8.cell? ⟨w5.heap.size, 5, none⟩ = some (.int .i64 c5) := by rw [blk_cell bC8]; rfl
        clear bA8 bB8 bC8
        go_wp2_with fail
        refine (awake_any _).mono ?_
        rintro e w9 ⟨rfl, hb9⟩
        have L9 : Below w.heap.size w w9 := by repeat' (first | (with_reducible exact Below.refl _ _) | (with_reducible refine Rd.below_step ?_ (by assumption)) | (with_reducible refine Rd.below_alloc ?_ _) | (with_reducible refine Rd.below_drewN ?_ _) | (with_reducible refine Below.drew ?_) | (with_reducible refine Below.setCell ?_ ?_ _) | (with_reducible refine Rd.below_setRow ?_ ?_ _) | go_size | (simp only [World.size_alloc]; omega) | omega)
        go_wp2
        go_ret
        exact ⟨rfl, L9⟩
end Go.Proofs.Ytbbkdjpdifkadaa.ClK
