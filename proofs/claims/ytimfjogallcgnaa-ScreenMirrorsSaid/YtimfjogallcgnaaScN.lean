/-
  The walk of ScreenMirrors.
-/
import Derived.Test.YtimfjogallcgnaaScJ
import Derived.BigQuiet
import Derived.Test.YtimfjogallcgnaaPredT
namespace Go.Proofs.Ytimfjogallcgnaa.ScN
open Go.RowKit FixA Num Rd Go.Proofs.Ytimfjogallcgnaa.Row Mid ClM ClC ClD ScM ScA ScB ScC ScD ScE ScF ScG ScH ScI ScJ
open Go.Proofs.Ytimfjogallcgnaa.PredT (Stab)
set_option linter.unusedVariables false
set_option linter.unusedSimpArgs false
set_option maxRecDepth 10000
attribute [local go_sem ↓] load_spot store_spot load_vx store_vx
attribute [local go_sem] one_int run_load_vx run_store_vx run_load_spot run_store_spot pcS midLoad_eq rowLoad_eq rowStore_eq blk_alloc_at blk_alloc_old blk_drew blk_drewN blk_set_far blk_set_far' blk_grow setRow_alloc_at setRow_alloc_old setRow_drew setRow_drewN
set_option maxHeartbeats 4000000 in
theorem mirrors_gen (a0 a1 a2 a3 a4 a5 w h : Int) (W : World) (wa0 : (Lit.int .i64 a0).wf = true) (wa1 : (Lit.int .i64 a1).wf = true) :
    Calls Try.prog 5 #[.agg #[.int .i64 a0, .int .i64 a1, .int .i64 a2, .int .i64 a3, .int .i64 a4, .int .i64 a5], .int .i64 w, .int .i64 h] W fun e w' => e = .returned (.bool true) ∧ Below W.heap.size W w' := by
  have CS := Lib.hid (spot_any [a0, a1, a2, a3, a4, a5] rfl w h)
  by_cases hok : (frameB w h && vxB [a0, a1, a2, a3, a4, a5]) = true
  case neg =>
    have hok' : (frameB w h && vxB [a0, a1, a2, a3, a4, a5]) = false := by simpa using hok
    have eS : spotV [a0, a1, a2, a3, a4, a5] w h = (List.replicate 6 0, false) := by unfold spotV; rw [hok']; rfl
    rw [eS] at CS
    clear hok hok' eS
    go_enter Try.func5, Try.ntmps5
    go_wp2_with fail
    refine (CS.out _).mono ?_
    rintro e w1 ⟨rfl, hb1⟩
    have s1 := hb1.size
    simp only [World.size_alloc] at s1
    have L1 : Below W.heap.size W w1 := by repeat' (first | (with_reducible exact Below.refl _ _) | (with_reducible refine Rd.below_step ?_ (by assumption)) | (with_reducible refine Rd.below_alloc ?_ _) | (with_reducible refine Rd.below_drewN ?_ _) | (with_reducible refine Below.drew ?_) | (with_reducible refine Below.setCell ?_ ?_ _) | (with_reducible refine Rd.below_setRow ?_ ?_ _) | go_size | (simp only [World.size_alloc]; omega) | omega)
    clear hb1
    go_wp2_with fail
    refine (awake_any _).mono ?_
    rintro e w2 ⟨rfl, hb2⟩
    have L2 : Below W.heap.size W w2 := by repeat' (first | (with_reducible exact Below.refl _ _) | (with_reducible refine Rd.below_step ?_ (by assumption)) | (with_reducible refine Rd.below_alloc ?_ _) | (with_reducible refine Rd.below_drewN ?_ _) | (with_reducible refine Below.drew ?_) | (with_reducible refine Below.setCell ?_ ?_ _) | (with_reducible refine Rd.below_setRow ?_ ?_ _) | go_size | (simp only [World.size_alloc]; omega) | omega)
    go_wp2
    go_ret
    exact ⟨rfl, L2⟩
  rw [Bool.and_eq_true] at hok
  have hv := vx_of (v := [a0, a1, a2, a3, a4, a5]) rfl hok.2
  have fr := frame_yes hok.1
  obtain ⟨z0, ez0⟩ : ∃ x, near (nX [a0, a1, a2, a3, a4, a5] w) (dV [a0, a1, a2, a3, a4, a5]) = x := ⟨_, rfl⟩
  obtain ⟨z1, ez1⟩ : ∃ x, near (nY [a0, a1, a2, a3, a4, a5] h) (dV [a0, a1, a2, a3, a4, a5]) = x := ⟨_, rfl⟩
  obtain ⟨z2, ez2⟩ : ∃ x, near (nZ [a0, a1, a2, a3, a4, a5]) (dV [a0, a1, a2, a3, a4, a5]) = x := ⟨_, rfl⟩
  obtain ⟨z3, ez3⟩ : ∃ x, dV [a0, a1, a2, a3, a4, a5] = x := ⟨_, rfl⟩
  obtain ⟨r0, er0⟩ : ∃ x, near (nX (mirV [a0, a1, a2, a3, a4, a5]) w) (dV [a0, a1, a2, a3, a4, a5]) = x := ⟨_, rfl⟩
  obtain ⟨r1, er1⟩ : ∃ x, near (nY (mirV [a0, a1, a2, a3, a4, a5]) h) (dV [a0, a1, a2, a3, a4, a5]) = x := ⟨_, rfl⟩
  have mx := mir_x (w := w) hv
  have my := mir_y (h := h) hv
  rw [ez0, er0] at mx
  rw [ez1, er1] at my
  have si := spot_in (w := w) (h := h) hv (by omega) (by omega)
  have sm := spot_in (w := w) (h := h) (mirV_vx hv) (by omega) (by omega)
  have zx0 : 0 ≤ z0 ∧ z0 ≤ 256 * w := by rw [← ez0]; exact ⟨si.x0, si.x1⟩
  have zy0 : 0 ≤ z1 ∧ z1 ≤ 256 * h := by rw [← ez1]; exact ⟨si.y0, si.y1⟩
  have rx0 : 0 ≤ r0 ∧ r0 ≤ 256 * w := by rw [← er0]; exact ⟨sm.x0, sm.x1⟩
  have ry0 : 0 ≤ r1 ∧ r1 ≤ 256 * h := by rw [← er1]; exact ⟨sm.y0, sm.y1⟩
  have CM := Lib.hid (spot_any (mirV [a0, a1, a2, a3, a4, a5]) rfl w h)
  have e1 : spotV [a0, a1, a2, a3, a4, a5] w h = ([z0, z1, z2, z3] ++ [a4, a5], true) := by
    rw [spotV_yes hok.1 hok.2]
    unfold spotL
    rw [ez0, ez1, ez2, ez3]; rfl
  have e2 : spotV (mirV [a0, a1, a2, a3, a4, a5]) w h = ([r0, r1, z2, z3] ++ [a4, a5], true) := by
    rw [spotV_yes hok.1 (vxB_of (mirV_vx hv))]
    rw [← er0, ← er1, ← ez2, ← ez3]; rfl
  rw [e1] at CS
  rw [e2] at CM
  have x0a := hv.x0
  have x0b := hv.x1
  have x1a := hv.y0
  have x1b := hv.y1
  change -536870912 ≤ a0 at x0a
  change a0 ≤ 536870912 at x0b
  change -536870912 ≤ a1 at x1a
  change a1 ≤ 536870912 at x1b
  have CM' : Hid (∀ X : World, Calls Try.prog 8 #[.agg #[.int .i64 (-a0), .int .i64 (-a1), .int .i64 a2, .int .i64 a3, .int .i64 a4, .int .i64 a5], .int .i64 w, .int .i64 h] X fun e w' => e = .returned (.tuple #[.agg #[.int .i64 r0, .int .i64 r1, .int .i64 z2, .int .i64 z3, .int .i64 a4, .int .i64 a5], .bool true]) ∧ Below X.heap.size X w') := fun X => CM.out X
  have CS' : Hid (∀ X : World, Calls Try.prog 8 #[.agg #[.int .i64 a0, .int .i64 a1, .int .i64 a2, .int .i64 a3, .int .i64 a4, .int .i64 a5], .int .i64 w, .int .i64 h] X fun e w' => e = .returned (.tuple #[.agg #[.int .i64 z0, .int .i64 z1, .int .i64 z2, .int .i64 z3, .int .i64 a4, .int .i64 a5], .bool true]) ∧ Below X.heap.size X w') := fun X => CS.out X
  clear CM CS e1 e2 ez0 ez1 ez2 ez3 er0 er1 si sm hv hok
  go_enter Try.func5, Try.ntmps5
  go_wp2_with fail
  refine (CS'.out _).mono ?_
  rintro e w1 ⟨rfl, hb1⟩
  have s1 := hb1.size
  simp only [World.size_alloc] at s1
  have bV1 : blk w1 W.heap.size = some (.cells #[.int .i64 a0, .int .i64 a1, .int .i64 a2, .int .i64 a3, .int .i64 a4, .int .i64 a5] 25 (0, 0)) := (blk_below hb1 _ (by simp)).trans (blk_alloc_at _ _ _ rfl)
  have L1 : Below W.heap.size W w1 := by repeat' (first | (with_reducible exact Below.refl _ _) | (with_reducible refine Rd.below_step ?_ (by assumption)) | (with_reducible refine Rd.below_alloc ?_ _) | (with_reducible refine Rd.below_drewN ?_ _) | (with_reducible refine Below.drew ?_) | (with_reducible refine Below.setCell ?_ ?_ _) | (with_reducible refine Rd.below_setRow ?_ ?_ _) | go_size | (simp only [World.size_alloc]; omega) | omega)
  clear hb1 CS'
  have lV1 := blk_lt bV1
  go_upto_region 5 with (fail)
  refine Rd.name_world ?_
  intro w2 hw
  have bA : blk w2 w1.heap.size = some (.cells #[.int .i64 z0, .int .i64 z1, .int .i64 z2, .int .i64 z3, .int .i64 a4, .int .i64 a5] 33 (0, 0)) := by rw [hw]; exact blk2_0 _ _ _
  have bO : blk w2 (w1.heap.size + 1) = some (.cells #[.int .i64 a0, .int .i64 a1, .int .i64 a2, .int .i64 a3, .int .i64 a4, .int .i64 a5] 25 (0, 0)) := by rw [hw]; exact blk2_1 _ _ _
  have bV : blk w2 W.heap.size = some (.cells #[.int .i64 a0, .int .i64 a1, .int .i64 a2, .int .i64 a3, .int .i64 a4, .int .i64 a5] 25 (0, 0)) := by rw [hw]; exact (blk_alloc_old _ _ _ (by simp; have := blk_lt bV1; omega)).trans ((blk_alloc_old _ _ _ (blk_lt bV1)).trans bV1)
  have L2 : Below W.heap.size W w2 := by
    rw [hw]
    repeat' (first | (with_reducible exact Below.refl _ _) | (with_reducible refine Rd.below_step ?_ (by assumption)) | (with_reducible refine Rd.below_alloc ?_ _) | (with_reducible refine Rd.below_drewN ?_ _) | (with_reducible refine Below.drew ?_) | (with_reducible refine Below.setCell ?_ ?_ _) | (with_reducible refine Rd.below_setRow ?_ ?_ _) | go_size | (simp only [World.size_alloc]; omega) | omega)
  have lO := blk_lt bO
  have lA := blk_lt bA
  have lV := blk_lt bV
  clear hw bV1 L1 lV1
  refine PredT.region_of (W := w2) (w1.heap.size + 1) (by omega) [10, 13] [
      fun y => blk y (w1.heap.size + 1) = some (.cells #[.int .i64 a0, .int .i64 a1, .int .i64 a2, .int .i64 a3, .int .i64 a4, .int .i64 a5] 25 (0, 0)),
      fun y => blk y (w1.heap.size + 1) = some (.cells #[.int .i64 (-a0), .int .i64 a1, .int .i64 a2, .int .i64 a3, .int .i64 a4, .int .i64 a5] 25 (0, 0)),
      fun y => blk y (w1.heap.size + 1) = some (.cells #[.int .i64 (-a0), .int .i64 (-a1), .int .i64 a2, .int .i64 a3, .int .i64 a4, .int .i64 a5] 25 (0, 0))] [
      PredT.At 0 (.pointer (some ⟨W.heap.size, 0, none⟩)),
      PredT.At 0 (.pointer (some ⟨W.heap.size, 0, none⟩)),
      PredT.At 0 (.int .i64 a0),
      PredT.At 0 (.int .i64 (-a0)),
      PredT.At 0 (.pointer (some ⟨W.heap.size, 0, none⟩)),
      PredT.At 0 (.pointer (some ⟨W.heap.size, 1, none⟩)),
      PredT.At 0 (.int .i64 a1),
      PredT.At 0 (.int .i64 (-a1)),
      PredT.At 0 (.pointer (some ⟨w1.heap.size + 1, 0, none⟩)),
      PredT.At 0 (.pointer (some ⟨w1.heap.size + 1, 0, none⟩)),
      PredT.At 0 (undef),
      PredT.At 0 (.pointer (some ⟨w1.heap.size + 1, 0, none⟩)),
      PredT.At 0 (.pointer (some ⟨w1.heap.size + 1, 1, none⟩)),
      PredT.At 0 (undef)] (by kernel_rfl) (by kernel_rfl) (by kernel_rfl) (by decide) (by decide) ?_ ?_ ?_ ?_ ?_ ?_
  · exact ⟨PredT.at_stab _ _ _ _, PredT.at_stab _ _ _ _, PredT.at_stab _ _ _ _, PredT.at_stab _ _ _ _, PredT.at_stab _ _ _ _, PredT.at_stab _ _ _ _, PredT.at_stab _ _ _ _, PredT.at_stab _ _ _ _, PredT.at_stab _ _ _ _, PredT.at_stab _ _ _ _, PredT.at_stab _ _ _ _, PredT.at_stab _ _ _ _, PredT.at_stab _ _ _ _, PredT.at_stab _ _ _ _, trivial⟩
  · intro q hq
    rcases List.mem_cons.1 hq with rfl | hq
    · exact fun w w' h hb => (hb.block _ (blk_lt h)).trans h
    rcases List.mem_cons.1 hq with rfl | hq
    · exact fun w w' h hb => (hb.block _ (blk_lt h)).trans h
    rcases List.mem_cons.1 hq with rfl | hq
    · exact fun w w' h hb => (hb.block _ (blk_lt h)).trans h
    cases hq
  · exact bO
  · refine ⟨.inr ?_, .inr ?_, .inr ?_, .inr ?_, .inr ?_, .inr ?_, .inr ?_, .inr ?_, .inr ?_, .inr ?_, .inl rfl, .inr ?_, .inr ?_, .inl rfl, trivial⟩
    · intro b X p hE hd hn hS hV hI hF
      have r3 : b.tmps[3]?.getD undef = .pointer (some ⟨W.heap.size, 0, none⟩) := (hn 3 (by kernel_rfl)).trans rfl
      exact Pred.yields_run (v := .pointer (some ⟨W.heap.size, 0, none⟩)) (Pred.wanted_none rfl) (by go_simp) ⟨Below.refl _ _, rfl, Nat.zero_le _⟩
    · intro b X p hE hd hn hS hV hI hF
      obtain ⟨r25, j25⟩ : PredT.At 0 (.pointer (some ⟨W.heap.size, 0, none⟩)) (b.tmps[25]?.getD undef) X p := hV 0 _ 25 rfl rfl (Pred.waits_near (by kernel_rfl) (by kernel_rfl))
      exact Pred.yields_run (v := .pointer (some ⟨W.heap.size, 0, none⟩)) (Pred.wanted_none rfl) (by go_simp) ⟨Below.refl _ _, rfl, Nat.zero_le _⟩
    · intro b X p hE hd hn hS hV hI hF
      obtain ⟨r26, j26⟩ : PredT.At 0 (.pointer (some ⟨W.heap.size, 0, none⟩)) (b.tmps[26]?.getD undef) X p := hV 1 _ 26 rfl rfl (Pred.waits_near (by kernel_rfl) (by kernel_rfl))
      have q : blk X W.heap.size = some (.cells #[.int .i64 a0, .int .i64 a1, .int .i64 a2, .int .i64 a3, .int .i64 a4, .int .i64 a5] 25 (0, 0)) := (hE.block W.heap.size (by omega)).trans bV
      have q2 : X.cell? ⟨W.heap.size, 0, none⟩ = some (.int .i64 a0) := by rw [blk_cell q]; rfl
      exact Pred.yields_run (v := .int .i64 a0) (Pred.wanted_none rfl) (by go_simp) ⟨Below.refl _ _, rfl, Nat.zero_le _⟩
    · intro b X p hE hd hn hS hV hI hF
      obtain ⟨r27, j27⟩ : PredT.At 0 (.int .i64 a0) (b.tmps[27]?.getD undef) X p := hV 2 _ 27 rfl rfl (Pred.waits_near (by kernel_rfl) (by kernel_rfl))
      have hwr : IntKind.i64.wrap (-a0) = -a0 := IntWalk.i64_in _ (by omega)
      exact Pred.yields_run (v := .int .i64 (-a0)) (Pred.wanted_none rfl) (by go_simp) ⟨Below.refl _ _, rfl, Nat.zero_le _⟩
    · intro b X p hE hd hn hS hV hI hF
      have r3 : b.tmps[3]?.getD undef = .pointer (some ⟨W.heap.size, 0, none⟩) := (hn 3 (by kernel_rfl)).trans rfl
      exact Pred.yields_run (v := .pointer (some ⟨W.heap.size, 0, none⟩)) (Pred.wanted_none rfl) (by go_simp) ⟨Below.refl _ _, rfl, Nat.zero_le _⟩
    · intro b X p hE hd hn hS hV hI hF
      obtain ⟨r29, j29⟩ : PredT.At 0 (.pointer (some ⟨W.heap.size, 0, none⟩)) (b.tmps[29]?.getD undef) X p := hV 4 _ 29 rfl rfl (Pred.waits_near (by kernel_rfl) (by kernel_rfl))
      exact Pred.yields_run (v := .pointer (some ⟨W.heap.size, 1, none⟩)) (Pred.wanted_none rfl) (by go_simp) ⟨Below.refl _ _, rfl, Nat.zero_le _⟩
    · intro b X p hE hd hn hS hV hI hF
      obtain ⟨r30, j30⟩ : PredT.At 0 (.pointer (some ⟨W.heap.size, 1, none⟩)) (b.tmps[30]?.getD undef) X p := hV 5 _ 30 rfl rfl (Pred.waits_near (by kernel_rfl) (by kernel_rfl))
      have q : blk X W.heap.size = some (.cells #[.int .i64 a0, .int .i64 a1, .int .i64 a2, .int .i64 a3, .int .i64 a4, .int .i64 a5] 25 (0, 0)) := (hE.block W.heap.size (by omega)).trans bV
      have q2 : X.cell? ⟨W.heap.size, 1, none⟩ = some (.int .i64 a1) := by rw [blk_cell q]; rfl
      exact Pred.yields_run (v := .int .i64 a1) (Pred.wanted_none rfl) (by go_simp) ⟨Below.refl _ _, rfl, Nat.zero_le _⟩
    · intro b X p hE hd hn hS hV hI hF
      obtain ⟨r31, j31⟩ : PredT.At 0 (.int .i64 a1) (b.tmps[31]?.getD undef) X p := hV 6 _ 31 rfl rfl (Pred.waits_near (by kernel_rfl) (by kernel_rfl))
      have hwr : IntKind.i64.wrap (-a1) = -a1 := IntWalk.i64_in _ (by omega)
      exact Pred.yields_run (v := .int .i64 (-a1)) (Pred.wanted_none rfl) (by go_simp) ⟨Below.refl _ _, rfl, Nat.zero_le _⟩
    · intro b X p hE hd hn hS hV hI hF
      have r9 : b.tmps[9]?.getD undef = .pointer (some ⟨w1.heap.size + 1, 0, none⟩) := (hn 9 (by kernel_rfl)).trans rfl
      exact Pred.yields_run (v := .pointer (some ⟨w1.heap.size + 1, 0, none⟩)) (Pred.wanted_none rfl) (by go_simp) ⟨Below.refl _ _, rfl, Nat.zero_le _⟩
    · intro b X p hE hd hn hS hV hI hF
      obtain ⟨r33, j33⟩ : PredT.At 0 (.pointer (some ⟨w1.heap.size + 1, 0, none⟩)) (b.tmps[33]?.getD undef) X p := hV 8 _ 33 rfl rfl (Pred.waits_near (by kernel_rfl) (by kernel_rfl))
      exact Pred.yields_run (v := .pointer (some ⟨w1.heap.size + 1, 0, none⟩)) (Pred.wanted_none rfl) (by go_simp) ⟨Below.refl _ _, rfl, Nat.zero_le _⟩
    · intro b X p hE hd hn hS hV hI hF
      have r9 : b.tmps[9]?.getD undef = .pointer (some ⟨w1.heap.size + 1, 0, none⟩) := (hn 9 (by kernel_rfl)).trans rfl
      exact Pred.yields_run (v := .pointer (some ⟨w1.heap.size + 1, 0, none⟩)) (Pred.wanted_none rfl) (by go_simp) ⟨Below.refl _ _, rfl, Nat.zero_le _⟩
    · intro b X p hE hd hn hS hV hI hF
      obtain ⟨r35, j35⟩ : PredT.At 0 (.pointer (some ⟨w1.heap.size + 1, 0, none⟩)) (b.tmps[35]?.getD undef) X p := hV 11 _ 35 rfl rfl (Pred.waits_near (by kernel_rfl) (by kernel_rfl))
      exact Pred.yields_run (v := .pointer (some ⟨w1.heap.size + 1, 1, none⟩)) (Pred.wanted_none rfl) (by go_simp) ⟨Below.refl _ _, rfl, Nat.zero_le _⟩
  · refine ⟨?_, ?_, trivial⟩
    · refine ⟨_, rfl, fun k hk => (by cases hk), fun b X hE hd hn hS hV hI => ?_⟩
      obtain ⟨r34, j34⟩ : PredT.At 0 (.pointer (some ⟨w1.heap.size + 1, 0, none⟩)) (b.tmps[34]?.getD undef) X 0 := hV 9 _ 34 rfl rfl (Pred.waits_near (by kernel_rfl) (by kernel_rfl))
      obtain ⟨r28, j28⟩ : PredT.At 0 (.int .i64 (-a0)) (b.tmps[28]?.getD undef) X 0 := hV 3 _ 28 rfl rfl (Pred.waits_near (by kernel_rfl) (by kernel_rfl))
      replace hS : (fun y => blk y (w1.heap.size + 1) = some (.cells #[.int .i64 a0, .int .i64 a1, .int .i64 a2, .int .i64 a3, .int .i64 a4, .int .i64 a5] 25 (0, 0))) X := hS
      have q0 : X.cell? ⟨w1.heap.size + 1, 0, none⟩ = some (.int .i64 a0) := by rw [blk_cell hS]; rfl
      have q1 : X.frozen? ⟨w1.heap.size + 1, 0, none⟩ = false := blk_frozen hS _
      refine PredS.yields_skip (w' := X.setCell ⟨w1.heap.size + 1, 0, none⟩ (.int .i64 (-a0))) (Pred.wanted_none rfl) (by go_simp) ⟨⟨rfl, rfl, rfl, by simp, fun k hk => heap_setCell_other _ _ _ _ (by show k ≠ w1.heap.size + 1; omega)⟩, ?_, rfl, Nat.zero_le _⟩
      exact blk_set X (w1.heap.size + 1) 0 _ _ _ hS
    · refine ⟨_, rfl, fun k hk => (by cases hk; exact Pred.waits_near (by kernel_rfl) (by kernel_rfl)), fun b X hE hd hn hS hV hI => ?_⟩
      obtain ⟨r36, j36⟩ : PredT.At 0 (.pointer (some ⟨w1.heap.size + 1, 1, none⟩)) (b.tmps[36]?.getD undef) X 1 := hV 12 _ 36 rfl rfl (Pred.waits_near (by kernel_rfl) (by kernel_rfl))
      obtain ⟨r32, j32⟩ : PredT.At 0 (.int .i64 (-a1)) (b.tmps[32]?.getD undef) X 1 := hV 7 _ 32 rfl rfl (Pred.waits_near (by kernel_rfl) (by kernel_rfl))
      replace hS : (fun y => blk y (w1.heap.size + 1) = some (.cells #[.int .i64 (-a0), .int .i64 a1, .int .i64 a2, .int .i64 a3, .int .i64 a4, .int .i64 a5] 25 (0, 0))) X := hS
      have q0 : X.cell? ⟨w1.heap.size + 1, 1, none⟩ = some (.int .i64 a1) := by rw [blk_cell hS]; rfl
      have q1 : X.frozen? ⟨w1.heap.size + 1, 1, none⟩ = false := blk_frozen hS _
      refine PredS.yields_skip (w' := X.setCell ⟨w1.heap.size + 1, 1, none⟩ (.int .i64 (-a1))) (Pred.wanted_none rfl) (by go_simp) ⟨⟨rfl, rfl, rfl, by simp, fun k hk => heap_setCell_other _ _ _ _ (by show k ≠ w1.heap.size + 1; omega)⟩, ?_, rfl, Nat.zero_le _⟩
      exact blk_set X (w1.heap.size + 1) 1 _ _ _ hS
  intro v w3 hE hS hv
  replace hS : (fun y => blk y (w1.heap.size + 1) = some (.cells #[.int .i64 (-a0), .int .i64 (-a1), .int .i64 a2, .int .i64 a3, .int .i64 a4, .int .i64 a5] 25 (0, 0))) w3 := hS
  have e0 : v 0 = .pointer (some ⟨W.heap.size, 0, none⟩) := (hv 0 _ 25 rfl rfl).1
  have e1 : v 1 = .pointer (some ⟨W.heap.size, 0, none⟩) := (hv 1 _ 26 rfl rfl).1
  have e2 : v 2 = .int .i64 a0 := (hv 2 _ 27 rfl rfl).1
  have e3 : v 3 = .int .i64 (-a0) := (hv 3 _ 28 rfl rfl).1
  have e4 : v 4 = .pointer (some ⟨W.heap.size, 0, none⟩) := (hv 4 _ 29 rfl rfl).1
  have e5 : v 5 = .pointer (some ⟨W.heap.size, 1, none⟩) := (hv 5 _ 30 rfl rfl).1
  have e6 : v 6 = .int .i64 a1 := (hv 6 _ 31 rfl rfl).1
  have e7 : v 7 = .int .i64 (-a1) := (hv 7 _ 32 rfl rfl).1
  have e8 : v 8 = .pointer (some ⟨w1.heap.size + 1, 0, none⟩) := (hv 8 _ 33 rfl rfl).1
  have e9 : v 9 = .pointer (some ⟨w1.heap.size + 1, 0, none⟩) := (hv 9 _ 34 rfl rfl).1
  have e11 : v 11 = .pointer (some ⟨w1.heap.size + 1, 0, none⟩) := (hv 11 _ 35 rfl rfl).1
  have e12 : v 12 = .pointer (some ⟨w1.heap.size + 1, 1, none⟩) := (hv 12 _ 36 rfl rfl).1
  simp only [Pred.putsF_cons, Pred.putsF_nil, Nat.zero_add, Nat.reduceAdd, e0, e1, e2, e3, e4, e5, e6, e7, e8, e9, e11, e12, Act.put, List.setIfInBounds_toArray, List.set_cons_zero, List.set_cons_succ]
  clear e0 e1 e2 e3 e4 e5 e6 e7 e8 e9 e11 e12 hv
  have bA3 : blk w3 w1.heap.size = some (.cells #[.int .i64 z0, .int .i64 z1, .int .i64 z2, .int .i64 z3, .int .i64 a4, .int .i64 a5] 33 (0, 0)) := (hE.block w1.heap.size (by omega)).trans bA
  have bO3 : blk w3 (w1.heap.size + 1) = some (.cells #[.int .i64 (-a0), .int .i64 (-a1), .int .i64 a2, .int .i64 a3, .int .i64 a4, .int .i64 a5] 25 (0, 0)) := hS
  have L3 : Below W.heap.size W w3 := L2.trans (hE.mono (by omega))
  clear hS hE bA bO bV L2 lO lA lV
  go_wp2_with fail
  refine (CM'.out _).mono ?_
  rintro e w4 ⟨rfl, hb4⟩
  have bA4 := (blk_below hb4 _ (blk_lt bA3)).trans bA3
  have L4 : Below W.heap.size W w4 := by repeat' (first | (with_reducible exact Below.refl _ _) | (with_reducible refine Rd.below_step ?_ (by assumption)) | (with_reducible refine Rd.below_alloc ?_ _) | (with_reducible refine Rd.below_drewN ?_ _) | (with_reducible refine Below.drew ?_) | (with_reducible refine Below.setCell ?_ ?_ _) | (with_reducible refine Rd.below_setRow ?_ ?_ _) | go_size | (simp only [World.size_alloc]; omega) | omega)
  clear hb4 bA3 bO3 L3 CM'
  go_upto_region 7 with (fail)
  refine Rd.name_world ?_
  intro w5 hw
  have bA5 : blk w5 w1.heap.size = some (.cells #[.int .i64 z0, .int .i64 z1, .int .i64 z2, .int .i64 z3, .int .i64 a4, .int .i64 a5] 33 (0, 0)) := by rw [hw]; exact (blk_alloc_old _ _ _ (blk_lt bA4)).trans bA4
  have bB5 : blk w5 w4.heap.size = some (.cells #[.int .i64 r0, .int .i64 r1, .int .i64 z2, .int .i64 z3, .int .i64 a4, .int .i64 a5] 33 (0, 0)) := by rw [hw]; exact blk_alloc_at _ _ _ rfl
  have L5 : Below W.heap.size W w5 := by
    rw [hw]
    repeat' (first | (with_reducible exact Below.refl _ _) | (with_reducible refine Rd.below_step ?_ (by assumption)) | (with_reducible refine Rd.below_alloc ?_ _) | (with_reducible refine Rd.below_drewN ?_ _) | (with_reducible refine Below.drew ?_) | (with_reducible refine Below.setCell ?_ ?_ _) | (with_reducible refine Rd.below_setRow ?_ ?_ _) | go_size | (simp only [World.size_alloc]; omega) | omega)
  clear hw bA4 L4
  have p0 : w5.cell? ⟨w1.heap.size, 0, none⟩ = some (.int .i64 z0) := by rw [blk_cell bA5]; rfl
  have p1 : w5.cell? ⟨w1.heap.size, 1, none⟩ = some (.int .i64 z1) := by rw [blk_cell bA5]; rfl
  have p2 : w5.cell? ⟨w1.heap.size, 2, none⟩ = some (.int .i64 z2) := by rw [blk_cell bA5]; rfl
  have p3 : w5.cell? ⟨w1.heap.size, 3, none⟩ = some (.int .i64 z3) := by rw [blk_cell bA5]; rfl
  have q0 : w5.cell? ⟨w4.heap.size, 0, none⟩ = some (.int .i64 r0) := by rw [blk_cell bB5]; rfl
  have q1 : w5.cell? ⟨w4.heap.size, 1, none⟩ = some (.int .i64 r1) := by rw [blk_cell bB5]; rfl
  have q2 : w5.cell? ⟨w4.heap.size, 2, none⟩ = some (.int .i64 z2) := by rw [blk_cell bB5]; rfl
  have q3 : w5.cell? ⟨w4.heap.size, 3, none⟩ = some (.int .i64 z3) := by rw [blk_cell bB5]; rfl
  have hx0 : 0 ≤ z0 + r0 - 256 * w := mx.1
  have hx1 : z0 + r0 - 256 * w ≤ 1 := mx.2
  have hy0 : 0 ≤ z1 + r1 - 256 * h := my.1
  have hy1 : z1 + r1 - 256 * h ≤ 1 := my.2
  have d0 : decide (0 ≤ z0 + r0 - 256 * w) = true := decide_eq_true hx0
  have d1 : decide (z0 + r0 - 256 * w ≤ 1) = true := decide_eq_true hx1
  have d2 : decide (0 ≤ z1 + r1 - 256 * h) = true := decide_eq_true hy0
  have d3 : decide (z1 + r1 - 256 * h ≤ 1) = true := decide_eq_true hy1
  clear bA5 bB5
  go_quiet (fail)
  go_wp2_with fail
  refine (awake_any _).mono ?_
  rintro e w6 ⟨rfl, hb6⟩
  have L6 : Below W.heap.size W w6 := by repeat' (first | (with_reducible exact Below.refl _ _) | (with_reducible refine Rd.below_step ?_ (by assumption)) | (with_reducible refine Rd.below_alloc ?_ _) | (with_reducible refine Rd.below_drewN ?_ _) | (with_reducible refine Below.drew ?_) | (with_reducible refine Below.setCell ?_ ?_ _) | (with_reducible refine Rd.below_setRow ?_ ?_ _) | go_size | (simp only [World.size_alloc]; omega) | omega)
  go_wp2
  go_ret
  exact ⟨rfl, L6⟩
end Go.Proofs.Ytimfjogallcgnaa.ScN
