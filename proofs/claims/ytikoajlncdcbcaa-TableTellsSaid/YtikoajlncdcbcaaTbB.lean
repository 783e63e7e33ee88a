/-
  Tables: Set.
-/
import Derived.Test.YtikoajlncdcbcaaTbA
namespace Go.Proofs.Ytikoajlncdcbcaa.TbB
open Go.RowKit Rd Go.Proofs.Ytikoajlncdcbcaa.Row Mid PgM PgA PgB PgC TbA
open Go.Proofs.Ytikoajlncdcbcaa.Pred (Is is_stab Stab)
set_option linter.unusedVariables false
set_option linter.unusedSimpArgs false
set_option maxRecDepth 10000
theorem grown_below {w w2 : World} {row : Option Nat} (h : Below w.heap.size w w2) : w.grownBy w2 row := ⟨h.os, h.tape, h.output, h.size, fun k hk _ => h.block k hk⟩
theorem grown_set {w w2 : World} (h : Below w.heap.size w w2) (g k : Nat) (v : Value) : w.grownBy (w2.setCell ⟨g, k, none⟩ v) (some g) :=
  ⟨h.os, h.tape, h.output, by simpa using h.size, fun j hj hne => (heap_setCell_other w2 ⟨g, k, none⟩ j v (fun e => hne (by rw [e]))).trans (h.block j hj)⟩
theorem Tab.ne {X : World} {t g n : Nat} {bs : List Bool} (h : Tab X t g n bs) : t ≠ g := by
  intro e
  subst e
  have := h.t.symm.trans h.g
  simp at this
theorem _root_.Go.Proofs.Ytikoajlncdcbcaa.TbA.Tab.set {X : World} {t g n : Nat} {bs : List Bool} (h : Tab X t g n bs) (k : Nat) (v : Bool) : Tab (X.setCell ⟨g, k, none⟩ (.bool v)) t g n (bs.set k v) := by
  have hne : t ≠ g := Tab.ne h
  refine ⟨?_, ?_, by rw [List.length_set]; exact h.len, h.depth⟩
  · rw [List.length_set]
    exact (heap_setCell_other X ⟨g, k, none⟩ t (.bool v) (fun e => hne (by first | exact e | exact e.symm))).trans h.t
  · rw [← bb_set]
    exact blk_set _ _ _ _ _ _ h.g
def setB (n : Nat) (L X Y : Int) (yes : Bool) : Bool := validB n L X Y && !(decide ([L, X, Y] = [(n : Int), 0, 0]) && !yes)
attribute [local go_sem ↓] store_pg eq_pg3
attribute [local go_sem] one_int pc3 run_store_pg rowStore_eq blk_alloc_at blk_alloc_old blk_drew blk_drewN blk_set_far blk_set_far' blk_grow setRow_alloc_at setRow_alloc_old setRow_drew setRow_drewN
set_option maxHeartbeats 4000000 in
theorem set_any (t g n : Nat) (bs : List Bool) (L X0 Y0 : Int) (yes : Bool) (w : World) (hTab : Tab w t g n bs) :
    Calls Try.prog 11 #[.pointer (some ⟨t, 0, none⟩), .agg #[.int .i64 L, .int .i64 X0, .int .i64 Y0], .bool yes] w fun e w' => e = .returned (.int .i64 (if setB n L X0 Y0 yes = true then 0 else 1)) ∧ Tab w' t g n (if setB n L X0 Y0 yes = true then bs.set (keyV n L X0 Y0).toNat yes else bs) ∧ w.grownBy w' (some g) := by
  obtain ⟨q, eq⟩ : ∃ q, validB n L X0 Y0 = q := ⟨_, rfl⟩
  have CH : Hid (∀ X : World, Tab X t g n bs → Calls Try.prog 21 #[.pointer (some ⟨t, 0, none⟩), .agg #[.int .i64 L, .int .i64 X0, .int .i64 Y0]] X fun e w' => e = .returned (.bool q) ∧ Below X.heap.size X w') := fun X h => by
    have := has_any t g n bs L X0 Y0 X h
    rw [eq] at this
    exact this
  have CR : Hid (∀ X : World, Calls Try.prog 18 #[.int .i64 n] X fun e w' => e = .returned (.agg #[.int .i64 n, .int .i64 0, .int .i64 0]) ∧ Below X.heap.size X w') := fun X => by
    have := root_any n X
    have hd := hTab.depth
    rw [show rootV (n : Int) = [(n : Int), 0, 0] by unfold rootV; rw [if_pos (depth_mk (by omega) (by omega))]] at this
    exact this
  cases q
  case false =>
    have eB : setB n L X0 Y0 yes = false := by unfold setB; rw [eq]; rfl
    clear eq CR
    go_enter Try.func11, Try.ntmps11
    go_upto_region 1 with (fail)
    refine Rd.name_world ?_
    intro w1 hw
    have bP : blk w1 w.heap.size = some (.cells #[.int .i64 L, .int .i64 X0, .int .i64 Y0] 24 (0, 0)) := by rw [hw]; exact blk_alloc_at _ _ _ rfl
    have L1 : Below w.heap.size w w1 := by
      rw [hw]
      repeat' (first | (with_reducible exact Below.refl _ _) | (with_reducible refine Rd.below_step ?_ (by assumption)) | (with_reducible refine Rd.below_alloc ?_ _) | (with_reducible refine Rd.below_drewN ?_ _) | (with_reducible refine Below.drew ?_) | (with_reducible refine Below.setCell ?_ ?_ _) | (with_reducible refine Rd.below_setRow ?_ ?_ _) | go_size | (simp only [World.size_alloc]; omega) | omega)
    have hT : Tab w1 t g n bs := hTab.bel L1
    have lP := blk_lt bP
    have lT := blk_lt hT.t
    have lG := blk_lt hT.g
    clear hw
    refine Pred.region_vals (Pred.Of [
        Is (.pointer (some ⟨t, 0, none⟩)),
        Is (.agg #[.int .i64 L, .int .i64 X0, .int .i64 Y0]),
        Is (.bool false),
        Is (.bool true),
        Is (.bool true),
        Is (undef),
        Is (undef),
        Is (undef),
        Is (undef),
        Is (undef),
        Is (undef),
        Is (undef),
        Is (undef),
        Is (undef),
        Is (undef),
        Is (undef),
        Is (.bool true)]) (by kernel_rfl) (by kernel_rfl) (by kernel_rfl) (Pred.of_stab ?_) ?_ ?_
    · exact ⟨is_stab _, is_stab _, is_stab _, is_stab _, is_stab _, is_stab _, is_stab _, is_stab _, is_stab _, is_stab _, is_stab _, is_stab _, is_stab _, is_stab _, is_stab _, is_stab _, is_stab _, trivial⟩
    · refine ⟨?_, ?_, ?_, ?_, ?_, ?_, ?_, ?_, ?_, ?_, ?_, ?_, ?_, ?_, ?_, ?_, ?_, trivial⟩
      · intro b X hE hd hn hV
        have r0 : b.tmps[0]?.getD undef = .pointer (some ⟨t, 0, none⟩) := (hn 0 (by kernel_rfl)).trans rfl
        exact Pred.yields_run (v := .pointer (some ⟨t, 0, none⟩)) (Pred.wanted_none rfl) (by go_simp) ⟨Pred.ext_refl _ _, rfl⟩
      · intro b X hE hd hn hV
        have r4 : b.tmps[4]?.getD undef = .pointer (some ⟨w.heap.size, 0, none⟩) := (hn 4 (by kernel_rfl)).trans rfl
        have q := (blk_below hE _ lP).trans bP
        have z0 : X.cell? ⟨w.heap.size, 0, none⟩ = some (.int .i64 L) := by rw [blk_cell q]; rfl
        have z1 : X.cell? ⟨w.heap.size, 1, none⟩ = some (.int .i64 X0) := by rw [blk_cell q]; rfl
        have z2 : X.cell? ⟨w.heap.size, 2, none⟩ = some (.int .i64 Y0) := by rw [blk_cell q]; rfl
        exact Pred.yields_run (v := .agg #[.int .i64 L, .int .i64 X0, .int .i64 Y0]) (Pred.wanted_none rfl) (by go_simp) ⟨Pred.ext_refl _ _, rfl⟩
      · intro b X hE hd hn hV
        have r7 : b.tmps[7]?.getD undef = .pointer (some ⟨t, 0, none⟩) := hV 0 _ 7 rfl rfl (Pred.waits_near (by kernel_rfl) (by kernel_rfl))
        have r8 : b.tmps[8]?.getD undef = .agg #[.int .i64 L, .int .i64 X0, .int .i64 Y0] := hV 1 _ 8 rfl rfl (Pred.waits_near (by kernel_rfl) (by kernel_rfl))
        refine Pred.yields_call (f := 21) (args := #[.pointer (some ⟨t, 0, none⟩), .agg #[.int .i64 L, .int .i64 X0, .int .i64 Y0]]) (Pred.wanted_none rfl) (by go_simp) ?_
        exact (CH.out _ (hT.below hE lT lG)).mono fun e w2 ⟨he, hb⟩ => ⟨_, he, Pred.ext_below hb hE.size, rfl⟩
      · intro b X hE hd hn hV
        have r9 : b.tmps[9]?.getD undef = .bool false := hV 2 _ 9 rfl rfl (Pred.waits_near (by kernel_rfl) (by kernel_rfl))
        exact Pred.yields_run (v := .bool true) (Pred.wanted_none rfl) (by go_simp) ⟨Pred.ext_refl _ _, rfl⟩
      · intro b X hE hd hn hV
        have r10 : b.tmps[10]?.getD undef = .bool true := hV 3 _ 10 rfl rfl (Pred.waits_near (by kernel_rfl) (by kernel_rfl))
        exact Pred.yields_run (v := .bool true) (Pred.wanted_none rfl) (by go_simp) ⟨Pred.ext_refl _ _, rfl⟩
      · intro b X hE hd hn hV
        have r11 : b.tmps[11]?.getD undef = .bool true := hV 4 _ 11 rfl rfl (Pred.waits_near (by kernel_rfl) (by kernel_rfl))
        exact Pred.yields_not ((Pred.wanted_at (g := 4) (d := 11) (f := false) rfl rfl r11).trans rfl) ⟨Pred.ext_refl _ _, rfl⟩
      · intro b X hE hd hn hV
        have r11 : b.tmps[11]?.getD undef = .bool true := hV 4 _ 11 rfl rfl (Pred.waits_near (by kernel_rfl) (by kernel_rfl))
        exact Pred.yields_not ((Pred.wanted_at (g := 4) (d := 11) (f := false) rfl rfl r11).trans rfl) ⟨Pred.ext_refl _ _, rfl⟩
      · intro b X hE hd hn hV
        have r11 : b.tmps[11]?.getD undef = .bool true := hV 4 _ 11 rfl rfl (Pred.waits_near (by kernel_rfl) (by kernel_rfl))
        exact Pred.yields_not ((Pred.wanted_at (g := 4) (d := 11) (f := false) rfl rfl r11).trans rfl) ⟨Pred.ext_refl _ _, rfl⟩
      · intro b X hE hd hn hV
        have r11 : b.tmps[11]?.getD undef = .bool true := hV 4 _ 11 rfl rfl (Pred.waits_near (by kernel_rfl) (by kernel_rfl))
        exact Pred.yields_not ((Pred.wanted_at (g := 4) (d := 11) (f := false) rfl rfl r11).trans rfl) ⟨Pred.ext_refl _ _, rfl⟩
      · intro b X hE hd hn hV
        have r11 : b.tmps[11]?.getD undef = .bool true := hV 4 _ 11 rfl rfl (Pred.waits_near (by kernel_rfl) (by kernel_rfl))
        exact Pred.yields_not ((Pred.wanted_at (g := 4) (d := 11) (f := false) rfl rfl r11).trans rfl) ⟨Pred.ext_refl _ _, rfl⟩
      · intro b X hE hd hn hV
        have r11 : b.tmps[11]?.getD undef = .bool true := hV 4 _ 11 rfl rfl (Pred.waits_near (by kernel_rfl) (by kernel_rfl))
        exact Pred.yields_not ((Pred.wanted_at (g := 4) (d := 11) (f := false) rfl rfl r11).trans rfl) ⟨Pred.ext_refl _ _, rfl⟩
      · intro b X hE hd hn hV
        have r11 : b.tmps[11]?.getD undef = .bool true := hV 4 _ 11 rfl rfl (Pred.waits_near (by kernel_rfl) (by kernel_rfl))
        exact Pred.yields_not ((Pred.wanted_at (g := 4) (d := 11) (f := false) rfl rfl r11).trans rfl) ⟨Pred.ext_refl _ _, rfl⟩
      · intro b X hE hd hn hV
        have r11 : b.tmps[11]?.getD undef = .bool true := hV 4 _ 11 rfl rfl (Pred.waits_near (by kernel_rfl) (by kernel_rfl))
        exact Pred.yields_not ((Pred.wanted_at (g := 4) (d := 11) (f := false) rfl rfl r11).trans rfl) ⟨Pred.ext_refl _ _, rfl⟩
      · intro b X hE hd hn hV
        have r19 : b.tmps[19]?.getD undef = undef := hV 12 _ 19 rfl rfl (Pred.waits_near (by kernel_rfl) (by kernel_rfl))
        exact Pred.yields_not (Pred.wanted_un (g := 12) (d := 19) (f := true) rfl rfl r19) ⟨Pred.ext_refl _ _, rfl⟩
      · intro b X hE hd hn hV
        have r19 : b.tmps[19]?.getD undef = undef := hV 12 _ 19 rfl rfl (Pred.waits_near (by kernel_rfl) (by kernel_rfl))
        exact Pred.yields_not (Pred.wanted_un (g := 12) (d := 19) (f := true) rfl rfl r19) ⟨Pred.ext_refl _ _, rfl⟩
      · intro b X hE hd hn hV
        have r11 : b.tmps[11]?.getD undef = .bool true := hV 4 _ 11 rfl rfl (Pred.waits_near (by kernel_rfl) (by kernel_rfl))
        exact Pred.yields_not ((Pred.wanted_at (g := 4) (d := 11) (f := false) rfl rfl r11).trans rfl) ⟨Pred.ext_refl _ _, rfl⟩
      · intro b X hE hd hn hV
        have r11 : b.tmps[11]?.getD undef = .bool true := hV 4 _ 11 rfl rfl (Pred.waits_near (by kernel_rfl) (by kernel_rfl))
        have r22 : b.tmps[22]?.getD undef = undef := hV 15 _ 22 rfl rfl (Pred.waits_near (by kernel_rfl) (by kernel_rfl))
        exact Pred.yields_run (v := .bool true) (Pred.wanted_none rfl) (by go_simp) ⟨Pred.ext_refl _ _, rfl⟩
    intro v w2 hE hv
    have e0 : v 0 = .pointer (some ⟨t, 0, none⟩) := hv 0 _ 7 rfl rfl
    have e1 : v 1 = .agg #[.int .i64 L, .int .i64 X0, .int .i64 Y0] := hv 1 _ 8 rfl rfl
    have e2 : v 2 = .bool false := hv 2 _ 9 rfl rfl
    have e3 : v 3 = .bool true := hv 3 _ 10 rfl rfl
    have e4 : v 4 = .bool true := hv 4 _ 11 rfl rfl
    have e5 : v 5 = undef := hv 5 _ 12 rfl rfl
    have e6 : v 6 = undef := hv 6 _ 13 rfl rfl
    have e7 : v 7 = undef := hv 7 _ 14 rfl rfl
    have e8 : v 8 = undef := hv 8 _ 15 rfl rfl
    have e9 : v 9 = undef := hv 9 _ 16 rfl rfl
    have e10 : v 10 = undef := hv 10 _ 17 rfl rfl
    have e11 : v 11 = undef := hv 11 _ 18 rfl rfl
    have e12 : v 12 = undef := hv 12 _ 19 rfl rfl
    have e13 : v 13 = undef := hv 13 _ 20 rfl rfl
    have e14 : v 14 = undef := hv 14 _ 21 rfl rfl
    have e15 : v 15 = undef := hv 15 _ 22 rfl rfl
    have e16 : v 16 = .bool true := hv 16 _ 23 rfl rfl
    simp only [Pred.putsF_cons, Pred.putsF_nil, Nat.zero_add, Nat.reduceAdd, e0, e1, e2, e3, e4, e5, e6, e7, e8, e9, e10, e11, e12, e13, e14, e15, e16, Act.put, List.setIfInBounds_toArray, List.set_cons_zero, List.set_cons_succ]
    clear e0 e1 e2 e3 e4 e5 e6 e7 e8 e9 e10 e11 e12 e13 e14 e15 e16 hv
    have L2 : Below w.heap.size w w2 := by repeat' (first | (with_reducible exact Below.refl _ _) | (with_reducible refine Rd.below_step ?_ (by assumption)) | (with_reducible refine Rd.below_alloc ?_ _) | (with_reducible refine Rd.below_drewN ?_ _) | (with_reducible refine Below.drew ?_) | (with_reducible refine Below.setCell ?_ ?_ _) | (with_reducible refine Rd.below_setRow ?_ ?_ _) | go_size | (simp only [World.size_alloc]; omega) | omega)
    have hT2 := hT.bel hE
    clear hE
    go_wp2
    all_goals go_ret
    all_goals exact ⟨by first | rfl | (rw [eB]; rfl), by first | exact hT2 | (rw [eB]; exact hT2), grown_below L2⟩
  case true =>
  obtain ⟨k, ek, hk⟩ := key_in hTab.depth eq
  rw [← hTab.len] at hk
  have eK : (keyV n L X0 Y0).toNat = k := by rw [ek]; rfl
  have CK : Hid (∀ X : World, Calls Try.prog 22 #[.int .i64 n, .agg #[.int .i64 L, .int .i64 X0, .int .i64 Y0]] X fun e w' => e = .returned (.int .i64 k) ∧ Below X.heap.size X w') := fun X => by
    have := key_any n L X0 Y0 X
    rw [ek] at this
    exact this
  clear ek
  by_cases hr : [L, X0, Y0] = [(n : Int), 0, 0]
  · have dr : eqL [L, X0, Y0] [(n : Int), 0, 0] = true := decide_eq_true hr
    cases yes
    case false =>
      have eB : setB n L X0 Y0 false = false := by unfold setB; rw [eq, decide_eq_true hr]; rfl
      clear eq hr CK eK
      go_enter Try.func11, Try.ntmps11
      go_upto_region 1 with (fail)
      refine Rd.name_world ?_
      intro w1 hw
      have bP : blk w1 w.heap.size = some (.cells #[.int .i64 L, .int .i64 X0, .int .i64 Y0] 24 (0, 0)) := by rw [hw]; exact blk_alloc_at _ _ _ rfl
      have L1 : Below w.heap.size w w1 := by
        rw [hw]
        repeat' (first | (with_reducible exact Below.refl _ _) | (with_reducible refine Rd.below_step ?_ (by assumption)) | (with_reducible refine Rd.below_alloc ?_ _) | (with_reducible refine Rd.below_drewN ?_ _) | (with_reducible refine Below.drew ?_) | (with_reducible refine Below.setCell ?_ ?_ _) | (with_reducible refine Rd.below_setRow ?_ ?_ _) | go_size | (simp only [World.size_alloc]; omega) | omega)
      have hT : Tab w1 t g n bs := hTab.bel L1
      have lP := blk_lt bP
      have lT := blk_lt hT.t
      have lG := blk_lt hT.g
      clear hw
      refine Pred.region_vals (Pred.Of [
          Is (.pointer (some ⟨t, 0, none⟩)),
          Is (.agg #[.int .i64 L, .int .i64 X0, .int .i64 Y0]),
          Is (.bool true),
          Is (.bool false),
          Is (.bool false),
          Is (.agg #[.int .i64 L, .int .i64 X0, .int .i64 Y0]),
          Is (.pointer (some ⟨t, 0, none⟩)),
          Is (.pointer (some ⟨t, 0, none⟩)),
          Is (.pointer (some ⟨t, 0, none⟩)),
          Is (.int .i64 (n : Int)),
          Is (.agg #[.int .i64 (n : Int), .int .i64 0, .int .i64 0]),
          Is (.bool true),
          Is (.bool true),
          Is (.bool false),
          Is (.bool true),
          Is (.bool true),
          Is (.bool true)]) (by kernel_rfl) (by kernel_rfl) (by kernel_rfl) (Pred.of_stab ?_) ?_ ?_
      · exact ⟨is_stab _, is_stab _, is_stab _, is_stab _, is_stab _, is_stab _, is_stab _, is_stab _, is_stab _, is_stab _, is_stab _, is_stab _, is_stab _, is_stab _, is_stab _, is_stab _, is_stab _, trivial⟩
      · refine ⟨?_, ?_, ?_, ?_, ?_, ?_, ?_, ?_, ?_, ?_, ?_, ?_, ?_, ?_, ?_, ?_, ?_, trivial⟩
        · intro b X hE hd hn hV
          have r0 : b.tmps[0]?.getD undef = .pointer (some ⟨t, 0, none⟩) := (hn 0 (by kernel_rfl)).trans rfl
          exact Pred.yields_run (v := .pointer (some ⟨t, 0, none⟩)) (Pred.wanted_none rfl) (by go_simp) ⟨Pred.ext_refl _ _, rfl⟩
        · intro b X hE hd hn hV
          have r4 : b.tmps[4]?.getD undef = .pointer (some ⟨w.heap.size, 0, none⟩) := (hn 4 (by kernel_rfl)).trans rfl
          have q := (blk_below hE _ lP).trans bP
          have z0 : X.cell? ⟨w.heap.size, 0, none⟩ = some (.int .i64 L) := by rw [blk_cell q]; rfl
          have z1 : X.cell? ⟨w.heap.size, 1, none⟩ = some (.int .i64 X0) := by rw [blk_cell q]; rfl
          have z2 : X.cell? ⟨w.heap.size, 2, none⟩ = some (.int .i64 Y0) := by rw [blk_cell q]; rfl
          exact Pred.yields_run (v := .agg #[.int .i64 L, .int .i64 X0, .int .i64 Y0]) (Pred.wanted_none rfl) (by go_simp) ⟨Pred.ext_refl _ _, rfl⟩
        · intro b X hE hd hn hV
          have r7 : b.tmps[7]?.getD undef = .pointer (some ⟨t, 0, none⟩) := hV 0 _ 7 rfl rfl (Pred.waits_near (by kernel_rfl) (by kernel_rfl))
          have r8 : b.tmps[8]?.getD undef = .agg #[.int .i64 L, .int .i64 X0, .int .i64 Y0] := hV 1 _ 8 rfl rfl (Pred.waits_near (by kernel_rfl) (by kernel_rfl))
          refine Pred.yields_call (f := 21) (args := #[.pointer (some ⟨t, 0, none⟩), .agg #[.int .i64 L, .int .i64 X0, .int .i64 Y0]]) (Pred.wanted_none rfl) (by go_simp) ?_
          exact (CH.out _ (hT.below hE lT lG)).mono fun e w2 ⟨he, hb⟩ => ⟨_, he, Pred.ext_below hb hE.size, rfl⟩
        · intro b X hE hd hn hV
          have r9 : b.tmps[9]?.getD undef = .bool true := hV 2 _ 9 rfl rfl (Pred.waits_near (by kernel_rfl) (by kernel_rfl))
          exact Pred.yields_run (v := .bool false) (Pred.wanted_none rfl) (by go_simp) ⟨Pred.ext_refl _ _, rfl⟩
        · intro b X hE hd hn hV
          have r10 : b.tmps[10]?.getD undef = .bool false := hV 3 _ 10 rfl rfl (Pred.waits_near (by kernel_rfl) (by kernel_rfl))
          exact Pred.yields_run (v := .bool false) (Pred.wanted_none rfl) (by go_simp) ⟨Pred.ext_refl _ _, rfl⟩
        · intro b X hE hd hn hV
          have r4 : b.tmps[4]?.getD undef = .pointer (some ⟨w.heap.size, 0, none⟩) := (hn 4 (by kernel_rfl)).trans rfl
          have r11 : b.tmps[11]?.getD undef = .bool false := hV 4 _ 11 rfl rfl (Pred.waits_near (by kernel_rfl) (by kernel_rfl))
          have q := (blk_below hE _ lP).trans bP
          have z0 : X.cell? ⟨w.heap.size, 0, none⟩ = some (.int .i64 L) := by rw [blk_cell q]; rfl
          have z1 : X.cell? ⟨w.heap.size, 1, none⟩ = some (.int .i64 X0) := by rw [blk_cell q]; rfl
          have z2 : X.cell? ⟨w.heap.size, 2, none⟩ = some (.int .i64 Y0) := by rw [blk_cell q]; rfl
          exact Pred.yields_run (v := .agg #[.int .i64 L, .int .i64 X0, .int .i64 Y0]) ((Pred.wanted_at (g := 4) (d := 11) (f := false) rfl rfl r11).trans rfl) (by go_simp) ⟨Pred.ext_refl _ _, rfl⟩
        · intro b X hE hd hn hV
          have r0 : b.tmps[0]?.getD undef = .pointer (some ⟨t, 0, none⟩) := (hn 0 (by kernel_rfl)).trans rfl
          have r11 : b.tmps[11]?.getD undef = .bool false := hV 4 _ 11 rfl rfl (Pred.waits_near (by kernel_rfl) (by kernel_rfl))
          exact Pred.yields_run (v := .pointer (some ⟨t, 0, none⟩)) ((Pred.wanted_at (g := 4) (d := 11) (f := false) rfl rfl r11).trans rfl) (by go_simp) ⟨Pred.ext_refl _ _, rfl⟩
        · intro b X hE hd hn hV
          have r13 : b.tmps[13]?.getD undef = .pointer (some ⟨t, 0, none⟩) := hV 6 _ 13 rfl rfl (Pred.waits_near (by kernel_rfl) (by kernel_rfl))
          have r11 : b.tmps[11]?.getD undef = .bool false := hV 4 _ 11 rfl rfl (Pred.waits_near (by kernel_rfl) (by kernel_rfl))
          exact Pred.yields_run (v := .pointer (some ⟨t, 0, none⟩)) ((Pred.wanted_at (g := 4) (d := 11) (f := false) rfl rfl r11).trans rfl) (by go_simp) ⟨Pred.ext_refl _ _, rfl⟩
        · intro b X hE hd hn hV
          have r14 : b.tmps[14]?.getD undef = .pointer (some ⟨t, 0, none⟩) := hV 7 _ 14 rfl rfl (Pred.waits_near (by kernel_rfl) (by kernel_rfl))
          have r11 : b.tmps[11]?.getD undef = .bool false := hV 4 _ 11 rfl rfl (Pred.waits_near (by kernel_rfl) (by kernel_rfl))
          exact Pred.yields_run (v := .pointer (some ⟨t, 0, none⟩)) ((Pred.wanted_at (g := 4) (d := 11) (f := false) rfl rfl r11).trans rfl) (by go_simp) ⟨Pred.ext_refl _ _, rfl⟩
        · intro b X hE hd hn hV
          have r15 : b.tmps[15]?.getD undef = .pointer (some ⟨t, 0, none⟩) := hV 8 _ 15 rfl rfl (Pred.waits_near (by kernel_rfl) (by kernel_rfl))
          have r11 : b.tmps[11]?.getD undef = .bool false := hV 4 _ 11 rfl rfl (Pred.waits_near (by kernel_rfl) (by kernel_rfl))
          have q := (blk_below hE _ lT).trans hT.t
          have z : X.cell? ⟨t, 0, none⟩ = some (.int .i64 (n : Int)) := by rw [blk_cell q]; rfl
          exact Pred.yields_run (v := .int .i64 (n : Int)) ((Pred.wanted_at (g := 4) (d := 11) (f := false) rfl rfl r11).trans rfl) (by go_simp) ⟨Pred.ext_refl _ _, rfl⟩
        · intro b X hE hd hn hV
          have r16 : b.tmps[16]?.getD undef = .int .i64 (n : Int) := hV 9 _ 16 rfl rfl (Pred.waits_near (by kernel_rfl) (by kernel_rfl))
          have r11 : b.tmps[11]?.getD undef = .bool false := hV 4 _ 11 rfl rfl (Pred.waits_near (by kernel_rfl) (by kernel_rfl))
          refine Pred.yields_call (f := 18) (args := #[.int .i64 n]) ((Pred.wanted_at (g := 4) (d := 11) (f := false) rfl rfl r11).trans rfl) (by go_simp) ?_
          exact (CR.out _).mono fun e w2 ⟨he, hb⟩ => ⟨_, he, Pred.ext_below hb hE.size, rfl⟩
        · intro b X hE hd hn hV
          have r12 : b.tmps[12]?.getD undef = .agg #[.int .i64 L, .int .i64 X0, .int .i64 Y0] := hV 5 _ 12 rfl rfl (Pred.waits_near (by kernel_rfl) (by kernel_rfl))
          have r17 : b.tmps[17]?.getD undef = .agg #[.int .i64 (n : Int), .int .i64 0, .int .i64 0] := hV 10 _ 17 rfl rfl (Pred.waits_near (by kernel_rfl) (by kernel_rfl))
          have r11 : b.tmps[11]?.getD undef = .bool false := hV 4 _ 11 rfl rfl (Pred.waits_near (by kernel_rfl) (by kernel_rfl))
          exact Pred.yields_run (v := .bool true) ((Pred.wanted_at (g := 4) (d := 11) (f := false) rfl rfl r11).trans rfl) (by go_simp) ⟨Pred.ext_refl _ _, rfl⟩
        · intro b X hE hd hn hV
          have r18 : b.tmps[18]?.getD undef = .bool true := hV 11 _ 18 rfl rfl (Pred.waits_near (by kernel_rfl) (by kernel_rfl))
          have r11 : b.tmps[11]?.getD undef = .bool false := hV 4 _ 11 rfl rfl (Pred.waits_near (by kernel_rfl) (by kernel_rfl))
          exact Pred.yields_run (v := .bool true) ((Pred.wanted_at (g := 4) (d := 11) (f := false) rfl rfl r11).trans rfl) (by go_simp) ⟨Pred.ext_refl _ _, rfl⟩
        · intro b X hE hd hn hV
          have r2 : b.tmps[2]?.getD undef = .bool false := (hn 2 (by kernel_rfl)).trans rfl
          have r19 : b.tmps[19]?.getD undef = .bool true := hV 12 _ 19 rfl rfl (Pred.waits_near (by kernel_rfl) (by kernel_rfl))
          exact Pred.yields_run (v := .bool false) ((Pred.wanted_at (g := 12) (d := 19) (f := true) rfl rfl r19).trans rfl) (by go_simp) ⟨Pred.ext_refl _ _, rfl⟩
        · intro b X hE hd hn hV
          have r20 : b.tmps[20]?.getD undef = .bool false := hV 13 _ 20 rfl rfl (Pred.waits_near (by kernel_rfl) (by kernel_rfl))
          have r19 : b.tmps[19]?.getD undef = .bool true := hV 12 _ 19 rfl rfl (Pred.waits_near (by kernel_rfl) (by kernel_rfl))
          exact Pred.yields_run (v := .bool true) ((Pred.wanted_at (g := 12) (d := 19) (f := true) rfl rfl r19).trans rfl) (by go_simp) ⟨Pred.ext_refl _ _, rfl⟩
        · intro b X hE hd hn hV
          have r19 : b.tmps[19]?.getD undef = .bool true := hV 12 _ 19 rfl rfl (Pred.waits_near (by kernel_rfl) (by kernel_rfl))
          have r21 : b.tmps[21]?.getD undef = .bool true := hV 14 _ 21 rfl rfl (Pred.waits_near (by kernel_rfl) (by kernel_rfl))
          have r11 : b.tmps[11]?.getD undef = .bool false := hV 4 _ 11 rfl rfl (Pred.waits_near (by kernel_rfl) (by kernel_rfl))
          exact Pred.yields_run (v := .bool true) ((Pred.wanted_at (g := 4) (d := 11) (f := false) rfl rfl r11).trans rfl) (by go_simp) ⟨Pred.ext_refl _ _, rfl⟩
        · intro b X hE hd hn hV
          have r11 : b.tmps[11]?.getD undef = .bool false := hV 4 _ 11 rfl rfl (Pred.waits_near (by kernel_rfl) (by kernel_rfl))
          have r22 : b.tmps[22]?.getD undef = .bool true := hV 15 _ 22 rfl rfl (Pred.waits_near (by kernel_rfl) (by kernel_rfl))
          exact Pred.yields_run (v := .bool true) (Pred.wanted_none rfl) (by go_simp) ⟨Pred.ext_refl _ _, rfl⟩
      intro v w2 hE hv
      have e0 : v 0 = .pointer (some ⟨t, 0, none⟩) := hv 0 _ 7 rfl rfl
      have e1 : v 1 = .agg #[.int .i64 L, .int .i64 X0, .int .i64 Y0] := hv 1 _ 8 rfl rfl
      have e2 : v 2 = .bool true := hv 2 _ 9 rfl rfl
      have e3 : v 3 = .bool false := hv 3 _ 10 rfl rfl
      have e4 : v 4 = .bool false := hv 4 _ 11 rfl rfl
      have e5 : v 5 = .agg #[.int .i64 L, .int .i64 X0, .int .i64 Y0] := hv 5 _ 12 rfl rfl
      have e6 : v 6 = .pointer (some ⟨t, 0, none⟩) := hv 6 _ 13 rfl rfl
      have e7 : v 7 = .pointer (some ⟨t, 0, none⟩) := hv 7 _ 14 rfl rfl
      have e8 : v 8 = .pointer (some ⟨t, 0, none⟩) := hv 8 _ 15 rfl rfl
      have e9 : v 9 = .int .i64 (n : Int) := hv 9 _ 16 rfl rfl
      have e10 : v 10 = .agg #[.int .i64 (n : Int), .int .i64 0, .int .i64 0] := hv 10 _ 17 rfl rfl
      have e11 : v 11 = .bool true := hv 11 _ 18 rfl rfl
      have e12 : v 12 = .bool true := hv 12 _ 19 rfl rfl
      have e13 : v 13 = .bool false := hv 13 _ 20 rfl rfl
      have e14 : v 14 = .bool true := hv 14 _ 21 rfl rfl
      have e15 : v 15 = .bool true := hv 15 _ 22 rfl rfl
      have e16 : v 16 = .bool true := hv 16 _ 23 rfl rfl
      simp only [Pred.putsF_cons, Pred.putsF_nil, Nat.zero_add, Nat.reduceAdd, e0, e1, e2, e3, e4, e5, e6, e7, e8, e9, e10, e11, e12, e13, e14, e15, e16, Act.put, List.setIfInBounds_toArray, List.set_cons_zero, List.set_cons_succ]
      clear e0 e1 e2 e3 e4 e5 e6 e7 e8 e9 e10 e11 e12 e13 e14 e15 e16 hv
      have L2 : Below w.heap.size w w2 := by repeat' (first | (with_reducible exact Below.refl _ _) | (with_reducible refine Rd.below_step ?_ (by assumption)) | (with_reducible refine Rd.below_alloc ?_ _) | (with_reducible refine Rd.below_drewN ?_ _) | (with_reducible refine Below.drew ?_) | (with_reducible refine Below.setCell ?_ ?_ _) | (with_reducible refine Rd.below_setRow ?_ ?_ _) | go_size | (simp only [World.size_alloc]; omega) | omega)
      have hT2 := hT.bel hE
      clear hE
      go_wp2
      all_goals go_ret
      all_goals exact ⟨by first | rfl | (rw [eB]; rfl), by first | exact hT2 | (rw [eB]; exact hT2), grown_below L2⟩
    case true =>
      have eB : setB n L X0 Y0 true = true := by unfold setB; rw [eq, decide_eq_true hr]; rfl
      clear eq hr
      go_enter Try.func11, Try.ntmps11
      go_upto_region 1 with (fail)
      refine Rd.name_world ?_
      intro w1 hw
      have bP : blk w1 w.heap.size = some (.cells #[.int .i64 L, .int .i64 X0, .int .i64 Y0] 24 (0, 0)) := by rw [hw]; exact blk_alloc_at _ _ _ rfl
      have L1 : Below w.heap.size w w1 := by
        rw [hw]
        repeat' (first | (with_reducible exact Below.refl _ _) | (with_reducible refine Rd.below_step ?_ (by assumption)) | (with_reducible refine Rd.below_alloc ?_ _) | (with_reducible refine Rd.below_drewN ?_ _) | (with_reducible refine Below.drew ?_) | (with_reducible refine Below.setCell ?_ ?_ _) | (with_reducible refine Rd.below_setRow ?_ ?_ _) | go_size | (simp only [World.size_alloc]; omega) | omega)
      have hT : Tab w1 t g n bs := hTab.bel L1
      have lP := blk_lt bP
      have lT := blk_lt hT.t
      have lG := blk_lt hT.g
      clear hw
      refine Pred.region_vals (Pred.Of [
          Is (.pointer (some ⟨t, 0, none⟩)),
          Is (.agg #[.int .i64 L, .int .i64 X0, .int .i64 Y0]),
          Is (.bool true),
          Is (.bool false),
          Is (.bool false),
          Is (.agg #[.int .i64 L, .int .i64 X0, .int .i64 Y0]),
          Is (.pointer (some ⟨t, 0, none⟩)),
          Is (.pointer (some ⟨t, 0, none⟩)),
          Is (.pointer (some ⟨t, 0, none⟩)),
          Is (.int .i64 (n : Int)),
          Is (.agg #[.int .i64 (n : Int), .int .i64 0, .int .i64 0]),
          Is (.bool true),
          Is (.bool true),
          Is (.bool true),
          Is (.bool false),
          Is (.bool false),
          Is (.bool false)]) (by kernel_rfl) (by kernel_rfl) (by kernel_rfl) (Pred.of_stab ?_) ?_ ?_
      · exact ⟨is_stab _, is_stab _, is_stab _, is_stab _, is_stab _, is_stab _, is_stab _, is_stab _, is_stab _, is_stab _, is_stab _, is_stab _, is_stab _, is_stab _, is_stab _, is_stab _, is_stab _, trivial⟩
      · refine ⟨?_, ?_, ?_, ?_, ?_, ?_, ?_, ?_, ?_, ?_, ?_, ?_, ?_, ?_, ?_, ?_, ?_, trivial⟩
        · intro b X hE hd hn hV
          have r0 : b.tmps[0]?.getD undef = .pointer (some ⟨t, 0, none⟩) := (hn 0 (by kernel_rfl)).trans rfl
          exact Pred.yields_run (v := .pointer (some ⟨t, 0, none⟩)) (Pred.wanted_none rfl) (by go_simp) ⟨Pred.ext_refl _ _, rfl⟩
        · intro b X hE hd hn hV
          have r4 : b.tmps[4]?.getD undef = .pointer (some ⟨w.heap.size, 0, none⟩) := (hn 4 (by kernel_rfl)).trans rfl
          have q := (blk_below hE _ lP).trans bP
          have z0 : X.cell? ⟨w.heap.size, 0, none⟩ = some (.int .i64 L) := by rw [blk_cell q]; rfl
          have z1 : X.cell? ⟨w.heap.size, 1, none⟩ = some (.int .i64 X0) := by rw [blk_cell q]; rfl
          have z2 : X.cell? ⟨w.heap.size, 2, none⟩ = some (.int .i64 Y0) := by rw [blk_cell q]; rfl
          exact Pred.yields_run (v := .agg #[.int .i64 L, .int .i64 X0, .int .i64 Y0]) (Pred.wanted_none rfl) (by go_simp) ⟨Pred.ext_refl _ _, rfl⟩
        · intro b X hE hd hn hV
          have r7 : b.tmps[7]?.getD undef = .pointer (some ⟨t, 0, none⟩) := hV 0 _ 7 rfl rfl (Pred.waits_near (by kernel_rfl) (by kernel_rfl))
          have r8 : b.tmps[8]?.getD undef = .agg #[.int .i64 L, .int .i64 X0, .int .i64 Y0] := hV 1 _ 8 rfl rfl (Pred.waits_near (by kernel_rfl) (by kernel_rfl))
          refine Pred.yields_call (f := 21) (args := #[.pointer (some ⟨t, 0, none⟩), .agg #[.int .i64 L, .int .i64 X0, .int .i64 Y0]]) (Pred.wanted_none rfl) (by go_simp) ?_
          exact (CH.out _ (hT.below hE lT lG)).mono fun e w2 ⟨he, hb⟩ => ⟨_, he, Pred.ext_below hb hE.size, rfl⟩
        · intro b X hE hd hn hV
          have r9 : b.tmps[9]?.getD undef = .bool true := hV 2 _ 9 rfl rfl (Pred.waits_near (by kernel_rfl) (by kernel_rfl))
          exact Pred.yields_run (v := .bool false) (Pred.wanted_none rfl) (by go_simp) ⟨Pred.ext_refl _ _, rfl⟩
        · intro b X hE hd hn hV
          have r10 : b.tmps[10]?.getD undef = .bool false := hV 3 _ 10 rfl rfl (Pred.waits_near (by kernel_rfl) (by kernel_rfl))
          exact Pred.yields_run (v := .bool false) (Pred.wanted_none rfl) (by go_simp) ⟨Pred.ext_refl _ _, rfl⟩
        · intro b X hE hd hn hV
          have r4 : b.tmps[4]?.getD undef = .pointer (some ⟨w.heap.size, 0, none⟩) := (hn 4 (by kernel_rfl)).trans rfl
          have r11 : b.tmps[11]?.getD undef = .bool false := hV 4 _ 11 rfl rfl (Pred.waits_near (by kernel_rfl) (by kernel_rfl))
          have q := (blk_below hE _ lP).trans bP
          have z0 : X.cell? ⟨w.heap.size, 0, none⟩ = some (.int .i64 L) := by rw [blk_cell q]; rfl
          have z1 : X.cell? ⟨w.heap.size, 1, none⟩ = some (.int .i64 X0) := by rw [blk_cell q]; rfl
          have z2 : X.cell? ⟨w.heap.size, 2, none⟩ = some (.int .i64 Y0) := by rw [blk_cell q]; rfl
          exact Pred.yields_run (v := .agg #[.int .i64 L, .int .i64 X0, .int .i64 Y0]) ((Pred.wanted_at (g := 4) (d := 11) (f := false) rfl rfl r11).trans rfl) (by go_simp) ⟨Pred.ext_refl _ _, rfl⟩
        · intro b X hE hd hn hV
          have r0 : b.tmps[0]?.getD undef = .pointer (some ⟨t, 0, none⟩) := (hn 0 (by kernel_rfl)).trans rfl
          have r11 : b.tmps[11]?.getD undef = .bool false := hV 4 _ 11 rfl rfl (Pred.waits_near (by kernel_rfl) (by kernel_rfl))
          exact Pred.yields_run (v := .pointer (some ⟨t, 0, none⟩)) ((Pred.wanted_at (g := 4) (d := 11) (f := false) rfl rfl r11).trans rfl) (by go_simp) ⟨Pred.ext_refl _ _, rfl⟩
        · intro b X hE hd hn hV
          have r13 : b.tmps[13]?.getD undef = .pointer (some ⟨t, 0, none⟩) := hV 6 _ 13 rfl rfl (Pred.waits_near (by kernel_rfl) (by kernel_rfl))
          have r11 : b.tmps[11]?.getD undef = .bool false := hV 4 _ 11 rfl rfl (Pred.waits_near (by kernel_rfl) (by kernel_rfl))
          exact Pred.yields_run (v := .pointer (some ⟨t, 0, none⟩)) ((Pred.wanted_at (g := 4) (d := 11) (f := false) rfl rfl r11).trans rfl) (by go_simp) ⟨Pred.ext_refl _ _, rfl⟩
        · intro b X hE hd hn hV
          have r14 : b.tmps[14]?.getD undef = .pointer (some ⟨t, 0, none⟩) := hV 7 _ 14 rfl rfl (Pred.waits_near (by kernel_rfl) (by kernel_rfl))
          have r11 : b.tmps[11]?.getD undef = .bool false := hV 4 _ 11 rfl rfl (Pred.waits_near (by kernel_rfl) (by kernel_rfl))
          exact Pred.yields_run (v := .pointer (some ⟨t, 0, none⟩)) ((Pred.wanted_at (g := 4) (d := 11) (f := false) rfl rfl r11).trans rfl) (by go_simp) ⟨Pred.ext_refl _ _, rfl⟩
        · intro b X hE hd hn hV
          have r15 : b.tmps[15]?.getD undef = .pointer (some ⟨t, 0, none⟩) := hV 8 _ 15 rfl rfl (Pred.waits_near (by kernel_rfl) (by kernel_rfl))
          have r11 : b.tmps[11]?.getD undef = .bool false := hV 4 _ 11 rfl rfl (Pred.waits_near (by kernel_rfl) (by kernel_rfl))
          have q := (blk_below hE _ lT).trans hT.t
          have z : X.cell? ⟨t, 0, none⟩ = some (.int .i64 (n : Int)) := by rw [blk_cell q]; rfl
          exact Pred.yields_run (v := .int .i64 (n : Int)) ((Pred.wanted_at (g := 4) (d := 11) (f := false) rfl rfl r11).trans rfl) (by go_simp) ⟨Pred.ext_refl _ _, rfl⟩
        · intro b X hE hd hn hV
          have r16 : b.tmps[16]?.getD undef = .int .i64 (n : Int) := hV 9 _ 16 rfl rfl (Pred.waits_near (by kernel_rfl) (by kernel_rfl))
          have r11 : b.tmps[11]?.getD undef = .bool false := hV 4 _ 11 rfl rfl (Pred.waits_near (by kernel_rfl) (by kernel_rfl))
          refine Pred.yields_call (f := 18) (args := #[.int .i64 n]) ((Pred.wanted_at (g := 4) (d := 11) (f := false) rfl rfl r11).trans rfl) (by go_simp) ?_
          exact (CR.out _).mono fun e w2 ⟨he, hb⟩ => ⟨_, he, Pred.ext_below hb hE.size, rfl⟩
        · intro b X hE hd hn hV
          have r12 : b.tmps[12]?.getD undef = .agg #[.int .i64 L, .int .i64 X0, .int .i64 Y0] := hV 5 _ 12 rfl rfl (Pred.waits_near (by kernel_rfl) (by kernel_rfl))
          have r17 : b.tmps[17]?.getD undef = .agg #[.int .i64 (n : Int), .int .i64 0, .int .i64 0] := hV 10 _ 17 rfl rfl (Pred.waits_near (by kernel_rfl) (by kernel_rfl))
          have r11 : b.tmps[11]?.getD undef = .bool false := hV 4 _ 11 rfl rfl (Pred.waits_near (by kernel_rfl) (by kernel_rfl))
          exact Pred.yields_run (v := .bool true) ((Pred.wanted_at (g := 4) (d := 11) (f := false) rfl rfl r11).trans rfl) (by go_simp) ⟨Pred.ext_refl _ _, rfl⟩
        · intro b X hE hd hn hV
          have r18 : b.tmps[18]?.getD undef = .bool true := hV 11 _ 18 rfl rfl (Pred.waits_near (by kernel_rfl) (by kernel_rfl))
          have r11 : b.tmps[11]?.getD undef = .bool false := hV 4 _ 11 rfl rfl (Pred.waits_near (by kernel_rfl) (by kernel_rfl))
          exact Pred.yields_run (v := .bool true) ((Pred.wanted_at (g := 4) (d := 11) (f := false) rfl rfl r11).trans rfl) (by go_simp) ⟨Pred.ext_refl _ _, rfl⟩
        · intro b X hE hd hn hV
          have r2 : b.tmps[2]?.getD undef = .bool true := (hn 2 (by kernel_rfl)).trans rfl
          have r19 : b.tmps[19]?.getD undef = .bool true := hV 12 _ 19 rfl rfl (Pred.waits_near (by kernel_rfl) (by kernel_rfl))
          exact Pred.yields_run (v := .bool true) ((Pred.wanted_at (g := 12) (d := 19) (f := true) rfl rfl r19).trans rfl) (by go_simp) ⟨Pred.ext_refl _ _, rfl⟩
        · intro b X hE hd hn hV
          have r20 : b.tmps[20]?.getD undef = .bool true := hV 13 _ 20 rfl rfl (Pred.waits_near (by kernel_rfl) (by kernel_rfl))
          have r19 : b.tmps[19]?.getD undef = .bool true := hV 12 _ 19 rfl rfl (Pred.waits_near (by kernel_rfl) (by kernel_rfl))
          exact Pred.yields_run (v := .bool false) ((Pred.wanted_at (g := 12) (d := 19) (f := true) rfl rfl r19).trans rfl) (by go_simp) ⟨Pred.ext_refl _ _, rfl⟩
        · intro b X hE hd hn hV
          have r19 : b.tmps[19]?.getD undef = .bool true := hV 12 _ 19 rfl rfl (Pred.waits_near (by kernel_rfl) (by kernel_rfl))
          have r21 : b.tmps[21]?.getD undef = .bool false := hV 14 _ 21 rfl rfl (Pred.waits_near (by kernel_rfl) (by kernel_rfl))
          have r11 : b.tmps[11]?.getD undef = .bool false := hV 4 _ 11 rfl rfl (Pred.waits_near (by kernel_rfl) (by kernel_rfl))
          exact Pred.yields_run (v := .bool false) ((Pred.wanted_at (g := 4) (d := 11) (f := false) rfl rfl r11).trans rfl) (by go_simp) ⟨Pred.ext_refl _ _, rfl⟩
        · intro b X hE hd hn hV
          have r11 : b.tmps[11]?.getD undef = .bool false := hV 4 _ 11 rfl rfl (Pred.waits_near (by kernel_rfl) (by kernel_rfl))
          have r22 : b.tmps[22]?.getD undef = .bool false := hV 15 _ 22 rfl rfl (Pred.waits_near (by kernel_rfl) (by kernel_rfl))
          exact Pred.yields_run (v := .bool false) (Pred.wanted_none rfl) (by go_simp) ⟨Pred.ext_refl _ _, rfl⟩
      intro v w2 hE hv
      have e0 : v 0 = .pointer (some ⟨t, 0, none⟩) := hv 0 _ 7 rfl rfl
      have e1 : v 1 = .agg #[.int .i64 L, .int .i64 X0, .int .i64 Y0] := hv 1 _ 8 rfl rfl
      have e2 : v 2 = .bool true := hv 2 _ 9 rfl rfl
      have e3 : v 3 = .bool false := hv 3 _ 10 rfl rfl
      have e4 : v 4 = .bool false := hv 4 _ 11 rfl rfl
      have e5 : v 5 = .agg #[.int .i64 L, .int .i64 X0, .int .i64 Y0] := hv 5 _ 12 rfl rfl
      have e6 : v 6 = .pointer (some ⟨t, 0, none⟩) := hv 6 _ 13 rfl rfl
      have e7 : v 7 = .pointer (some ⟨t, 0, none⟩) := hv 7 _ 14 rfl rfl
      have e8 : v 8 = .pointer (some ⟨t, 0, none⟩) := hv 8 _ 15 rfl rfl
      have e9 : v 9 = .int .i64 (n : Int) := hv 9 _ 16 rfl rfl
      have e10 : v 10 = .agg #[.int .i64 (n : Int), .int .i64 0, .int .i64 0] := hv 10 _ 17 rfl rfl
      have e11 : v 11 = .bool true := hv 11 _ 18 rfl rfl
      have e12 : v 12 = .bool true := hv 12 _ 19 rfl rfl
      have e13 : v 13 = .bool true := hv 13 _ 20 rfl rfl
      have e14 : v 14 = .bool false := hv 14 _ 21 rfl rfl
      have e15 : v 15 = .bool false := hv 15 _ 22 rfl rfl
      have e16 : v 16 = .bool false := hv 16 _ 23 rfl rfl
      simp only [Pred.putsF_cons, Pred.putsF_nil, Nat.zero_add, Nat.reduceAdd, e0, e1, e2, e3, e4, e5, e6, e7, e8, e9, e10, e11, e12, e13, e14, e15, e16, Act.put, List.setIfInBounds_toArray, List.set_cons_zero, List.set_cons_succ]
      clear e0 e1 e2 e3 e4 e5 e6 e7 e8 e9 e10 e11 e12 e13 e14 e15 e16 hv
      have L2 : Below w.heap.size w w2 := by repeat' (first | (with_reducible exact Below.refl _ _) | (with_reducible refine Rd.below_step ?_ (by assumption)) | (with_reducible refine Rd.below_alloc ?_ _) | (with_reducible refine Rd.below_drewN ?_ _) | (with_reducible refine Below.drew ?_) | (with_reducible refine Below.setCell ?_ ?_ _) | (with_reducible refine Rd.below_setRow ?_ ?_ _) | go_size | (simp only [World.size_alloc]; omega) | omega)
      replace bP := (blk_below hE _ lP).trans bP
      replace hT := hT.bel hE
      clear hE lP lT lG
      go_wp2_with fail
      have lP := blk_lt bP
      have lT := blk_lt hT.t
      have lG := blk_lt hT.g
      have c0 := Go.cell_regrown (w := w2) (a := ⟨t, 0, none⟩) (v := .int .i64 n) (by rw [blk_cell hT.t]; rfl)
      have c1 := Go.cell_regrown (w := w2) (a := ⟨t, 1, none⟩) (v := .slice (some ⟨g, 0, none⟩) bs.length bs.length) (by rw [blk_cell hT.t]; rfl)
      have d0 := Go.cell_regrown (w := w2) (a := ⟨w.heap.size, 0, none⟩) (v := .int .i64 L) (by rw [blk_cell bP]; rfl)
      have d1 := Go.cell_regrown (w := w2) (a := ⟨w.heap.size, 1, none⟩) (v := .int .i64 X0) (by rw [blk_cell bP]; rfl)
      have d2 := Go.cell_regrown (w := w2) (a := ⟨w.heap.size, 2, none⟩) (v := .int .i64 Y0) (by rw [blk_cell bP]; rfl)
      have k1 : (k : Int) < bs.length := by omega
      (refine Reg.below_tail 12 (by kernel_rfl) (by kernel_rfl) ?_; simp only [List.take_succ_cons, List.take_zero, List.drop_succ_cons, List.drop_zero]; (repeat (go_big_quiet_step ((exact Calls.regrown_of (CK.out _))))); refine wpQuiet_nil ?_)
      intro w3 hU
      have KU := Rd.below_of_regrown hU
      have hT3 := hT.bel KU
      have L3 : Below w.heap.size w w3 := by repeat' (first | (with_reducible exact Below.refl _ _) | (with_reducible refine Rd.below_step ?_ (by assumption)) | (with_reducible refine Rd.below_alloc ?_ _) | (with_reducible refine Rd.below_drewN ?_ _) | (with_reducible refine Below.drew ?_) | (with_reducible refine Below.setCell ?_ ?_ _) | (with_reducible refine Rd.below_setRow ?_ ?_ _) | go_size | (simp only [World.size_alloc]; omega) | omega)
      have z := (blk_cell hT3.g k).trans (bb_at hk)
      have f := blk_frozen hT3.g k
      clear hU c0 c1 d0 d1 d2
      go_wp2
      go_ret
      exact ⟨by first | rfl | (rw [eB]; rfl), by first | exact hT3.set k true | (rw [eK]; exact hT3.set k true) | (rw [eB, if_pos rfl, eK]; exact hT3.set k true), grown_set L3 g k _⟩
  · have dr : eqL [L, X0, Y0] [(n : Int), 0, 0] = false := decide_eq_false hr
    have eB : setB n L X0 Y0 yes = true := by unfold setB; rw [eq, decide_eq_false hr]; rfl
    clear eq hr
    go_enter Try.func11, Try.ntmps11
    go_upto_region 1 with (fail)
    refine Rd.name_world ?_
    intro w1 hw
    have bP : blk w1 w.heap.size = some (.cells #[.int .i64 L, .int .i64 X0, .int .i64 Y0] 24 (0, 0)) := by rw [hw]; exact blk_alloc_at _ _ _ rfl
    have L1 : Below w.heap.size w w1 := by
      rw [hw]
      repeat' (first | (with_reducible exact Below.refl _ _) | (with_reducible refine Rd.below_step ?_ (by assumption)) | (with_reducible refine Rd.below_alloc ?_ _) | (with_reducible refine Rd.below_drewN ?_ _) | (with_reducible refine Below.drew ?_) | (with_reducible refine Below.setCell ?_ ?_ _) | (with_reducible refine Rd.below_setRow ?_ ?_ _) | go_size | (simp only [World.size_alloc]; omega) | omega)
    have hT : Tab w1 t g n bs := hTab.bel L1
    have lP := blk_lt bP
    have lT := blk_lt hT.t
    have lG := blk_lt hT.g
    clear hw
    refine Pred.region_vals (Pred.Of [
        Is (.pointer (some ⟨t, 0, none⟩)),
        Is (.agg #[.int .i64 L, .int .i64 X0, .int .i64 Y0]),
        Is (.bool true),
        Is (.bool false),
        Is (.bool false),
        Is (.agg #[.int .i64 L, .int .i64 X0, .int .i64 Y0]),
        Is (.pointer (some ⟨t, 0, none⟩)),
        Is (.pointer (some ⟨t, 0, none⟩)),
        Is (.pointer (some ⟨t, 0, none⟩)),
        Is (.int .i64 (n : Int)),
        Is (.agg #[.int .i64 (n : Int), .int .i64 0, .int .i64 0]),
        Is (.bool false),
        Is (.bool false),
        Is (undef),
        Is (undef),
        Is (.bool false),
        Is (.bool false)]) (by kernel_rfl) (by kernel_rfl) (by kernel_rfl) (Pred.of_stab ?_) ?_ ?_
    · exact ⟨is_stab _, is_stab _, is_stab _, is_stab _, is_stab _, is_stab _, is_stab _, is_stab _, is_stab _, is_stab _, is_stab _, is_stab _, is_stab _, is_stab _, is_stab _, is_stab _, is_stab _, trivial⟩
    · refine ⟨?_, ?_, ?_, ?_, ?_, ?_, ?_, ?_, ?_, ?_, ?_, ?_, ?_, ?_, ?_, ?_, ?_, trivial⟩
      · intro b X hE hd hn hV
        have r0 : b.tmps[0]?.getD undef = .pointer (some ⟨t, 0, none⟩) := (hn 0 (by kernel_rfl)).trans rfl
        exact Pred.yields_run (v := .pointer (some ⟨t, 0, none⟩)) (Pred.wanted_none rfl) (by go_simp) ⟨Pred.ext_refl _ _, rfl⟩
      · intro b X hE hd hn hV
        have r4 : b.tmps[4]?.getD undef = .pointer (some ⟨w.heap.size, 0, none⟩) := (hn 4 (by kernel_rfl)).trans rfl
        have q := (blk_below hE _ lP).trans bP
        have z0 : X.cell? ⟨w.heap.size, 0, none⟩ = some (.int .i64 L) := by rw [blk_cell q]; rfl
        have z1 : X.cell? ⟨w.heap.size, 1, none⟩ = some (.int .i64 X0) := by rw [blk_cell q]; rfl
        have z2 : X.cell? ⟨w.heap.size, 2, none⟩ = some (.int .i64 Y0) := by rw [blk_cell q]; rfl
        exact Pred.yields_run (v := .agg #[.int .i64 L, .int .i64 X0, .int .i64 Y0]) (Pred.wanted_none rfl) (by go_simp) ⟨Pred.ext_refl _ _, rfl⟩
      · intro b X hE hd hn hV
        have r7 : b.tmps[7]?.getD undef = .pointer (some ⟨t, 0, none⟩) := hV 0 _ 7 rfl rfl (Pred.waits_near (by kernel_rfl) (by kernel_rfl))
        have r8 : b.tmps[8]?.getD undef = .agg #[.int .i64 L, .int .i64 X0, .int .i64 Y0] := hV 1 _ 8 rfl rfl (Pred.waits_near (by kernel_rfl) (by kernel_rfl))
        refine Pred.yields_call (f := 21) (args := #[.pointer (some ⟨t, 0, none⟩), .agg #[.int .i64 L, .int .i64 X0, .int .i64 Y0]]) (Pred.wanted_none rfl) (by go_simp) ?_
        exact (CH.out _ (hT.below hE lT lG)).mono fun e w2 ⟨he, hb⟩ => ⟨_, he, Pred.ext_below hb hE.size, rfl⟩
      · intro b X hE hd hn hV
        have r9 : b.tmps[9]?.getD undef = .bool true := hV 2 _ 9 rfl rfl (Pred.waits_near (by kernel_rfl) (by kernel_rfl))
        exact Pred.yields_run (v := .bool false) (Pred.wanted_none rfl) (by go_simp) ⟨Pred.ext_refl _ _, rfl⟩
      · intro b X hE hd hn hV
        have r10 : b.tmps[10]?.getD undef = .bool false := hV 3 _ 10 rfl rfl (Pred.waits_near (by kernel_rfl) (by kernel_rfl))
        exact Pred.yields_run (v := .bool false) (Pred.wanted_none rfl) (by go_simp) ⟨Pred.ext_refl _ _, rfl⟩
      · intro b X hE hd hn hV
        have r4 : b.tmps[4]?.getD undef = .pointer (some ⟨w.heap.size, 0, none⟩) := (hn 4 (by kernel_rfl)).trans rfl
        have r11 : b.tmps[11]?.getD undef = .bool false := hV 4 _ 11 rfl rfl (Pred.waits_near (by kernel_rfl) (by kernel_rfl))
        have q := (blk_below hE _ lP).trans bP
        have z0 : X.cell? ⟨w.heap.size, 0, none⟩ = some (.int .i64 L) := by rw [blk_cell q]; rfl
        have z1 : X.cell? ⟨w.heap.size, 1, none⟩ = some (.int .i64 X0) := by rw [blk_cell q]; rfl
        have z2 : X.cell? ⟨w.heap.size, 2, none⟩ = some (.int .i64 Y0) := by rw [blk_cell q]; rfl
        exact Pred.yields_run (v := .agg #[.int .i64 L, .int .i64 X0, .int .i64 Y0]) ((Pred.wanted_at (g := 4) (d := 11) (f := false) rfl rfl r11).trans rfl) (by go_simp) ⟨Pred.ext_refl _ _, rfl⟩
      · intro b X hE hd hn hV
        have r0 : b.tmps[0]?.getD undef = .pointer (some ⟨t, 0, none⟩) := (hn 0 (by kernel_rfl)).trans rfl
        have r11 : b.tmps[11]?.getD undef = .bool false := hV 4 _ 11 rfl rfl (Pred.waits_near (by kernel_rfl) (by kernel_rfl))
        exact Pred.yields_run (v := .pointer (some ⟨t, 0, none⟩)) ((Pred.wanted_at (g := 4) (d := 11) (f := false) rfl rfl r11).trans rfl) (by go_simp) ⟨Pred.ext_refl _ _, rfl⟩
      · intro b X hE hd hn hV
        have r13 : b.tmps[13]?.getD undef = .pointer (some ⟨t, 0, none⟩) := hV 6 _ 13 rfl rfl (Pred.waits_near (by kernel_rfl) (by kernel_rfl))
        have r11 : b.tmps[11]?.getD undef = .bool false := hV 4 _ 11 rfl rfl (Pred.waits_near (by kernel_rfl) (by kernel_rfl))
        exact Pred.yields_run (v := .pointer (some ⟨t, 0, none⟩)) ((Pred.wanted_at (g := 4) (d := 11) (f := false) rfl rfl r11).trans rfl) (by go_simp) ⟨Pred.ext_refl _ _, rfl⟩
      · intro b X hE hd hn hV
        have r14 : b.tmps[14]?.getD undef = .pointer (some ⟨t, 0, none⟩) := hV 7 _ 14 rfl rfl (Pred.waits_near (by kernel_rfl) (by kernel_rfl))
        have r11 : b.tmps[11]?.getD undef = .bool false := hV 4 _ 11 rfl rfl (Pred.waits_near (by kernel_rfl) (by kernel_rfl))
        exact Pred.yields_run (v := .pointer (some ⟨t, 0, none⟩)) ((Pred.wanted_at (g := 4) (d := 11) (f := false) rfl rfl r11).trans rfl) (by go_simp) ⟨Pred.ext_refl _ _, rfl⟩
      · intro b X hE hd hn hV
        have r15 : b.tmps[15]?.getD undef = .pointer (some ⟨t, 0, none⟩) := hV 8 _ 15 rfl rfl (Pred.waits_near (by kernel_rfl) (by kernel_rfl))
        have r11 : b.tmps[11]?.getD undef = .bool false := hV 4 _ 11 rfl rfl (Pred.waits_near (by kernel_rfl) (by kernel_rfl))
        have q := (blk_below hE _ lT).trans hT.t
        have z : X.cell? ⟨t, 0, none⟩ = some (.int .i64 (n : Int)) := by rw [blk_cell q]; rfl
        exact Pred.yields_run (v := .int .i64 (n : Int)) ((Pred.wanted_at (g := 4) (d := 11) (f := false) rfl rfl r11).trans rfl) (by go_simp) ⟨Pred.ext_refl _ _, rfl⟩
      · intro b X hE hd hn hV
        have r16 : b.tmps[16]?.getD undef = .int .i64 (n : Int) := hV 9 _ 16 rfl rfl (Pred.waits_near (by kernel_rfl) (by kernel_rfl))
        have r11 : b.tmps[11]?.getD undef = .bool false := hV 4 _ 11 rfl rfl (Pred.waits_near (by kernel_rfl) (by kernel_rfl))
        refine Pred.yields_call (f := 18) (args := #[.int .i64 n]) ((Pred.wanted_at (g := 4) (d := 11) (f := false) rfl rfl r11).trans rfl) (by go_simp) ?_
        exact (CR.out _).mono fun e w2 ⟨he, hb⟩ => ⟨_, he, Pred.ext_below hb hE.size, rfl⟩
      · intro b X hE hd hn hV
        have r12 : b.tmps[12]?.getD undef = .agg #[.int .i64 L, .int .i64 X0, .int .i64 Y0] := hV 5 _ 12 rfl rfl (Pred.waits_near (by kernel_rfl) (by kernel_rfl))
        have r17 : b.tmps[17]?.getD undef = .agg #[.int .i64 (n : Int), .int .i64 0, .int .i64 0] := hV 10 _ 17 rfl rfl (Pred.waits_near (by kernel_rfl) (by kernel_rfl))
        have r11 : b.tmps[11]?.getD undef = .bool false := hV 4 _ 11 rfl rfl (Pred.waits_near (by kernel_rfl) (by kernel_rfl))
        exact Pred.yields_run (v := .bool false) ((Pred.wanted_at (g := 4) (d := 11) (f := false) rfl rfl r11).trans rfl) (by go_simp) ⟨Pred.ext_refl _ _, rfl⟩
      · intro b X hE hd hn hV
        have r18 : b.tmps[18]?.getD undef = .bool false := hV 11 _ 18 rfl rfl (Pred.waits_near (by kernel_rfl) (by kernel_rfl))
        have r11 : b.tmps[11]?.getD undef = .bool false := hV 4 _ 11 rfl rfl (Pred.waits_near (by kernel_rfl) (by kernel_rfl))
        exact Pred.yields_run (v := .bool false) ((Pred.wanted_at (g := 4) (d := 11) (f := false) rfl rfl r11).trans rfl) (by go_simp) ⟨Pred.ext_refl _ _, rfl⟩
      · intro b X hE hd hn hV
        have r19 : b.tmps[19]?.getD undef = .bool false := hV 12 _ 19 rfl rfl (Pred.waits_near (by kernel_rfl) (by kernel_rfl))
        exact Pred.yields_not ((Pred.wanted_at (g := 12) (d := 19) (f := true) rfl rfl r19).trans rfl) ⟨Pred.ext_refl _ _, rfl⟩
      · intro b X hE hd hn hV
        have r19 : b.tmps[19]?.getD undef = .bool false := hV 12 _ 19 rfl rfl (Pred.waits_near (by kernel_rfl) (by kernel_rfl))
        exact Pred.yields_not ((Pred.wanted_at (g := 12) (d := 19) (f := true) rfl rfl r19).trans rfl) ⟨Pred.ext_refl _ _, rfl⟩
      · intro b X hE hd hn hV
        have r19 : b.tmps[19]?.getD undef = .bool false := hV 12 _ 19 rfl rfl (Pred.waits_near (by kernel_rfl) (by kernel_rfl))
        have r21 : b.tmps[21]?.getD undef = undef := hV 14 _ 21 rfl rfl (Pred.waits_near (by kernel_rfl) (by kernel_rfl))
        have r11 : b.tmps[11]?.getD undef = .bool false := hV 4 _ 11 rfl rfl (Pred.waits_near (by kernel_rfl) (by kernel_rfl))
        exact Pred.yields_run (v := .bool false) ((Pred.wanted_at (g := 4) (d := 11) (f := false) rfl rfl r11).trans rfl) (by go_simp) ⟨Pred.ext_refl _ _, rfl⟩
      · intro b X hE hd hn hV
        have r11 : b.tmps[11]?.getD undef = .bool false := hV 4 _ 11 rfl rfl (Pred.waits_near (by kernel_rfl) (by kernel_rfl))
        have r22 : b.tmps[22]?.getD undef = .bool false := hV 15 _ 22 rfl rfl (Pred.waits_near (by kernel_rfl) (by kernel_rfl))
        exact Pred.yields_run (v := .bool false) (Pred.wanted_none rfl) (by go_simp) ⟨Pred.ext_refl _ _, rfl⟩
    intro v w2 hE hv
    have e0 : v 0 = .pointer (some ⟨t, 0, none⟩) := hv 0 _ 7 rfl rfl
    have e1 : v 1 = .agg #[.int .i64 L, .int .i64 X0, .int .i64 Y0] := hv 1 _ 8 rfl rfl
    have e2 : v 2 = .bool true := hv 2 _ 9 rfl rfl
    have e3 : v 3 = .bool false := hv 3 _ 10 rfl rfl
    have e4 : v 4 = .bool false := hv 4 _ 11 rfl rfl
    have e5 : v 5 = .agg #[.int .i64 L, .int .i64 X0, .int .i64 Y0] := hv 5 _ 12 rfl rfl
    have e6 : v 6 = .pointer (some ⟨t, 0, none⟩) := hv 6 _ 13 rfl rfl
    have e7 : v 7 = .pointer (some ⟨t, 0, none⟩) := hv 7 _ 14 rfl rfl
    have e8 : v 8 = .pointer (some ⟨t, 0, none⟩) := hv 8 _ 15 rfl rfl
    have e9 : v 9 = .int .i64 (n : Int) := hv 9 _ 16 rfl rfl
    have e10 : v 10 = .agg #[.int .i64 (n : Int), .int .i64 0, .int .i64 0] := hv 10 _ 17 rfl rfl
    have e11 : v 11 = .bool false := hv 11 _ 18 rfl rfl
    have e12 : v 12 = .bool false := hv 12 _ 19 rfl rfl
    have e13 : v 13 = undef := hv 13 _ 20 rfl rfl
    have e14 : v 14 = undef := hv 14 _ 21 rfl rfl
    have e15 : v 15 = .bool false := hv 15 _ 22 rfl rfl
    have e16 : v 16 = .bool false := hv 16 _ 23 rfl rfl
    simp only [Pred.putsF_cons, Pred.putsF_nil, Nat.zero_add, Nat.reduceAdd, e0, e1, e2, e3, e4, e5, e6, e7, e8, e9, e10, e11, e12, e13, e14, e15, e16, Act.put, List.setIfInBounds_toArray, List.set_cons_zero, List.set_cons_succ]
    clear e0 e1 e2 e3 e4 e5 e6 e7 e8 e9 e10 e11 e12 e13 e14 e15 e16 hv
    have L2 : Below w.heap.size w w2 := by repeat' (first | (with_reducible exact Below.refl _ _) | (with_reducible refine Rd.below_step ?_ (by assumption)) | (with_reducible refine Rd.below_alloc ?_ _) | (with_reducible refine Rd.below_drewN ?_ _) | (with_reducible refine Below.drew ?_) | (with_reducible refine Below.setCell ?_ ?_ _) | (with_reducible refine Rd.below_setRow ?_ ?_ _) | go_size | (simp only [World.size_alloc]; omega) | omega)
    replace bP := (blk_below hE _ lP).trans bP
    replace hT := hT.bel hE
    clear hE lP lT lG
    go_wp2_with fail
    have lP := blk_lt bP
    have lT := blk_lt hT.t
    have lG := blk_lt hT.g
    have c0 := Go.cell_regrown (w := w2) (a := ⟨t, 0, none⟩) (v := .int .i64 n) (by rw [blk_cell hT.t]; rfl)
    have c1 := Go.cell_regrown (w := w2) (a := ⟨t, 1, none⟩) (v := .slice (some ⟨g, 0, none⟩) bs.length bs.length) (by rw [blk_cell hT.t]; rfl)
    have d0 := Go.cell_regrown (w := w2) (a := ⟨w.heap.size, 0, none⟩) (v := .int .i64 L) (by rw [blk_cell bP]; rfl)
    have d1 := Go.cell_regrown (w := w2) (a := ⟨w.heap.size, 1, none⟩) (v := .int .i64 X0) (by rw [blk_cell bP]; rfl)
    have d2 := Go.cell_regrown (w := w2) (a := ⟨w.heap.size, 2, none⟩) (v := .int .i64 Y0) (by rw [blk_cell bP]; rfl)
    have k1 : (k : Int) < bs.length := by omega
    (refine Reg.below_tail 12 (by kernel_rfl) (by kernel_rfl) ?_; simp only [List.take_succ_cons, List.take_zero, List.drop_succ_cons, List.drop_zero]; (repeat (go_big_quiet_step ((exact Calls.regrown_of (CK.out _))))); refine wpQuiet_nil ?_)
    intro w3 hU
    have KU := Rd.below_of_regrown hU
    have hT3 := hT.bel KU
    have L3 : Below w.heap.size w w3 := by repeat' (first | (with_reducible exact Below.refl _ _) | (with_reducible refine Rd.below_step ?_ (by assumption)) | (with_reducible refine Rd.below_alloc ?_ _) | (with_reducible refine Rd.below_drewN ?_ _) | (with_reducible refine Below.drew ?_) | (with_reducible refine Below.setCell ?_ ?_ _) | (with_reducible refine Rd.below_setRow ?_ ?_ _) | go_size | (simp only [World.size_alloc]; omega) | omega)
    have z := (blk_cell hT3.g k).trans (bb_at hk)
    have f := blk_frozen hT3.g k
    clear hU c0 c1 d0 d1 d2
    go_wp2
    go_ret
    exact ⟨by first | rfl | (rw [eB]; rfl), by first | exact hT3.set k yes | (rw [eK]; exact hT3.set k yes) | (rw [eB, if_pos rfl, eK]; exact hT3.set k yes), grown_set L3 g k _⟩
end Go.Proofs.Ytikoajlncdcbcaa.TbB
