/-
  Tables of which pages are there.
-/
import Derived.Test.YtikoajlncdcbcaaPgC
import Derived.Test.YtikoajlncdcbcaaPred
namespace Go.Proofs.Ytikoajlncdcbcaa.TbA
open Go.RowKit Rd Go.Proofs.Ytikoajlncdcbcaa.Row Mid PgM PgA PgB PgC
open Go.Proofs.Ytikoajlncdcbcaa.Pred (Is is_stab Stab)
set_option linter.unusedVariables false
set_option linter.unusedSimpArgs false
set_option maxRecDepth 10000
def bb (bs : List Bool) : Array Value := (bs.map Value.bool).toArray
theorem bb_at {bs : List Bool} {k : Nat} (h : k < bs.length) : (bb bs)[k]? = some (.bool (bs.getD k false)) := by
  simp [bb, List.getD, h]
theorem bb_set (bs : List Bool) (k : Nat) (v : Bool) : (bb bs).setIfInBounds k (.bool v) = bb (bs.set k v) := by
  simp [bb, List.setIfInBounds_toArray, List.map_set]
structure Tab (X : World) (t g n : Nat) (bs : List Bool) : Prop where
  t : blk X t = some (.cells #[.int .i64 n, .slice (some ⟨g, 0, none⟩) bs.length bs.length] 48 (0, 0))
  g : blk X g = some (.cells (bb bs) 4 (0, 0))
  len : bs.length = (allV n).length
  depth : n ≤ 3
theorem Tab.below {B : Nat} {X Y : World} {t g n : Nat} {bs : List Bool} (h : Tab X t g n bs) (hb : Below B X Y) (ht : t < B) (hg : g < B) : Tab Y t g n bs :=
  ⟨(blk_below hb _ ht).trans h.t, (blk_below hb _ hg).trans h.g, h.len, h.depth⟩
theorem Tab.lt {X : World} {t g n : Nat} {bs : List Bool} (h : Tab X t g n bs) : t < X.heap.size ∧ g < X.heap.size := ⟨blk_lt h.t, blk_lt h.g⟩
theorem Tab.bel {X Y : World} {t g n : Nat} {bs : List Bool} (h : Tab X t g n bs) (hb : Below X.heap.size X Y) : Tab Y t g n bs := h.below hb h.lt.1 h.lt.2
theorem Tab.pos {X : World} {t g n : Nat} {bs : List Bool} (h : Tab X t g n bs) : 1 ≤ bs.length := by
  rw [h.len]
  have := h.depth
  have : n = 0 ∨ n = 1 ∨ n = 2 ∨ n = 3 := by omega
  rcases this with rfl | rfl | rfl | rfl <;> decide +kernel
theorem Tab.small {X : World} {t g n : Nat} {bs : List Bool} (h : Tab X t g n bs) : bs.length ≤ 85 := by
  rw [h.len]
  exact all_small n
theorem key_in {n : Nat} {L X Y : Int} (hn : n ≤ 3) (h : validB n L X Y = true) : ∃ k : Nat, keyV n L X Y = (k : Int) ∧ k < (allV n).length := by
  have hk := keyV_yes h
  obtain ⟨⟨h1, h2⟩, ⟨h3, h4⟩, ⟨h5, h6⟩, ⟨h7, h8⟩⟩ := valid_yes h
  have f := front_bd h3 h4 h2
  have e := all_len (n : Int)
  unfold countV at e
  rw [if_pos (depth_mk h1 h2)] at e
  have b := sd_bd h3 h4 h2
  have hy : sd n L * Y ≤ sd n L * (sd n L - 1) := Int.mul_le_mul_of_nonneg_left (by omega) (by omega)
  have hy0 : 0 ≤ sd n L * Y := Int.mul_nonneg (by omega) h7
  have hs : sd n L * (sd n L - 1) = sd n L * sd n L - sd n L := by rw [Int.mul_sub, Int.mul_one]
  have fm : frontV n L + sd n L * sd n L ≤ frontV n 0 + sd n 0 * sd n 0 := by
    rcases ten h3 h4 h2 with ⟨a, c⟩ | ⟨a, c⟩ | ⟨a, c⟩ | ⟨a, c⟩ | ⟨a, c⟩ | ⟨a, c⟩ | ⟨a, c⟩ | ⟨a, c⟩ | ⟨a, c⟩ | ⟨a, c⟩ <;> (rw [a, c]; decide)
  exact ⟨(keyV n L X Y).toNat, by omega, by omega⟩
attribute [local go_sem ↓] store_pg eq_pg3
attribute [local go_sem] one_int pc3 run_store_pg rowStore_eq blk_alloc_at blk_alloc_old blk_drew blk_drewN blk_set_far blk_set_far' blk_grow setRow_alloc_at setRow_alloc_old setRow_drew setRow_drewN
set_option maxHeartbeats 2000000 in
theorem has_any (t g n : Nat) (bs : List Bool) (L X0 Y0 : Int) (w : World) (hTab : Tab w t g n bs) :
    Calls Try.prog 21 #[.pointer (some ⟨t, 0, none⟩), .agg #[.int .i64 L, .int .i64 X0, .int .i64 Y0]] w fun e w' => e = .returned (.bool (validB n L X0 Y0)) ∧ Below w.heap.size w w' := by
  obtain ⟨q, eq⟩ : ∃ q, validB n L X0 Y0 = q := ⟨_, rfl⟩
  have CV : Hid (∀ X : World, Calls Try.prog 28 #[.int .i64 n, .agg #[.int .i64 L, .int .i64 X0, .int .i64 Y0]] X fun e w' => e = .returned (.bool q) ∧ Below X.heap.size X w') := fun X => by
    have := valid_any n L X0 Y0 X
    rw [eq] at this
    exact this
  rw [eq]
  clear eq
  have hpos := hTab.pos
  have hgt : decide ((0 : Int) < bs.length) = true := decide_eq_true (by omega)
  have hgt2 : 0 < bs.length := hpos
  go_enter Try.func21, Try.ntmps21
  go_upto_region 1 with (fail)
  refine Rd.name_world ?_
  intro w1 hw
  have bP : blk w1 w.heap.size = some (.cells #[.int .i64 L, .int .i64 X0, .int .i64 Y0] 24 (0, 0)) := by rw [hw]; exact blk_alloc_at _ _ _ rfl
  have L1 : Below w.heap.size w w1 := by
    rw [hw]
    repeat' (first | (with_reducible exact Below.refl _ _) | (with_reducible refine Rd.below_step ?_ (by assumption)) | (with_reducible refine Rd.below_alloc ?_ _) | (with_reducible refine Rd.below_drewN ?_ _) | (with_reducible refine Below.drew ?_) | (with_reducible refine Below.setCell ?_ ?_ _) | (with_reducible refine Rd.below_setRow ?_ ?_ _) | go_size | (simp only [World.size_alloc]; omega) | omega)
  have hT : Tab w1 t g n bs := hTab.bel L1
  have lP := blk_lt bP
  have lT := blk_lt hT.t
  have lG := blk_lt hT.g
  clear hw
  refine Pred.region_vals (Pred.Of [
      Is (.pointer (some ⟨t, 0, none⟩)),
      Is (.bool true),
      Is (.bool true),
      Is (.pointer (some ⟨t, 0, none⟩)),
      Is (.pointer (some ⟨t, 0, none⟩)),
      Is (.pointer (some ⟨t, 1, none⟩)),
      Is (.slice (some ⟨g, 0, none⟩) bs.length bs.length),
      Is (.int .i64 (bs.length : Int)),
      Is (.bool true),
      Is (.bool true),
      Is (.bool true),
      Is (.pointer (some ⟨t, 0, none⟩)),
      Is (.pointer (some ⟨t, 0, none⟩)),
      Is (.pointer (some ⟨t, 0, none⟩)),
      Is (.int .i64 (n : Int)),
      Is (.agg #[.int .i64 L, .int .i64 X0, .int .i64 Y0]),
      Is (.bool q),
      Is (.bool q),
      Is (.bool q)]) (by kernel_rfl) (by kernel_rfl) (by kernel_rfl) (Pred.of_stab ?_) ?_ ?_
  · exact ⟨is_stab _, is_stab _, is_stab _, is_stab _, is_stab _, is_stab _, is_stab _, is_stab _, is_stab _, is_stab _, is_stab _, is_stab _, is_stab _, is_stab _, is_stab _, is_stab _, is_stab _, is_stab _, is_stab _, trivial⟩
  · refine ⟨?_, ?_, ?_, ?_, ?_, ?_, ?_, ?_, ?_, ?_, ?_, ?_, ?_, ?_, ?_, ?_, ?_, ?_, ?_, trivial⟩
    · intro b X hE hd hn hV
      have r0 : b.tmps[0]?.getD undef = .pointer (some ⟨t, 0, none⟩) := (hn 0 (by kernel_rfl)).trans rfl
      exact Pred.yields_run (v := .pointer (some ⟨t, 0, none⟩)) (Pred.wanted_none rfl) (by go_simp) ⟨Pred.ext_refl _ _, rfl⟩
    · intro b X hE hd hn hV
      have r5 : b.tmps[5]?.getD undef = .pointer (some ⟨t, 0, none⟩) := hV 0 _ 5 rfl rfl (Pred.waits_near (by kernel_rfl) (by kernel_rfl))
      exact Pred.yields_run (v := .bool true) (Pred.wanted_none rfl) (by go_simp) ⟨Pred.ext_refl _ _, rfl⟩
    · intro b X hE hd hn hV
      have r6 : b.tmps[6]?.getD undef = .bool true := hV 1 _ 6 rfl rfl (Pred.waits_near (by kernel_rfl) (by kernel_rfl))
      exact Pred.yields_run (v := .bool true) (Pred.wanted_none rfl) (by go_simp) ⟨Pred.ext_refl _ _, rfl⟩
    · intro b X hE hd hn hV
      have r0 : b.tmps[0]?.getD undef = .pointer (some ⟨t, 0, none⟩) := (hn 0 (by kernel_rfl)).trans rfl
      have r7 : b.tmps[7]?.getD undef = .bool true := hV 2 _ 7 rfl rfl (Pred.waits_near (by kernel_rfl) (by kernel_rfl))
      exact Pred.yields_run (v := .pointer (some ⟨t, 0, none⟩)) ((Pred.wanted_at (g := 2) (d := 7) (f := true) rfl rfl r7).trans rfl) (by go_simp) ⟨Pred.ext_refl _ _, rfl⟩
    · intro b X hE hd hn hV
      have r8 : b.tmps[8]?.getD undef = .pointer (some ⟨t, 0, none⟩) := hV 3 _ 8 rfl rfl (Pred.waits_near (by kernel_rfl) (by kernel_rfl))
      have r7 : b.tmps[7]?.getD undef = .bool true := hV 2 _ 7 rfl rfl (Pred.waits_near (by kernel_rfl) (by kernel_rfl))
      exact Pred.yields_run (v := .pointer (some ⟨t, 0, none⟩)) ((Pred.wanted_at (g := 2) (d := 7) (f := true) rfl rfl r7).trans rfl) (by go_simp) ⟨Pred.ext_refl _ _, rfl⟩
    · intro b X hE hd hn hV
      have r9 : b.tmps[9]?.getD undef = .pointer (some ⟨t, 0, none⟩) := hV 4 _ 9 rfl rfl (Pred.waits_near (by kernel_rfl) (by kernel_rfl))
      have r7 : b.tmps[7]?.getD undef = .bool true := hV 2 _ 7 rfl rfl (Pred.waits_near (by kernel_rfl) (by kernel_rfl))
      exact Pred.yields_run (v := .pointer (some ⟨t, 1, none⟩)) ((Pred.wanted_at (g := 2) (d := 7) (f := true) rfl rfl r7).trans rfl) (by go_simp) ⟨Pred.ext_refl _ _, rfl⟩
    · intro b X hE hd hn hV
      have r10 : b.tmps[10]?.getD undef = .pointer (some ⟨t, 1, none⟩) := hV 5 _ 10 rfl rfl (Pred.waits_near (by kernel_rfl) (by kernel_rfl))
      have r7 : b.tmps[7]?.getD undef = .bool true := hV 2 _ 7 rfl rfl (Pred.waits_near (by kernel_rfl) (by kernel_rfl))
      have q := (blk_below hE _ lT).trans hT.t
      have z : X.cell? ⟨t, 1, none⟩ = some (.slice (some ⟨g, 0, none⟩) bs.length bs.length) := by rw [blk_cell q]; rfl
      exact Pred.yields_run (v := .slice (some ⟨g, 0, none⟩) bs.length bs.length) ((Pred.wanted_at (g := 2) (d := 7) (f := true) rfl rfl r7).trans rfl) (by go_simp) ⟨Pred.ext_refl _ _, rfl⟩
    · intro b X hE hd hn hV
      have r11 : b.tmps[11]?.getD undef = .slice (some ⟨g, 0, none⟩) bs.length bs.length := hV 6 _ 11 rfl rfl (Pred.waits_near (by kernel_rfl) (by kernel_rfl))
      have r7 : b.tmps[7]?.getD undef = .bool true := hV 2 _ 7 rfl rfl (Pred.waits_near (by kernel_rfl) (by kernel_rfl))
      exact Pred.yields_run (v := .int .i64 (bs.length : Int)) ((Pred.wanted_at (g := 2) (d := 7) (f := true) rfl rfl r7).trans rfl) (by go_simp) ⟨Pred.ext_refl _ _, rfl⟩
    · intro b X hE hd hn hV
      have r12 : b.tmps[12]?.getD undef = .int .i64 (bs.length : Int) := hV 7 _ 12 rfl rfl (Pred.waits_near (by kernel_rfl) (by kernel_rfl))
      have r7 : b.tmps[7]?.getD undef = .bool true := hV 2 _ 7 rfl rfl (Pred.waits_near (by kernel_rfl) (by kernel_rfl))
      exact Pred.yields_run (v := .bool true) ((Pred.wanted_at (g := 2) (d := 7) (f := true) rfl rfl r7).trans rfl) (by go_simp) ⟨Pred.ext_refl _ _, rfl⟩
    · intro b X hE hd hn hV
      have r7 : b.tmps[7]?.getD undef = .bool true := hV 2 _ 7 rfl rfl (Pred.waits_near (by kernel_rfl) (by kernel_rfl))
      have r13 : b.tmps[13]?.getD undef = .bool true := hV 8 _ 13 rfl rfl (Pred.waits_near (by kernel_rfl) (by kernel_rfl))
      exact Pred.yields_run (v := .bool true) (Pred.wanted_none rfl) (by go_simp) ⟨Pred.ext_refl _ _, rfl⟩
    · intro b X hE hd hn hV
      have r14 : b.tmps[14]?.getD undef = .bool true := hV 9 _ 14 rfl rfl (Pred.waits_near (by kernel_rfl) (by kernel_rfl))
      exact Pred.yields_run (v := .bool true) (Pred.wanted_none rfl) (by go_simp) ⟨Pred.ext_refl _ _, rfl⟩
    · intro b X hE hd hn hV
      have r0 : b.tmps[0]?.getD undef = .pointer (some ⟨t, 0, none⟩) := (hn 0 (by kernel_rfl)).trans rfl
      have r15 : b.tmps[15]?.getD undef = .bool true := hV 10 _ 15 rfl rfl (Pred.waits_near (by kernel_rfl) (by kernel_rfl))
      exact Pred.yields_run (v := .pointer (some ⟨t, 0, none⟩)) ((Pred.wanted_at (g := 10) (d := 15) (f := true) rfl rfl r15).trans rfl) (by go_simp) ⟨Pred.ext_refl _ _, rfl⟩
    · intro b X hE hd hn hV
      have r16 : b.tmps[16]?.getD undef = .pointer (some ⟨t, 0, none⟩) := hV 11 _ 16 rfl rfl (Pred.waits_near (by kernel_rfl) (by kernel_rfl))
      have r15 : b.tmps[15]?.getD undef = .bool true := hV 10 _ 15 rfl rfl (Pred.waits_near (by kernel_rfl) (by kernel_rfl))
      exact Pred.yields_run (v := .pointer (some ⟨t, 0, none⟩)) ((Pred.wanted_at (g := 10) (d := 15) (f := true) rfl rfl r15).trans rfl) (by go_simp) ⟨Pred.ext_refl _ _, rfl⟩
    · intro b X hE hd hn hV
      have r17 : b.tmps[17]?.getD undef = .pointer (some ⟨t, 0, none⟩) := hV 12 _ 17 rfl rfl (Pred.waits_near (by kernel_rfl) (by kernel_rfl))
      have r15 : b.tmps[15]?.getD undef = .bool true := hV 10 _ 15 rfl rfl (Pred.waits_near (by kernel_rfl) (by kernel_rfl))
      exact Pred.yields_run (v := .pointer (some ⟨t, 0, none⟩)) ((Pred.wanted_at (g := 10) (d := 15) (f := true) rfl rfl r15).trans rfl) (by go_simp) ⟨Pred.ext_refl _ _, rfl⟩
    · intro b X hE hd hn hV
      have r18 : b.tmps[18]?.getD undef = .pointer (some ⟨t, 0, none⟩) := hV 13 _ 18 rfl rfl (Pred.waits_near (by kernel_rfl) (by kernel_rfl))
      have r15 : b.tmps[15]?.getD undef = .bool true := hV 10 _ 15 rfl rfl (Pred.waits_near (by kernel_rfl) (by kernel_rfl))
      have q := (blk_below hE _ lT).trans hT.t
      have z : X.cell? ⟨t, 0, none⟩ = some (.int .i64 (n : Int)) := by rw [blk_cell q]; rfl
      exact Pred.yields_run (v := .int .i64 (n : Int)) ((Pred.wanted_at (g := 10) (d := 15) (f := true) rfl rfl r15).trans rfl) (by go_simp) ⟨Pred.ext_refl _ _, rfl⟩
    · intro b X hE hd hn hV
      have r3 : b.tmps[3]?.getD undef = .pointer (some ⟨w.heap.size, 0, none⟩) := (hn 3 (by kernel_rfl)).trans rfl
      have r15 : b.tmps[15]?.getD undef = .bool true := hV 10 _ 15 rfl rfl (Pred.waits_near (by kernel_rfl) (by kernel_rfl))
      have q := (blk_below hE _ lP).trans bP
      have z0 : X.cell? ⟨w.heap.size, 0, none⟩ = some (.int .i64 L) := by rw [blk_cell q]; rfl
      have z1 : X.cell? ⟨w.heap.size, 1, none⟩ = some (.int .i64 X0) := by rw [blk_cell q]; rfl
      have z2 : X.cell? ⟨w.heap.size, 2, none⟩ = some (.int .i64 Y0) := by rw [blk_cell q]; rfl
      exact Pred.yields_run (v := .agg #[.int .i64 L, .int .i64 X0, .int .i64 Y0]) ((Pred.wanted_at (g := 10) (d := 15) (f := true) rfl rfl r15).trans rfl) (by go_simp) ⟨Pred.ext_refl _ _, rfl⟩
    · intro b X hE hd hn hV
      have r19 : b.tmps[19]?.getD undef = .int .i64 (n : Int) := hV 14 _ 19 rfl rfl (Pred.waits_near (by kernel_rfl) (by kernel_rfl))
      have r20 : b.tmps[20]?.getD undef = .agg #[.int .i64 L, .int .i64 X0, .int .i64 Y0] := hV 15 _ 20 rfl rfl (Pred.waits_near (by kernel_rfl) (by kernel_rfl))
      have r15 : b.tmps[15]?.getD undef = .bool true := hV 10 _ 15 rfl rfl (Pred.waits_near (by kernel_rfl) (by kernel_rfl))
      refine Pred.yields_call (f := 28) (args := #[.int .i64 n, .agg #[.int .i64 L, .int .i64 X0, .int .i64 Y0]]) ((Pred.wanted_at (g := 10) (d := 15) (f := true) rfl rfl r15).trans rfl) (by go_simp) ?_
      exact (CV.out _).mono fun e w2 ⟨he, hb⟩ => ⟨_, he, Pred.ext_below hb hE.size, rfl⟩
    · intro b X hE hd hn hV
      have r15 : b.tmps[15]?.getD undef = .bool true := hV 10 _ 15 rfl rfl (Pred.waits_near (by kernel_rfl) (by kernel_rfl))
      have r21 : b.tmps[21]?.getD undef = .bool q := hV 16 _ 21 rfl rfl (Pred.waits_near (by kernel_rfl) (by kernel_rfl))
      exact Pred.yields_run (v := .bool q) (Pred.wanted_none rfl) (by go_simp) ⟨Pred.ext_refl _ _, rfl⟩
    · intro b X hE hd hn hV
      have r22 : b.tmps[22]?.getD undef = .bool q := hV 17 _ 22 rfl rfl (Pred.waits_near (by kernel_rfl) (by kernel_rfl))
      exact Pred.yields_run (v := .bool q) (Pred.wanted_none rfl) (by go_simp) ⟨Pred.ext_refl _ _, rfl⟩
  intro v w2 hE hv
  have e0 : v 0 = .pointer (some ⟨t, 0, none⟩) := hv 0 _ 5 rfl rfl
  have e1 : v 1 = .bool true := hv 1 _ 6 rfl rfl
  have e2 : v 2 = .bool true := hv 2 _ 7 rfl rfl
  have e3 : v 3 = .pointer (some ⟨t, 0, none⟩) := hv 3 _ 8 rfl rfl
  have e4 : v 4 = .pointer (some ⟨t, 0, none⟩) := hv 4 _ 9 rfl rfl
  have e5 : v 5 = .pointer (some ⟨t, 1, none⟩) := hv 5 _ 10 rfl rfl
  have e6 : v 6 = .slice (some ⟨g, 0, none⟩) bs.length bs.length := hv 6 _ 11 rfl rfl
  have e7 : v 7 = .int .i64 (bs.length : Int) := hv 7 _ 12 rfl rfl
  have e8 : v 8 = .bool true := hv 8 _ 13 rfl rfl
  have e9 : v 9 = .bool true := hv 9 _ 14 rfl rfl
  have e10 : v 10 = .bool true := hv 10 _ 15 rfl rfl
  have e11 : v 11 = .pointer (some ⟨t, 0, none⟩) := hv 11 _ 16 rfl rfl
  have e12 : v 12 = .pointer (some ⟨t, 0, none⟩) := hv 12 _ 17 rfl rfl
  have e13 : v 13 = .pointer (some ⟨t, 0, none⟩) := hv 13 _ 18 rfl rfl
  have e14 : v 14 = .int .i64 (n : Int) := hv 14 _ 19 rfl rfl
  have e15 : v 15 = .agg #[.int .i64 L, .int .i64 X0, .int .i64 Y0] := hv 15 _ 20 rfl rfl
  have e16 : v 16 = .bool q := hv 16 _ 21 rfl rfl
  have e17 : v 17 = .bool q := hv 17 _ 22 rfl rfl
  have e18 : v 18 = .bool q := hv 18 _ 4 rfl rfl
  simp only [Pred.putsF_cons, Pred.putsF_nil, Nat.zero_add, Nat.reduceAdd, e0, e1, e2, e3, e4, e5, e6, e7, e8, e9, e10, e11, e12, e13, e14, e15, e16, e17, e18, Act.put, List.setIfInBounds_toArray, List.set_cons_zero, List.set_cons_succ]
  clear e0 e1 e2 e3 e4 e5 e6 e7 e8 e9 e10 e11 e12 e13 e14 e15 e16 e17 e18 hv
  have L2 : Below w.heap.size w w2 := by repeat' (first | (with_reducible exact Below.refl _ _) | (with_reducible refine Rd.below_step ?_ (by assumption)) | (with_reducible refine Rd.below_alloc ?_ _) | (with_reducible refine Rd.below_drewN ?_ _) | (with_reducible refine Below.drew ?_) | (with_reducible refine Below.setCell ?_ ?_ _) | (with_reducible refine Rd.below_setRow ?_ ?_ _) | go_size | (simp only [World.size_alloc]; omega) | omega)
  clear hE
  go_wp2
  go_ret
  exact ⟨rfl, L2⟩
def thereV (n : Nat) (bs : List Bool) (L X Y : Int) : Bool := validB n L X Y && bs.getD (keyV n L X Y).toNat false
set_option maxHeartbeats 2000000 in
theorem there_any (t g n : Nat) (bs : List Bool) (L X0 Y0 : Int) (w : World) (hTab : Tab w t g n bs) :
    Calls Try.prog 14 #[.pointer (some ⟨t, 0, none⟩), .agg #[.int .i64 L, .int .i64 X0, .int .i64 Y0]] w fun e w' => e = .returned (.bool (thereV n bs L X0 Y0)) ∧ Below w.heap.size w w' := by
  obtain ⟨q, eq⟩ : ∃ q, validB n L X0 Y0 = q := ⟨_, rfl⟩
  have CH : Hid (∀ X : World, Tab X t g n bs → Calls Try.prog 21 #[.pointer (some ⟨t, 0, none⟩), .agg #[.int .i64 L, .int .i64 X0, .int .i64 Y0]] X fun e w' => e = .returned (.bool q) ∧ Below X.heap.size X w') := fun X h => by
    have := has_any t g n bs L X0 Y0 X h
    rw [eq] at this
    exact this
  cases q
  case false =>
    rw [show thereV n bs L X0 Y0 = false by unfold thereV; rw [eq]; rfl]
    clear eq
    go_enter Try.func14, Try.ntmps14
    go_upto_region 1 with (fail)
    refine Rd.name_world ?_
    intro w1 hw
    have bP : blk w1 w.heap.size = some (.cells #[.int .i64 L, .int .i64 X0, .int .i64 Y0] 24 (0, 0)) := by rw [hw]; exact blk_alloc_at _ _ _ rfl
    have L1 : Below w.heap.size w w1 := by
      rw [hw]
      repeat' (first | (with_reducible exact Below.refl _ _) | (with_reducible refine Rd.below_step ?_ (by assumption)) | (with_reducible refine Rd.below_alloc ?_ _) | (with_reducible refine Rd.below_drewN ?_ _) | (with_reducible refine Below.drew ?_) | (with_reducible refine Below.setCell ?_ ?_ _) | (with_reducible refine Rd.below_setRow ?_ ?_ _) | go_size | (simp only [World.size_alloc]; omega) | omega)
    have hT : Tab w1 t g n bs := hTab.bel L1
    have lP := blk_lt bP
    have lT := blk_lt hT.t
    have lG := blk_lt hT.g
    clear hw
    refine Pred.region_vals (Pred.Of [
        Is (.pointer (some ⟨t, 0, none⟩)),
        Is (.agg #[.int .i64 L, .int .i64 X0, .int .i64 Y0]),
        Is (.bool false),
        Is (.bool false),
        Is (undef),
        Is (undef),
        Is (undef),
        Is (undef),
        Is (undef),
        Is (undef),
        Is (undef),
        Is (undef),
        Is (undef),
        Is (undef),
        Is (undef),
        Is (undef),
        Is (.bool false),
        Is (.bool false)]) (by kernel_rfl) (by kernel_rfl) (by kernel_rfl) (Pred.of_stab ?_) ?_ ?_
    · exact ⟨is_stab _, is_stab _, is_stab _, is_stab _, is_stab _, is_stab _, is_stab _, is_stab _, is_stab _, is_stab _, is_stab _, is_stab _, is_stab _, is_stab _, is_stab _, is_stab _, is_stab _, is_stab _, trivial⟩
    · refine ⟨?_, ?_, ?_, ?_, ?_, ?_, ?_, ?_, ?_, ?_, ?_, ?_, ?_, ?_, ?_, ?_, ?_, ?_, trivial⟩
      · intro b X hE hd hn hV
        have r0 : b.tmps[0]?.getD undef = .pointer (some ⟨t, 0, none⟩) := (hn 0 (by kernel_rfl)).trans rfl
        exact Pred.yields_run (v := .pointer (some ⟨t, 0, none⟩)) (Pred.wanted_none rfl) (by go_simp) ⟨Pred.ext_refl _ _, rfl⟩
      · intro b X hE hd hn hV
        have r3 : b.tmps[3]?.getD undef = .pointer (some ⟨w.heap.size, 0, none⟩) := (hn 3 (by kernel_rfl)).trans rfl
        have q := (blk_below hE _ lP).trans bP
        have z0 : X.cell? ⟨w.heap.size, 0, none⟩ = some (.int .i64 L) := by rw [blk_cell q]; rfl
        have z1 : X.cell? ⟨w.heap.size, 1, none⟩ = some (.int .i64 X0) := by rw [blk_cell q]; rfl
        have z2 : X.cell? ⟨w.heap.size, 2, none⟩ = some (.int .i64 Y0) := by rw [blk_cell q]; rfl
        exact Pred.yields_run (v := .agg #[.int .i64 L, .int .i64 X0, .int .i64 Y0]) (Pred.wanted_none rfl) (by go_simp) ⟨Pred.ext_refl _ _, rfl⟩
      · intro b X hE hd hn hV
        have r5 : b.tmps[5]?.getD undef = .pointer (some ⟨t, 0, none⟩) := hV 0 _ 5 rfl rfl (Pred.waits_near (by kernel_rfl) (by kernel_rfl))
        have r6 : b.tmps[6]?.getD undef = .agg #[.int .i64 L, .int .i64 X0, .int .i64 Y0] := hV 1 _ 6 rfl rfl (Pred.waits_near (by kernel_rfl) (by kernel_rfl))
        refine Pred.yields_call (f := 21) (args := #[.pointer (some ⟨t, 0, none⟩), .agg #[.int .i64 L, .int .i64 X0, .int .i64 Y0]]) (Pred.wanted_none rfl) (by go_simp) ?_
        exact (CH.out _ (hT.below hE lT lG)).mono fun e w2 ⟨he, hb⟩ => ⟨_, he, Pred.ext_below hb hE.size, rfl⟩
      · intro b X hE hd hn hV
        have r7 : b.tmps[7]?.getD undef = .bool false := hV 2 _ 7 rfl rfl (Pred.waits_near (by kernel_rfl) (by kernel_rfl))
        exact Pred.yields_run (v := .bool false) (Pred.wanted_none rfl) (by go_simp) ⟨Pred.ext_refl _ _, rfl⟩
      · intro b X hE hd hn hV
        have r8 : b.tmps[8]?.getD undef = .bool false := hV 3 _ 8 rfl rfl (Pred.waits_near (by kernel_rfl) (by kernel_rfl))
        exact Pred.yields_not ((Pred.wanted_at (g := 3) (d := 8) (f := true) rfl rfl r8).trans rfl) ⟨Pred.ext_refl _ _, rfl⟩
      · intro b X hE hd hn hV
        have r8 : b.tmps[8]?.getD undef = .bool false := hV 3 _ 8 rfl rfl (Pred.waits_near (by kernel_rfl) (by kernel_rfl))
        exact Pred.yields_not ((Pred.wanted_at (g := 3) (d := 8) (f := true) rfl rfl r8).trans rfl) ⟨Pred.ext_refl _ _, rfl⟩
      · intro b X hE hd hn hV
        have r8 : b.tmps[8]?.getD undef = .bool false := hV 3 _ 8 rfl rfl (Pred.waits_near (by kernel_rfl) (by kernel_rfl))
        exact Pred.yields_not ((Pred.wanted_at (g := 3) (d := 8) (f := true) rfl rfl r8).trans rfl) ⟨Pred.ext_refl _ _, rfl⟩
      · intro b X hE hd hn hV
        have r8 : b.tmps[8]?.getD undef = .bool false := hV 3 _ 8 rfl rfl (Pred.waits_near (by kernel_rfl) (by kernel_rfl))
        exact Pred.yields_not ((Pred.wanted_at (g := 3) (d := 8) (f := true) rfl rfl r8).trans rfl) ⟨Pred.ext_refl _ _, rfl⟩
      · intro b X hE hd hn hV
        have r8 : b.tmps[8]?.getD undef = .bool false := hV 3 _ 8 rfl rfl (Pred.waits_near (by kernel_rfl) (by kernel_rfl))
        exact Pred.yields_not ((Pred.wanted_at (g := 3) (d := 8) (f := true) rfl rfl r8).trans rfl) ⟨Pred.ext_refl _ _, rfl⟩
      · intro b X hE hd hn hV
        have r8 : b.tmps[8]?.getD undef = .bool false := hV 3 _ 8 rfl rfl (Pred.waits_near (by kernel_rfl) (by kernel_rfl))
        exact Pred.yields_not ((Pred.wanted_at (g := 3) (d := 8) (f := true) rfl rfl r8).trans rfl) ⟨Pred.ext_refl _ _, rfl⟩
      · intro b X hE hd hn hV
        have r8 : b.tmps[8]?.getD undef = .bool false := hV 3 _ 8 rfl rfl (Pred.waits_near (by kernel_rfl) (by kernel_rfl))
        exact Pred.yields_not ((Pred.wanted_at (g := 3) (d := 8) (f := true) rfl rfl r8).trans rfl) ⟨Pred.ext_refl _ _, rfl⟩
      · intro b X hE hd hn hV
        have r8 : b.tmps[8]?.getD undef = .bool false := hV 3 _ 8 rfl rfl (Pred.waits_near (by kernel_rfl) (by kernel_rfl))
        exact Pred.yields_not ((Pred.wanted_at (g := 3) (d := 8) (f := true) rfl rfl r8).trans rfl) ⟨Pred.ext_refl _ _, rfl⟩
      · intro b X hE hd hn hV
        have r8 : b.tmps[8]?.getD undef = .bool false := hV 3 _ 8 rfl rfl (Pred.waits_near (by kernel_rfl) (by kernel_rfl))
        exact Pred.yields_not ((Pred.wanted_at (g := 3) (d := 8) (f := true) rfl rfl r8).trans rfl) ⟨Pred.ext_refl _ _, rfl⟩
      · intro b X hE hd hn hV
        have r8 : b.tmps[8]?.getD undef = .bool false := hV 3 _ 8 rfl rfl (Pred.waits_near (by kernel_rfl) (by kernel_rfl))
        exact Pred.yields_not ((Pred.wanted_at (g := 3) (d := 8) (f := true) rfl rfl r8).trans rfl) ⟨Pred.ext_refl _ _, rfl⟩
      · intro b X hE hd hn hV
        have r8 : b.tmps[8]?.getD undef = .bool false := hV 3 _ 8 rfl rfl (Pred.waits_near (by kernel_rfl) (by kernel_rfl))
        exact Pred.yields_not ((Pred.wanted_at (g := 3) (d := 8) (f := true) rfl rfl r8).trans rfl) ⟨Pred.ext_refl _ _, rfl⟩
      · intro b X hE hd hn hV
        have r8 : b.tmps[8]?.getD undef = .bool false := hV 3 _ 8 rfl rfl (Pred.waits_near (by kernel_rfl) (by kernel_rfl))
        exact Pred.yields_not ((Pred.wanted_at (g := 3) (d := 8) (f := true) rfl rfl r8).trans rfl) ⟨Pred.ext_refl _ _, rfl⟩
      · intro b X hE hd hn hV
        have r8 : b.tmps[8]?.getD undef = .bool false := hV 3 _ 8 rfl rfl (Pred.waits_near (by kernel_rfl) (by kernel_rfl))
        have r20 : b.tmps[20]?.getD undef = undef := hV 15 _ 20 rfl rfl (Pred.waits_near (by kernel_rfl) (by kernel_rfl))
        exact Pred.yields_run (v := .bool false) (Pred.wanted_none rfl) (by go_simp) ⟨Pred.ext_refl _ _, rfl⟩
      · intro b X hE hd hn hV
        have r21 : b.tmps[21]?.getD undef = .bool false := hV 16 _ 21 rfl rfl (Pred.waits_near (by kernel_rfl) (by kernel_rfl))
        exact Pred.yields_run (v := .bool false) (Pred.wanted_none rfl) (by go_simp) ⟨Pred.ext_refl _ _, rfl⟩
    intro v w2 hE hv
    have e0 : v 0 = .pointer (some ⟨t, 0, none⟩) := hv 0 _ 5 rfl rfl
    have e1 : v 1 = .agg #[.int .i64 L, .int .i64 X0, .int .i64 Y0] := hv 1 _ 6 rfl rfl
    have e2 : v 2 = .bool false := hv 2 _ 7 rfl rfl
    have e3 : v 3 = .bool false := hv 3 _ 8 rfl rfl
    have e4 : v 4 = undef := hv 4 _ 9 rfl rfl
    have e5 : v 5 = undef := hv 5 _ 10 rfl rfl
    have e6 : v 6 = undef := hv 6 _ 11 rfl rfl
    have e7 : v 7 = undef := hv 7 _ 12 rfl rfl
    have e8 : v 8 = undef := hv 8 _ 13 rfl rfl
    have e9 : v 9 = undef := hv 9 _ 14 rfl rfl
    have e10 : v 10 = undef := hv 10 _ 15 rfl rfl
    have e11 : v 11 = undef := hv 11 _ 16 rfl rfl
    have e12 : v 12 = undef := hv 12 _ 17 rfl rfl
    have e13 : v 13 = undef := hv 13 _ 18 rfl rfl
    have e14 : v 14 = undef := hv 14 _ 19 rfl rfl
    have e15 : v 15 = undef := hv 15 _ 20 rfl rfl
    have e16 : v 16 = .bool false := hv 16 _ 21 rfl rfl
    have e17 : v 17 = .bool false := hv 17 _ 4 rfl rfl
    simp only [Pred.putsF_cons, Pred.putsF_nil, Nat.zero_add, Nat.reduceAdd, e0, e1, e2, e3, e4, e5, e6, e7, e8, e9, e10, e11, e12, e13, e14, e15, e16, e17, Act.put, List.setIfInBounds_toArray, List.set_cons_zero, List.set_cons_succ]
    clear e0 e1 e2 e3 e4 e5 e6 e7 e8 e9 e10 e11 e12 e13 e14 e15 e16 e17 hv
    have L2 : Below w.heap.size w w2 := by repeat' (first | (with_reducible exact Below.refl _ _) | (with_reducible refine Rd.below_step ?_ (by assumption)) | (with_reducible refine Rd.below_alloc ?_ _) | (with_reducible refine Rd.below_drewN ?_ _) | (with_reducible refine Below.drew ?_) | (with_reducible refine Below.setCell ?_ ?_ _) | (with_reducible refine Rd.below_setRow ?_ ?_ _) | go_size | (simp only [World.size_alloc]; omega) | omega)
    clear hE
    go_wp2
    go_ret
    exact ⟨rfl, L2⟩
  case true =>
    obtain ⟨k, ek, hk⟩ := key_in hTab.depth eq
    rw [← hTab.len] at hk
    rw [show thereV n bs L X0 Y0 = bs.getD k false by unfold thereV; rw [eq, ek]; rfl]
    have CK : Hid (∀ X : World, Calls Try.prog 22 #[.int .i64 n, .agg #[.int .i64 L, .int .i64 X0, .int .i64 Y0]] X fun e w' => e = .returned (.int .i64 k) ∧ Below X.heap.size X w') := fun X => by
      have := key_any n L X0 Y0 X
      rw [ek] at this
      exact this
    clear eq ek
    go_enter Try.func14, Try.ntmps14
    go_upto_region 1 with (fail)
    refine Rd.name_world ?_
    intro w1 hw
    have bP : blk w1 w.heap.size = some (.cells #[.int .i64 L, .int .i64 X0, .int .i64 Y0] 24 (0, 0)) := by rw [hw]; exact blk_alloc_at _ _ _ rfl
    have L1 : Below w.heap.size w w1 := by
      rw [hw]
      repeat' (first | (with_reducible exact Below.refl _ _) | (with_reducible refine Rd.below_step ?_ (by assumption)) | (with_reducible refine Rd.below_alloc ?_ _) | (with_reducible refine Rd.below_drewN ?_ _) | (with_reducible refine Below.drew ?_) | (with_reducible refine Below.setCell ?_ ?_ _) | (with_reducible refine Rd.below_setRow ?_ ?_ _) | go_size | (simp only [World.size_alloc]; omega) | omega)
    have hT : Tab w1 t g n bs := hTab.bel L1
    have lP := blk_lt bP
    have lT := blk_lt hT.t
    have lG := blk_lt hT.g
    clear hw
    refine Pred.region_vals (Pred.Of [
        Is (.pointer (some ⟨t, 0, none⟩)),
        Is (.agg #[.int .i64 L, .int .i64 X0, .int .i64 Y0]),
        Is (.bool true),
        Is (.bool true),
        Is (.pointer (some ⟨t, 0, none⟩)),
        Is (.pointer (some ⟨t, 0, none⟩)),
        Is (.pointer (some ⟨t, 1, none⟩)),
        Is (.slice (some ⟨g, 0, none⟩) bs.length bs.length),
        Is (.pointer (some ⟨t, 0, none⟩)),
        Is (.pointer (some ⟨t, 0, none⟩)),
        Is (.pointer (some ⟨t, 0, none⟩)),
        Is (.int .i64 (n : Int)),
        Is (.agg #[.int .i64 L, .int .i64 X0, .int .i64 Y0]),
        Is (.int .i64 (k : Int)),
        Is (.pointer (some ⟨g, k, none⟩)),
        Is (.bool (bs.getD k false)),
        Is (.bool (bs.getD k false)),
        Is (.bool (bs.getD k false))]) (by kernel_rfl) (by kernel_rfl) (by kernel_rfl) (Pred.of_stab ?_) ?_ ?_
    · exact ⟨is_stab _, is_stab _, is_stab _, is_stab _, is_stab _, is_stab _, is_stab _, is_stab _, is_stab _, is_stab _, is_stab _, is_stab _, is_stab _, is_stab _, is_stab _, is_stab _, is_stab _, is_stab _, trivial⟩
    · refine ⟨?_, ?_, ?_, ?_, ?_, ?_, ?_, ?_, ?_, ?_, ?_, ?_, ?_, ?_, ?_, ?_, ?_, ?_, trivial⟩
      · intro b X hE hd hn hV
        have r0 : b.tmps[0]?.getD undef = .pointer (some ⟨t, 0, none⟩) := (hn 0 (by kernel_rfl)).trans rfl
        exact Pred.yields_run (v := .pointer (some ⟨t, 0, none⟩)) (Pred.wanted_none rfl) (by go_simp) ⟨Pred.ext_refl _ _, rfl⟩
      · intro b X hE hd hn hV
        have r3 : b.tmps[3]?.getD undef = .pointer (some ⟨w.heap.size, 0, none⟩) := (hn 3 (by kernel_rfl)).trans rfl
        have q := (blk_below hE _ lP).trans bP
        have z0 : X.cell? ⟨w.heap.size, 0, none⟩ = some (.int .i64 L) := by rw [blk_cell q]; rfl
        have z1 : X.cell? ⟨w.heap.size, 1, none⟩ = some (.int .i64 X0) := by rw [blk_cell q]; rfl
        have z2 : X.cell? ⟨w.heap.size, 2, none⟩ = some (.int .i64 Y0) := by rw [blk_cell q]; rfl
        exact Pred.yields_run (v := .agg #[.int .i64 L, .int .i64 X0, .int .i64 Y0]) (Pred.wanted_none rfl) (by go_simp) ⟨Pred.ext_refl _ _, rfl⟩
      · intro b X hE hd hn hV
        have r5 : b.tmps[5]?.getD undef = .pointer (some ⟨t, 0, none⟩) := hV 0 _ 5 rfl rfl (Pred.waits_near (by kernel_rfl) (by kernel_rfl))
        have r6 : b.tmps[6]?.getD undef = .agg #[.int .i64 L, .int .i64 X0, .int .i64 Y0] := hV 1 _ 6 rfl rfl (Pred.waits_near (by kernel_rfl) (by kernel_rfl))
        refine Pred.yields_call (f := 21) (args := #[.pointer (some ⟨t, 0, none⟩), .agg #[.int .i64 L, .int .i64 X0, .int .i64 Y0]]) (Pred.wanted_none rfl) (by go_simp) ?_
        exact (CH.out _ (hT.below hE lT lG)).mono fun e w2 ⟨he, hb⟩ => ⟨_, he, Pred.ext_below hb hE.size, rfl⟩
      · intro b X hE hd hn hV
        have r7 : b.tmps[7]?.getD undef = .bool true := hV 2 _ 7 rfl rfl (Pred.waits_near (by kernel_rfl) (by kernel_rfl))
        exact Pred.yields_run (v := .bool true) (Pred.wanted_none rfl) (by go_simp) ⟨Pred.ext_refl _ _, rfl⟩
      · intro b X hE hd hn hV
        have r0 : b.tmps[0]?.getD undef = .pointer (some ⟨t, 0, none⟩) := (hn 0 (by kernel_rfl)).trans rfl
        have r8 : b.tmps[8]?.getD undef = .bool true := hV 3 _ 8 rfl rfl (Pred.waits_near (by kernel_rfl) (by kernel_rfl))
        exact Pred.yields_run (v := .pointer (some ⟨t, 0, none⟩)) ((Pred.wanted_at (g := 3) (d := 8) (f := true) rfl rfl r8).trans rfl) (by go_simp) ⟨Pred.ext_refl _ _, rfl⟩
      · intro b X hE hd hn hV
        have r9 : b.tmps[9]?.getD undef = .pointer (some ⟨t, 0, none⟩) := hV 4 _ 9 rfl rfl (Pred.waits_near (by kernel_rfl) (by kernel_rfl))
        have r8 : b.tmps[8]?.getD undef = .bool true := hV 3 _ 8 rfl rfl (Pred.waits_near (by kernel_rfl) (by kernel_rfl))
        exact Pred.yields_run (v := .pointer (some ⟨t, 0, none⟩)) ((Pred.wanted_at (g := 3) (d := 8) (f := true) rfl rfl r8).trans rfl) (by go_simp) ⟨Pred.ext_refl _ _, rfl⟩
      · intro b X hE hd hn hV
        have r10 : b.tmps[10]?.getD undef = .pointer (some ⟨t, 0, none⟩) := hV 5 _ 10 rfl rfl (Pred.waits_near (by kernel_rfl) (by kernel_rfl))
        have r8 : b.tmps[8]?.getD undef = .bool true := hV 3 _ 8 rfl rfl (Pred.waits_near (by kernel_rfl) (by kernel_rfl))
        exact Pred.yields_run (v := .pointer (some ⟨t, 1, none⟩)) ((Pred.wanted_at (g := 3) (d := 8) (f := true) rfl rfl r8).trans rfl) (by go_simp) ⟨Pred.ext_refl _ _, rfl⟩
      · intro b X hE hd hn hV
        have r11 : b.tmps[11]?.getD undef = .pointer (some ⟨t, 1, none⟩) := hV 6 _ 11 rfl rfl (Pred.waits_near (by kernel_rfl) (by kernel_rfl))
        have r8 : b.tmps[8]?.getD undef = .bool true := hV 3 _ 8 rfl rfl (Pred.waits_near (by kernel_rfl) (by kernel_rfl))
        have q := (blk_below hE _ lT).trans hT.t
        have z : X.cell? ⟨t, 1, none⟩ = some (.slice (some ⟨g, 0, none⟩) bs.length bs.length) := by rw [blk_cell q]; rfl
        exact Pred.yields_run (v := .slice (some ⟨g, 0, none⟩) bs.length bs.length) ((Pred.wanted_at (g := 3) (d := 8) (f := true) rfl rfl r8).trans rfl) (by go_simp) ⟨Pred.ext_refl _ _, rfl⟩
      · intro b X hE hd hn hV
        have r0 : b.tmps[0]?.getD undef = .pointer (some ⟨t, 0, none⟩) := (hn 0 (by kernel_rfl)).trans rfl
        have r8 : b.tmps[8]?.getD undef = .bool true := hV 3 _ 8 rfl rfl (Pred.waits_near (by kernel_rfl) (by kernel_rfl))
        exact Pred.yields_run (v := .pointer (some ⟨t, 0, none⟩)) ((Pred.wanted_at (g := 3) (d := 8) (f := true) rfl rfl r8).trans rfl) (by go_simp) ⟨Pred.ext_refl _ _, rfl⟩
      · intro b X hE hd hn hV
        have r13 : b.tmps[13]?.getD undef = .pointer (some ⟨t, 0, none⟩) := hV 8 _ 13 rfl rfl (Pred.waits_near (by kernel_rfl) (by kernel_rfl))
        have r8 : b.tmps[8]?.getD undef = .bool true := hV 3 _ 8 rfl rfl (Pred.waits_near (by kernel_rfl) (by kernel_rfl))
        exact Pred.yields_run (v := .pointer (some ⟨t, 0, none⟩)) ((Pred.wanted_at (g := 3) (d := 8) (f := true) rfl rfl r8).trans rfl) (by go_simp) ⟨Pred.ext_refl _ _, rfl⟩
      · intro b X hE hd hn hV
        have r14 : b.tmps[14]?.getD undef = .pointer (some ⟨t, 0, none⟩) := hV 9 _ 14 rfl rfl (Pred.waits_near (by kernel_rfl) (by kernel_rfl))
        have r8 : b.tmps[8]?.getD undef = .bool true := hV 3 _ 8 rfl rfl (Pred.waits_near (by kernel_rfl) (by kernel_rfl))
        exact Pred.yields_run (v := .pointer (some ⟨t, 0, none⟩)) ((Pred.wanted_at (g := 3) (d := 8) (f := true) rfl rfl r8).trans rfl) (by go_simp) ⟨Pred.ext_refl _ _, rfl⟩
      · intro b X hE hd hn hV
        have r15 : b.tmps[15]?.getD undef = .pointer (some ⟨t, 0, none⟩) := hV 10 _ 15 rfl rfl (Pred.waits_near (by kernel_rfl) (by kernel_rfl))
        have r8 : b.tmps[8]?.getD undef = .bool true := hV 3 _ 8 rfl rfl (Pred.waits_near (by kernel_rfl) (by kernel_rfl))
        have q := (blk_below hE _ lT).trans hT.t
        have z : X.cell? ⟨t, 0, none⟩ = some (.int .i64 (n : Int)) := by rw [blk_cell q]; rfl
        exact Pred.yields_run (v := .int .i64 (n : Int)) ((Pred.wanted_at (g := 3) (d := 8) (f := true) rfl rfl r8).trans rfl) (by go_simp) ⟨Pred.ext_refl _ _, rfl⟩
      · intro b X hE hd hn hV
        have r3 : b.tmps[3]?.getD undef = .pointer (some ⟨w.heap.size, 0, none⟩) := (hn 3 (by kernel_rfl)).trans rfl
        have r8 : b.tmps[8]?.getD undef = .bool true := hV 3 _ 8 rfl rfl (Pred.waits_near (by kernel_rfl) (by kernel_rfl))
        have q := (blk_below hE _ lP).trans bP
        have z0 : X.cell? ⟨w.heap.size, 0, none⟩ = some (.int .i64 L) := by rw [blk_cell q]; rfl
        have z1 : X.cell? ⟨w.heap.size, 1, none⟩ = some (.int .i64 X0) := by rw [blk_cell q]; rfl
        have z2 : X.cell? ⟨w.heap.size, 2, none⟩ = some (.int .i64 Y0) := by rw [blk_cell q]; rfl
        exact Pred.yields_run (v := .agg #[.int .i64 L, .int .i64 X0, .int .i64 Y0]) ((Pred.wanted_at (g := 3) (d := 8) (f := true) rfl rfl r8).trans rfl) (by go_simp) ⟨Pred.ext_refl _ _, rfl⟩
      · intro b X hE hd hn hV
        have r16 : b.tmps[16]?.getD undef = .int .i64 (n : Int) := hV 11 _ 16 rfl rfl (Pred.waits_near (by kernel_rfl) (by kernel_rfl))
        have r17 : b.tmps[17]?.getD undef = .agg #[.int .i64 L, .int .i64 X0, .int .i64 Y0] := hV 12 _ 17 rfl rfl (Pred.waits_near (by kernel_rfl) (by kernel_rfl))
        have r8 : b.tmps[8]?.getD undef = .bool true := hV 3 _ 8 rfl rfl (Pred.waits_near (by kernel_rfl) (by kernel_rfl))
        refine Pred.yields_call (f := 22) (args := #[.int .i64 n, .agg #[.int .i64 L, .int .i64 X0, .int .i64 Y0]]) ((Pred.wanted_at (g := 3) (d := 8) (f := true) rfl rfl r8).trans rfl) (by go_simp) ?_
        exact (CK.out _).mono fun e w2 ⟨he, hb⟩ => ⟨_, he, Pred.ext_below hb hE.size, rfl⟩
      · intro b X hE hd hn hV
        have r12 : b.tmps[12]?.getD undef = .slice (some ⟨g, 0, none⟩) bs.length bs.length := hV 7 _ 12 rfl rfl (Pred.waits_near (by kernel_rfl) (by kernel_rfl))
        have r18 : b.tmps[18]?.getD undef = .int .i64 (k : Int) := hV 13 _ 18 rfl rfl (Pred.waits_near (by kernel_rfl) (by kernel_rfl))
        have r8 : b.tmps[8]?.getD undef = .bool true := hV 3 _ 8 rfl rfl (Pred.waits_near (by kernel_rfl) (by kernel_rfl))
        have k1 : (k : Int) < bs.length := by omega
        exact Pred.yields_run (v := .pointer (some ⟨g, k, none⟩)) ((Pred.wanted_at (g := 3) (d := 8) (f := true) rfl rfl r8).trans rfl) (by go_simp) ⟨Pred.ext_refl _ _, rfl⟩
      · intro b X hE hd hn hV
        have r19 : b.tmps[19]?.getD undef = .pointer (some ⟨g, k, none⟩) := hV 14 _ 19 rfl rfl (Pred.waits_near (by kernel_rfl) (by kernel_rfl))
        have r8 : b.tmps[8]?.getD undef = .bool true := hV 3 _ 8 rfl rfl (Pred.waits_near (by kernel_rfl) (by kernel_rfl))
        have q := (blk_below hE _ lG).trans hT.g
        have z : X.cell? ⟨g, k, none⟩ = some (.bool (bs.getD k false)) := by rw [blk_cell q]; exact bb_at hk
        exact Pred.yields_run (v := .bool (bs.getD k false)) ((Pred.wanted_at (g := 3) (d := 8) (f := true) rfl rfl r8).trans rfl) (by go_simp) ⟨Pred.ext_refl _ _, rfl⟩
      · intro b X hE hd hn hV
        have r8 : b.tmps[8]?.getD undef = .bool true := hV 3 _ 8 rfl rfl (Pred.waits_near (by kernel_rfl) (by kernel_rfl))
        have r20 : b.tmps[20]?.getD undef = .bool (bs.getD k false) := hV 15 _ 20 rfl rfl (Pred.waits_near (by kernel_rfl) (by kernel_rfl))
        exact Pred.yields_run (v := .bool (bs.getD k false)) (Pred.wanted_none rfl) (by go_simp) ⟨Pred.ext_refl _ _, rfl⟩
      · intro b X hE hd hn hV
        have r21 : b.tmps[21]?.getD undef = .bool (bs.getD k false) := hV 16 _ 21 rfl rfl (Pred.waits_near (by kernel_rfl) (by kernel_rfl))
        exact Pred.yields_run (v := .bool (bs.getD k false)) (Pred.wanted_none rfl) (by go_simp) ⟨Pred.ext_refl _ _, rfl⟩
    intro v w2 hE hv
    have e0 : v 0 = .pointer (some ⟨t, 0, none⟩) := hv 0 _ 5 rfl rfl
    have e1 : v 1 = .agg #[.int .i64 L, .int .i64 X0, .int .i64 Y0] := hv 1 _ 6 rfl rfl
    have e2 : v 2 = .bool true := hv 2 _ 7 rfl rfl
    have e3 : v 3 = .bool true := hv 3 _ 8 rfl rfl
    have e4 : v 4 = .pointer (some ⟨t, 0, none⟩) := hv 4 _ 9 rfl rfl
    have e5 : v 5 = .pointer (some ⟨t, 0, none⟩) := hv 5 _ 10 rfl rfl
    have e6 : v 6 = .pointer (some ⟨t, 1, none⟩) := hv 6 _ 11 rfl rfl
    have e7 : v 7 = .slice (some ⟨g, 0, none⟩) bs.length bs.length := hv 7 _ 12 rfl rfl
    have e8 : v 8 = .pointer (some ⟨t, 0, none⟩) := hv 8 _ 13 rfl rfl
    have e9 : v 9 = .pointer (some ⟨t, 0, none⟩) := hv 9 _ 14 rfl rfl
    have e10 : v 10 = .pointer (some ⟨t, 0, none⟩) := hv 10 _ 15 rfl rfl
    have e11 : v 11 = .int .i64 (n : Int) := hv 11 _ 16 rfl rfl
    have e12 : v 12 = .agg #[.int .i64 L, .int .i64 X0, .int .i64 Y0] := hv 12 _ 17 rfl rfl
    have e13 : v 13 = .int .i64 (k : Int) := hv 13 _ 18 rfl rfl
    have e14 : v 14 = .pointer (some ⟨g, k, none⟩) := hv 14 _ 19 rfl rfl
    have e15 : v 15 = .bool (bs.getD k false) := hv 15 _ 20 rfl rfl
    have e16 : v 16 = .bool (bs.getD k false) := hv 16 _ 21 rfl rfl
    have e17 : v 17 = .bool (bs.getD k false) := hv 17 _ 4 rfl rfl
    simp only [Pred.putsF_cons, Pred.putsF_nil, Nat.zero_add, Nat.reduceAdd, e0, e1, e2, e3, e4, e5, e6, e7, e8, e9, e10, e11, e12, e13, e14, e15, e16, e17, Act.put, List.setIfInBounds_toArray, List.set_cons_zero, List.set_cons_succ]
    clear e0 e1 e2 e3 e4 e5 e6 e7 e8 e9 e10 e11 e12 e13 e14 e15 e16 e17 hv
    have L2 : Below w.heap.size w w2 := by repeat' (first | (with_reducible exact Below.refl _ _) | (with_reducible refine Rd.below_step ?_ (by assumption)) | (with_reducible refine Rd.below_alloc ?_ _) | (with_reducible refine Rd.below_drewN ?_ _) | (with_reducible refine Below.drew ?_) | (with_reducible refine Below.setCell ?_ ?_ _) | (with_reducible refine Rd.below_setRow ?_ ?_ _) | go_size | (simp only [World.size_alloc]; omega) | omega)
    clear hE
    go_wp2
    go_ret
    exact ⟨rfl, L2⟩
end Go.Proofs.Ytikoajlncdcbcaa.TbA
