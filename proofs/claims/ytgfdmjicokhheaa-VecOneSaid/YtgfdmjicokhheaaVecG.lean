/-
  The laws of package vec: what they lean on, and what the document fixes.
-/
import Derived.Test.YtgfdmjicokhheaaVecF
import Derived.Test.YtgfdmjicokhheaaVecC
namespace Go.Proofs.Ytgfdmjicokhheaa.VecG
open Go.RowKit FixA Num Rd Go.Proofs.Ytgfdmjicokhheaa.Row VecA VecB VecC VecD VecE VecF
set_option linter.unusedVariables false
set_option linter.unusedSimpArgs false
set_option maxRecDepth 10000
attribute [local go_sem ↓] load_mat load_vec store_mat store_vec
attribute [local go_sem] index_mat index_vec run_load_mat run_load_vec run_store_mat run_store_vec rowLoad_eq rowStore_eq blk_alloc_at blk_alloc_old blk_drew blk_drewN blk_set_far blk_set_far' blk_grow setRow_alloc_at setRow_alloc_old setRow_drew setRow_drewN all_map one_int



theorem eq_mat (xs ys : List Int) (hx : xs.length = 16) (hy : ys.length = 16) (d : Nat) (w : World) : (Op.equalIn (d + 2) 23 (.agg (cs .i64 xs)) (.agg (cs .i64 ys))).run Try.prog w = .ok (decide (xs = ys)) w := by
  rw [Eq.run_equalIn_ints (P := Try.prog) w d 23 3 .i64 16 xs ys hx hy Try.underlying23 Try.underlying3 (fun _ => Try.isAgg3 _) (fun _ => Try.sizeOf3 _), Eq.all_decide xs ys hx hy]
theorem eq_vec (xs ys : List Int) (hx : xs.length = 4) (hy : ys.length = 4) (d : Nat) (w : World) : (Op.equalIn (d + 2) 25 (.agg (cs .i64 xs)) (.agg (cs .i64 ys))).run Try.prog w = .ok (decide (xs = ys)) w := by
  rw [Eq.run_equalIn_ints (P := Try.prog) w d 25 3 .i64 4 xs ys hx hy Try.underlying25 Try.underlying3 (fun _ => Try.isAgg3 _) (fun _ => Try.sizeOf3 _), Eq.all_decide xs ys hx hy]
theorem eq_vec_lit (xs : List Int) (b0 b1 b2 b3 : Int) (hx : xs.length = 4) (d : Nat) (w : World) : (Op.equalIn (d + 2) 25 (.agg (cs .i64 xs)) (.agg #[.int .i64 b0, .int .i64 b1, .int .i64 b2, .int .i64 b3])).run Try.prog w = .ok (decide (xs = [b0, b1, b2, b3])) w :=
  eq_vec xs [b0, b1, b2, b3] hx rfl d w
attribute [local go_sem] eq_mat eq_vec eq_vec_lit

theorem mulV_len (ms ns : List Int) : (mulV ms ns).1.length = 16 := by unfold mulV; split <;> simp [allowV_len, prodK_len]
theorem wfn : Wf [] := fun x hx => by cases hx
theorem wfc {a : Int} {l : List Int} (h : (Lit.int .i64 a).wf = true) (hl : Wf l) : Wf (a :: l) := fun x hx => by
  rcases List.mem_cons.1 hx with rfl | hx
  · exact h
  · exact hl x hx

set_option maxHeartbeats 4000000 in
theorem awake_any (w : World) :
    Calls Try.prog 20 #[] w fun e w' => e = .returned (.bool true) ∧ Below w.heap.size w w' := by
  have A1 := Lib.hid (show allowV (moveL 65536 0 0) = (moveL 65536 0 0, 0) by decide)
  have A2 := Lib.hid (show applyV (moveL 65536 0 0) [0, 0, 0, 65536] = ([65536, 0, 0, 65536], 0) by decide)
  have A3 := Lib.hid (show applyV (moveL 65536 0 0) [268435457, 0, 0, 0] = ([0, 0, 0, 0], 2) by decide)
  have A4 := Lib.hid (show allowV (stretchL 1048577 0 0) = (List.replicate 16 0, 2) by decide)
  have A5 := Lib.hid (show allowV (stretchL 131072 65536 65536) = (stretchL 131072 65536 65536, 0) by decide)
  have A6 := Lib.hid (show mulV (stretchL 131072 65536 65536) (moveL 65536 0 0) = ([131072, 0, 0, 131072, 0, 65536, 0, 0, 0, 0, 65536, 0, 0, 0, 0, 65536], 0) by decide)
  have A7 := Lib.hid (show oneL.all cellB = true by decide)
  have A8 := Lib.hid (show [1048577, 0, 0, 0, 0, 0, 0, 0, 0, 0, 0, 0, 0, 0, 0, 0].all cellB = false by decide)
  have M := Lib.hid (wf_moveL (x := 65536) (y := 0) (z := 0) rfl rfl rfl)
  have M2 := Lib.hid (wf_stretchL (x := 131072) (y := 65536) (z := 65536) rfl rfl rfl)
  have hm : (moveL 65536 0 0).length = 16 := rfl
  have hs : (stretchL 131072 65536 65536).length = 16 := rfl
  generalize hM : moveL 65536 0 0 = mL at *
  generalize hS : stretchL 131072 65536 65536 = sL at *
  have HM := Lib.hid hM
  have HS := Lib.hid hS
  clear hM hS
  go_enter Try.func20, Try.ntmps20
  go_wp2_with fail
  refine (move_any 65536 0 0 _ rfl rfl rfl).mono ?_
  rintro e w1 ⟨rfl, hb1⟩
  rw [HM.out, A1.out]
  have s1 := hb1.size
  try simp only [World.size_alloc] at s1
  have L1 : Below w.heap.size w w1 := by repeat' (first | (with_reducible exact Below.refl _ _) | (with_reducible refine Rd.below_step ?_ (by assumption)) | (with_reducible refine Rd.below_alloc ?_ _) | (with_reducible refine Rd.below_drewN ?_ _) | (with_reducible refine Below.drew ?_) | (with_reducible refine Below.setCell ?_ ?_ _) | (with_reducible refine Rd.below_setRow ?_ ?_ _) | go_size | (simp only [World.size_alloc]; omega) | omega)
  clear hb1
  go_wp2_with fail
  refine (apply_any mL [0, 0, 0, 65536] hm rfl _ M.out (wfc rfl (wfc rfl (wfc rfl (wfc rfl wfn))))).mono ?_
  rintro e w2 ⟨rfl, hb2⟩
  rw [A2.out]
  have s2 := hb2.size
  try simp only [World.size_alloc] at s2
  have m2 : blk w2 (w1.heap.size) = some (.cells (cs .i64 mL) 23 (0, 0)) := (blk_below hb2 _ (by (try simp only [World.size_alloc]); omega)).trans (blk_alloc_at _ _ _ rfl)
  have L2 : Below w.heap.size w w2 := by repeat' (first | (with_reducible exact Below.refl _ _) | (with_reducible refine Rd.below_step ?_ (by assumption)) | (with_reducible refine Rd.below_alloc ?_ _) | (with_reducible refine Rd.below_drewN ?_ _) | (with_reducible refine Below.drew ?_) | (with_reducible refine Below.setCell ?_ ?_ _) | (with_reducible refine Rd.below_setRow ?_ ?_ _) | go_size | (simp only [World.size_alloc]; omega) | omega)
  clear hb2 L1
  have lm2 := blk_lt m2
  go_wp2_with fail
  refine (apply_any mL [268435457, 0, 0, 0] hm rfl _ M.out (wfc rfl (wfc rfl (wfc rfl (wfc rfl wfn))))).mono ?_
  rintro e w3 ⟨rfl, hb3⟩
  rw [A3.out]
  have s3 := hb3.size
  try simp only [World.size_alloc] at s3
  have m3 : blk w3 (w1.heap.size) = some (.cells (cs .i64 mL) 23 (0, 0)) := (blk_below hb3 _ (by (try simp only [World.size_alloc]); omega)).trans ((blk_alloc_old _ _ _ (by (try simp only [World.size_alloc]); omega)).trans (m2))
  have v3 : blk w3 (w2.heap.size) = some (.cells (cs .i64 [65536, 0, 0, 65536]) 25 (0, 0)) := (blk_below hb3 _ (by (try simp only [World.size_alloc]); omega)).trans (blk_alloc_at _ _ _ rfl)
  have L3 : Below w.heap.size w w3 := by repeat' (first | (with_reducible exact Below.refl _ _) | (with_reducible refine Rd.below_step ?_ (by assumption)) | (with_reducible refine Rd.below_alloc ?_ _) | (with_reducible refine Rd.below_drewN ?_ _) | (with_reducible refine Below.drew ?_) | (with_reducible refine Below.setCell ?_ ?_ _) | (with_reducible refine Rd.below_setRow ?_ ?_ _) | go_size | (simp only [World.size_alloc]; omega) | omega)
  clear m2 lm2 hb3 L2
  have lm3 := blk_lt m3
  have lv3 := blk_lt v3
  go_wp2_with fail
  refine (stretch_any 1048577 0 0 _ rfl rfl rfl).mono ?_
  rintro e w4 ⟨rfl, hb4⟩
  rw [A4.out]
  have s4 := hb4.size
  try simp only [World.size_alloc] at s4
  have m4 : blk w4 (w1.heap.size) = some (.cells (cs .i64 mL) 23 (0, 0)) := (blk_below hb4 _ (by (try simp only [World.size_alloc]); omega)).trans ((blk_alloc_old _ _ _ (by (try simp only [World.size_alloc]); omega)).trans (m3))
  have v4 : blk w4 (w2.heap.size) = some (.cells (cs .i64 [65536, 0, 0, 65536]) 25 (0, 0)) := (blk_below hb4 _ (by (try simp only [World.size_alloc]); omega)).trans ((blk_alloc_old _ _ _ (by (try simp only [World.size_alloc]); omega)).trans (v3))
  have g4 : blk w4 (w3.heap.size) = some (.cells (cs .i64 [0, 0, 0, 0]) 25 (0, 0)) := (blk_below hb4 _ (by (try simp only [World.size_alloc]); omega)).trans (blk_alloc_at _ _ _ rfl)
  have L4 : Below w.heap.size w w4 := by repeat' (first | (with_reducible exact Below.refl _ _) | (with_reducible refine Rd.below_step ?_ (by assumption)) | (with_reducible refine Rd.below_alloc ?_ _) | (with_reducible refine Rd.below_drewN ?_ _) | (with_reducible refine Below.drew ?_) | (with_reducible refine Below.setCell ?_ ?_ _) | (with_reducible refine Rd.below_setRow ?_ ?_ _) | go_size | (simp only [World.size_alloc]; omega) | omega)
  clear m3 v3 lm3 lv3 hb4 L3
  have lm4 := blk_lt m4
  have lv4 := blk_lt v4
  have lg4 := blk_lt g4
  go_wp2_with fail
  refine (stretch_any 131072 65536 65536 _ rfl rfl rfl).mono ?_
  rintro e w5 ⟨rfl, hb5⟩
  rw [HS.out, A5.out]
  have s5 := hb5.size
  try simp only [World.size_alloc] at s5
  have m5 : blk w5 (w1.heap.size) = some (.cells (cs .i64 mL) 23 (0, 0)) := (blk_below hb5 _ (by (try simp only [World.size_alloc]); omega)).trans ((blk_alloc_old _ _ _ (by (try simp only [World.size_alloc]); omega)).trans (m4))
  have v5 : blk w5 (w2.heap.size) = some (.cells (cs .i64 [65536, 0, 0, 65536]) 25 (0, 0)) := (blk_below hb5 _ (by (try simp only [World.size_alloc]); omega)).trans ((blk_alloc_old _ _ _ (by (try simp only [World.size_alloc]); omega)).trans (v4))
  have g5 : blk w5 (w3.heap.size) = some (.cells (cs .i64 [0, 0, 0, 0]) 25 (0, 0)) := (blk_below hb5 _ (by (try simp only [World.size_alloc]); omega)).trans ((blk_alloc_old _ _ _ (by (try simp only [World.size_alloc]); omega)).trans (g4))
  have h5 : blk w5 (w4.heap.size) = some (.cells (cs .i64 (List.replicate 16 0)) 23 (0, 0)) := (blk_below hb5 _ (by (try simp only [World.size_alloc]); omega)).trans (blk_alloc_at _ _ _ rfl)
  have L5 : Below w.heap.size w w5 := by repeat' (first | (with_reducible exact Below.refl _ _) | (with_reducible refine Rd.below_step ?_ (by assumption)) | (with_reducible refine Rd.below_alloc ?_ _) | (with_reducible refine Rd.below_drewN ?_ _) | (with_reducible refine Below.drew ?_) | (with_reducible refine Below.setCell ?_ ?_ _) | (with_reducible refine Rd.below_setRow ?_ ?_ _) | go_size | (simp only [World.size_alloc]; omega) | omega)
  clear m4 v4 g4 lm4 lv4 lg4 hb5 L4
  have lm5 := blk_lt m5
  have lv5 := blk_lt v5
  have lg5 := blk_lt g5
  have lh5 := blk_lt h5
  go_wp2_with fail
  refine (mul_any sL mL hs hm _ M2.out M.out).mono ?_
  rintro e w6 ⟨rfl, hb6⟩
  rw [A6.out]
  have s6 := hb6.size
  try simp only [World.size_alloc] at s6
  have m6 : blk w6 (w1.heap.size) = some (.cells (cs .i64 mL) 23 (0, 0)) := (blk_below hb6 _ (by (try simp only [World.size_alloc]); omega)).trans ((blk_alloc_old _ _ _ (by (try simp only [World.size_alloc]); omega)).trans (m5))
  have v6 : blk w6 (w2.heap.size) = some (.cells (cs .i64 [65536, 0, 0, 65536]) 25 (0, 0)) := (blk_below hb6 _ (by (try simp only [World.size_alloc]); omega)).trans ((blk_alloc_old _ _ _ (by (try simp only [World.size_alloc]); omega)).trans (v5))
  have g6 : blk w6 (w3.heap.size) = some (.cells (cs .i64 [0, 0, 0, 0]) 25 (0, 0)) := (blk_below hb6 _ (by (try simp only [World.size_alloc]); omega)).trans ((blk_alloc_old _ _ _ (by (try simp only [World.size_alloc]); omega)).trans (g5))
  have h6 : blk w6 (w4.heap.size) = some (.cells (cs .i64 (List.replicate 16 0)) 23 (0, 0)) := (blk_below hb6 _ (by (try simp only [World.size_alloc]); omega)).trans ((blk_alloc_old _ _ _ (by (try simp only [World.size_alloc]); omega)).trans (h5))
  have s6 : blk w6 (w5.heap.size) = some (.cells (cs .i64 sL) 23 (0, 0)) := (blk_below hb6 _ (by (try simp only [World.size_alloc]); omega)).trans (blk_alloc_at _ _ _ rfl)
  have L6 : Below w.heap.size w w6 := by repeat' (first | (with_reducible exact Below.refl _ _) | (with_reducible refine Rd.below_step ?_ (by assumption)) | (with_reducible refine Rd.below_alloc ?_ _) | (with_reducible refine Rd.below_drewN ?_ _) | (with_reducible refine Below.drew ?_) | (with_reducible refine Below.setCell ?_ ?_ _) | (with_reducible refine Rd.below_setRow ?_ ?_ _) | go_size | (simp only [World.size_alloc]; omega) | omega)
  clear m5 v5 g5 h5 lm5 lv5 lg5 lh5 hb6 L5
  have lm6 := blk_lt m6
  have lv6 := blk_lt v6
  have lg6 := blk_lt g6
  have lh6 := blk_lt h6
  have ls6 := blk_lt s6
  go_wp2_with fail
  refine (one_any _).mono ?_
  rintro e w7 ⟨rfl, hb7⟩
  simp only [oneL]
  have s7 := hb7.size
  try simp only [World.size_alloc] at s7
  have m7 : blk w7 (w1.heap.size) = some (.cells (cs .i64 mL) 23 (0, 0)) := (blk_below hb7 _ (by (try simp only [World.size_alloc]); omega)).trans ((blk_alloc_old _ _ _ (by (try simp only [World.size_alloc]); omega)).trans (m6))
  have v7 : blk w7 (w2.heap.size) = some (.cells (cs .i64 [65536, 0, 0, 65536]) 25 (0, 0)) := (blk_below hb7 _ (by (try simp only [World.size_alloc]); omega)).trans ((blk_alloc_old _ _ _ (by (try simp only [World.size_alloc]); omega)).trans (v6))
  have g7 : blk w7 (w3.heap.size) = some (.cells (cs .i64 [0, 0, 0, 0]) 25 (0, 0)) := (blk_below hb7 _ (by (try simp only [World.size_alloc]); omega)).trans ((blk_alloc_old _ _ _ (by (try simp only [World.size_alloc]); omega)).trans (g6))
  have h7 : blk w7 (w4.heap.size) = some (.cells (cs .i64 (List.replicate 16 0)) 23 (0, 0)) := (blk_below hb7 _ (by (try simp only [World.size_alloc]); omega)).trans ((blk_alloc_old _ _ _ (by (try simp only [World.size_alloc]); omega)).trans (h6))
  have s7 : blk w7 (w5.heap.size) = some (.cells (cs .i64 sL) 23 (0, 0)) := (blk_below hb7 _ (by (try simp only [World.size_alloc]); omega)).trans ((blk_alloc_old _ _ _ (by (try simp only [World.size_alloc]); omega)).trans (s6))
  have p7 : blk w7 (w6.heap.size) = some (.cells (cs .i64 [131072, 0, 0, 131072, 0, 65536, 0, 0, 0, 0, 65536, 0, 0, 0, 0, 65536]) 23 (0, 0)) := (blk_below hb7 _ (by (try simp only [World.size_alloc]); omega)).trans (blk_alloc_at _ _ _ rfl)
  have L7 : Below w.heap.size w w7 := by repeat' (first | (with_reducible exact Below.refl _ _) | (with_reducible refine Rd.below_step ?_ (by assumption)) | (with_reducible refine Rd.below_alloc ?_ _) | (with_reducible refine Rd.below_drewN ?_ _) | (with_reducible refine Below.drew ?_) | (with_reducible refine Below.setCell ?_ ?_ _) | (with_reducible refine Rd.below_setRow ?_ ?_ _) | go_size | (simp only [World.size_alloc]; omega) | omega)
  clear m6 v6 g6 h6 s6 lm6 lv6 lg6 lh6 ls6 hb7 L6
  have lm7 := blk_lt m7
  have lv7 := blk_lt v7
  have lg7 := blk_lt g7
  have lh7 := blk_lt h7
  have ls7 := blk_lt s7
  have lp7 := blk_lt p7
  have c3 := (blk_cell p7) 3
  have c0 := (blk_cell p7) 0
  go_wp2_with fail
  refine (one_any _).mono ?_
  rintro e w8 ⟨rfl, hb8⟩
  simp only [oneL]
  have s8 := hb8.size
  try simp only [World.size_alloc] at s8
  have m8 : blk w8 (w1.heap.size) = some (.cells (cs .i64 mL) 23 (0, 0)) := (blk_below hb8 _ (by (try simp only [World.size_alloc]); omega)).trans (m7)
  have v8 : blk w8 (w2.heap.size) = some (.cells (cs .i64 [65536, 0, 0, 65536]) 25 (0, 0)) := (blk_below hb8 _ (by (try simp only [World.size_alloc]); omega)).trans (v7)
  have g8 : blk w8 (w3.heap.size) = some (.cells (cs .i64 [0, 0, 0, 0]) 25 (0, 0)) := (blk_below hb8 _ (by (try simp only [World.size_alloc]); omega)).trans (g7)
  have h8 : blk w8 (w4.heap.size) = some (.cells (cs .i64 (List.replicate 16 0)) 23 (0, 0)) := (blk_below hb8 _ (by (try simp only [World.size_alloc]); omega)).trans (h7)
  have s8 : blk w8 (w5.heap.size) = some (.cells (cs .i64 sL) 23 (0, 0)) := (blk_below hb8 _ (by (try simp only [World.size_alloc]); omega)).trans (s7)
  have p8 : blk w8 (w6.heap.size) = some (.cells (cs .i64 [131072, 0, 0, 131072, 0, 65536, 0, 0, 0, 0, 65536, 0, 0, 0, 0, 65536]) 23 (0, 0)) := (blk_below hb8 _ (by (try simp only [World.size_alloc]); omega)).trans (p7)
  have L8 : Below w.heap.size w w8 := by repeat' (first | (with_reducible exact Below.refl _ _) | (with_reducible refine Rd.below_step ?_ (by assumption)) | (with_reducible refine Rd.below_alloc ?_ _) | (with_reducible refine Rd.below_drewN ?_ _) | (with_reducible refine Below.drew ?_) | (with_reducible refine Below.setCell ?_ ?_ _) | (with_reducible refine Rd.below_setRow ?_ ?_ _) | go_size | (simp only [World.size_alloc]; omega) | omega)
  clear m7 v7 g7 h7 s7 p7 lm7 lv7 lg7 lh7 ls7 lp7 hb8 L7
  have lm8 := blk_lt m8
  have lv8 := blk_lt v8
  have lg8 := blk_lt g8
  have lh8 := blk_lt h8
  have ls8 := blk_lt s8
  have lp8 := blk_lt p8
  go_wp2_with fail
  refine (one_any _).mono ?_
  rintro e w9 ⟨rfl, hb9⟩
  have s9 := hb9.size
  try simp only [World.size_alloc] at s9
  have m9 : blk w9 (w1.heap.size) = some (.cells (cs .i64 mL) 23 (0, 0)) := (blk_below hb9 _ (by (try simp only [World.size_alloc]); omega)).trans (m8)
  have v9 : blk w9 (w2.heap.size) = some (.cells (cs .i64 [65536, 0, 0, 65536]) 25 (0, 0)) := (blk_below hb9 _ (by (try simp only [World.size_alloc]); omega)).trans (v8)
  have g9 : blk w9 (w3.heap.size) = some (.cells (cs .i64 [0, 0, 0, 0]) 25 (0, 0)) := (blk_below hb9 _ (by (try simp only [World.size_alloc]); omega)).trans (g8)
  have h9 : blk w9 (w4.heap.size) = some (.cells (cs .i64 (List.replicate 16 0)) 23 (0, 0)) := (blk_below hb9 _ (by (try simp only [World.size_alloc]); omega)).trans (h8)
  have s9 : blk w9 (w5.heap.size) = some (.cells (cs .i64 sL) 23 (0, 0)) := (blk_below hb9 _ (by (try simp only [World.size_alloc]); omega)).trans (s8)
  have p9 : blk w9 (w6.heap.size) = some (.cells (cs .i64 [131072, 0, 0, 131072, 0, 65536, 0, 0, 0, 0, 65536, 0, 0, 0, 0, 65536]) 23 (0, 0)) := (blk_below hb9 _ (by (try simp only [World.size_alloc]); omega)).trans (p8)
  have L9 : Below w.heap.size w w9 := by repeat' (first | (with_reducible exact Below.refl _ _) | (with_reducible refine Rd.below_step ?_ (by assumption)) | (with_reducible refine Rd.below_alloc ?_ _) | (with_reducible refine Rd.below_drewN ?_ _) | (with_reducible refine Below.drew ?_) | (with_reducible refine Below.setCell ?_ ?_ _) | (with_reducible refine Rd.below_setRow ?_ ?_ _) | go_size | (simp only [World.size_alloc]; omega) | omega)
  clear m8 v8 g8 h8 s8 p8 lm8 lv8 lg8 lh8 ls8 lp8 hb9 L8
  have lm9 := blk_lt m9
  have lv9 := blk_lt v9
  have lg9 := blk_lt g9
  have lh9 := blk_lt h9
  have ls9 := blk_lt s9
  have lp9 := blk_lt p9
  go_wp2_with fail
  refine (may_any oneL rfl _ (by decide)).mono ?_
  rintro e w10 ⟨rfl, hb10⟩
  rw [A7.out]
  have s10 := hb10.size
  try simp only [World.size_alloc] at s10
  have m10 : blk w10 (w1.heap.size) = some (.cells (cs .i64 mL) 23 (0, 0)) := (blk_below hb10 _ (by (try simp only [World.size_alloc]); omega)).trans (m9)
  have v10 : blk w10 (w2.heap.size) = some (.cells (cs .i64 [65536, 0, 0, 65536]) 25 (0, 0)) := (blk_below hb10 _ (by (try simp only [World.size_alloc]); omega)).trans (v9)
  have g10 : blk w10 (w3.heap.size) = some (.cells (cs .i64 [0, 0, 0, 0]) 25 (0, 0)) := (blk_below hb10 _ (by (try simp only [World.size_alloc]); omega)).trans (g9)
  have h10 : blk w10 (w4.heap.size) = some (.cells (cs .i64 (List.replicate 16 0)) 23 (0, 0)) := (blk_below hb10 _ (by (try simp only [World.size_alloc]); omega)).trans (h9)
  have s10 : blk w10 (w5.heap.size) = some (.cells (cs .i64 sL) 23 (0, 0)) := (blk_below hb10 _ (by (try simp only [World.size_alloc]); omega)).trans (s9)
  have p10 : blk w10 (w6.heap.size) = some (.cells (cs .i64 [131072, 0, 0, 131072, 0, 65536, 0, 0, 0, 0, 65536, 0, 0, 0, 0, 65536]) 23 (0, 0)) := (blk_below hb10 _ (by (try simp only [World.size_alloc]); omega)).trans (p9)
  have L10 : Below w.heap.size w w10 := by repeat' (first | (with_reducible exact Below.refl _ _) | (with_reducible refine Rd.below_step ?_ (by assumption)) | (with_reducible refine Rd.below_alloc ?_ _) | (with_reducible refine Rd.below_drewN ?_ _) | (with_reducible refine Below.drew ?_) | (with_reducible refine Below.setCell ?_ ?_ _) | (with_reducible refine Rd.below_setRow ?_ ?_ _) | go_size | (simp only [World.size_alloc]; omega) | omega)
  clear m9 v9 g9 h9 s9 p9 lm9 lv9 lg9 lh9 ls9 lp9 hb10 L9
  have lm10 := blk_lt m10
  have lv10 := blk_lt v10
  have lg10 := blk_lt g10
  have lh10 := blk_lt h10
  have ls10 := blk_lt s10
  have lp10 := blk_lt p10
  go_wp2_with fail
  refine (may_any [1048577, 0, 0, 0, 0, 0, 0, 0, 0, 0, 0, 0, 0, 0, 0, 0] rfl _ (by decide)).mono ?_
  rintro e w11 ⟨rfl, hb11⟩
  rw [A8.out]
  have s11 := hb11.size
  try simp only [World.size_alloc] at s11
  have m11 : blk w11 (w1.heap.size) = some (.cells (cs .i64 mL) 23 (0, 0)) := (blk_below hb11 _ (by (try simp only [World.size_alloc]); omega)).trans (m10)
  have v11 : blk w11 (w2.heap.size) = some (.cells (cs .i64 [65536, 0, 0, 65536]) 25 (0, 0)) := (blk_below hb11 _ (by (try simp only [World.size_alloc]); omega)).trans (v10)
  have g11 : blk w11 (w3.heap.size) = some (.cells (cs .i64 [0, 0, 0, 0]) 25 (0, 0)) := (blk_below hb11 _ (by (try simp only [World.size_alloc]); omega)).trans (g10)
  have h11 : blk w11 (w4.heap.size) = some (.cells (cs .i64 (List.replicate 16 0)) 23 (0, 0)) := (blk_below hb11 _ (by (try simp only [World.size_alloc]); omega)).trans (h10)
  have s11 : blk w11 (w5.heap.size) = some (.cells (cs .i64 sL) 23 (0, 0)) := (blk_below hb11 _ (by (try simp only [World.size_alloc]); omega)).trans (s10)
  have p11 : blk w11 (w6.heap.size) = some (.cells (cs .i64 [131072, 0, 0, 131072, 0, 65536, 0, 0, 0, 0, 65536, 0, 0, 0, 0, 65536]) 23 (0, 0)) := (blk_below hb11 _ (by (try simp only [World.size_alloc]); omega)).trans (p10)
  have L11 : Below w.heap.size w w11 := by repeat' (first | (with_reducible exact Below.refl _ _) | (with_reducible refine Rd.below_step ?_ (by assumption)) | (with_reducible refine Rd.below_alloc ?_ _) | (with_reducible refine Rd.below_drewN ?_ _) | (with_reducible refine Below.drew ?_) | (with_reducible refine Below.setCell ?_ ?_ _) | (with_reducible refine Rd.below_setRow ?_ ?_ _) | go_size | (simp only [World.size_alloc]; omega) | omega)
  clear m10 v10 g10 h10 s10 p10 lm10 lv10 lg10 lh10 ls10 lp10 hb11 L10
  have lm11 := blk_lt m11
  have lv11 := blk_lt v11
  have lg11 := blk_lt g11
  have lh11 := blk_lt h11
  have ls11 := blk_lt s11
  have lp11 := blk_lt p11
  go_wp2_with fail
  go_ret
  exact ⟨rfl, by repeat' (first | (with_reducible exact Below.refl _ _) | (with_reducible refine Rd.below_step ?_ (by assumption)) | (with_reducible refine Rd.below_alloc ?_ _) | (with_reducible refine Rd.below_drewN ?_ _) | (with_reducible refine Below.drew ?_) | (with_reducible refine Below.setCell ?_ ?_ _) | (with_reducible refine Rd.below_setRow ?_ ?_ _) | go_size | (simp only [World.size_alloc]; omega) | omega)⟩
end Go.Proofs.Ytgfdmjicokhheaa.VecG
