/-
  Tables: New; a table that is none.
-/
import Derived.Test.YtikoajlncdcbcaaTbC
namespace Go.Proofs.Ytikoajlncdcbcaa.TbD
open Go.RowKit Rd Go.Proofs.Ytikoajlncdcbcaa.Row Mid PgM PgA PgB PgC TbA TbB TbC
open Go.Proofs.Ytikoajlncdcbcaa.Pred (Is is_stab Stab)
set_option linter.unusedVariables false
set_option linter.unusedSimpArgs false
set_option maxRecDepth 10000
theorem info_bool : (Try.prog.info? 4).map (fun i => (i.zero, i.size, i.bytes)) = some (some (.bool false), 1, 1) := by kernel_rfl
theorem made_bool (n : Nat) : madeCells (Value.cells (.bool false)) n = bb (List.replicate n false) := by
  apply Array.ext
  · simp [madeCells, bb]
  · intro i h1 h2
    simp only [madeCells, Value.cells, Nat.mod_one, bb, List.map_replicate, Array.getElem_map, List.getElem_toArray, List.getElem_replicate]
    show #[Value.bool false][(Array.range n)[i]'(by simpa [madeCells] using h1) % 1]! = _
    rw [Nat.mod_one]
    rfl
theorem run_make_bool (n : Nat) (hn : n ≤ 100000) (w : World) :
    (Instr.makeSlice 46 (.int .i64 (n : Int)) (.int .i64 (n : Int))).run Try.prog w = .ok (.slice (some ⟨w.heap.size, 0, none⟩) n n) (w.alloc (.cells (bb (List.replicate n false)) 4)) := by
  obtain ⟨i, hi, hz, hs, hb⟩ := info_parts info_bool
  have hr := run_make (P := Try.prog) w 46 4 i (.bool false) Try.underlying46 hi hz .i64 .i64 (n : Int) (n : Int) (by omega) (by omega) (by rw [hb]; omega) (by omega)
  simp only [Int.toNat_natCast, hs, Nat.mul_one] at hr
  rw [hr, made_bool]
def startL (n : Nat) : List Bool := (List.replicate (allV n).length false).set 0 true
theorem root_key {n : Nat} (hn : n ≤ 3) : validB n n 0 0 = true ∧ keyV n n 0 0 = 0 := by
  have : n = 0 ∨ n = 1 ∨ n = 2 ∨ n = 3 := by omega
  rcases this with rfl | rfl | rfl | rfl <;> decide +kernel
attribute [local go_sem ↓] store_pg eq_pg3 run_make_bool
attribute [local go_sem] one_int pc3 run_store_pg rowStore_eq blk_alloc_at blk_alloc_old blk_drew blk_drewN blk_set_far blk_set_far' blk_grow setRow_alloc_at setRow_alloc_old setRow_drew setRow_drewN
set_option maxHeartbeats 4000000 in
theorem new_no (d : Int) (hd : depthB d = false) (w : World) :
    Calls Try.prog 7 #[.int .i64 d] w fun e w' => e = .returned (.tuple #[.pointer none, .int .i64 1]) ∧ Below w.heap.size w w' := by
  have CN : Hid (∀ X : World, Calls Try.prog 17 #[.int .i64 d] X fun e w' => e = .returned (.int .i64 0) ∧ Below X.heap.size X w') := fun X => by
    have := count_any d X
    rw [show countV d = 0 by unfold countV; rw [hd]; rfl] at this
    exact this
  go_enter Try.func7, Try.ntmps7
  go_wp2_with fail
  refine (CN.out _).mono ?_
  rintro e w1 ⟨rfl, hb1⟩
  have L1 : Below w.heap.size w w1 := by repeat' (first | (with_reducible exact Below.refl _ _) | (with_reducible refine Rd.below_step ?_ (by assumption)) | (with_reducible refine Rd.below_alloc ?_ _) | (with_reducible refine Rd.below_drewN ?_ _) | (with_reducible refine Below.drew ?_) | (with_reducible refine Below.setCell ?_ ?_ _) | (with_reducible refine Rd.below_setRow ?_ ?_ _) | go_size | (simp only [World.size_alloc]; omega) | omega)
  go_wp2
  go_ret2
  exact ⟨rfl, L1⟩
set_option maxHeartbeats 4000000 in
theorem new_any (n : Nat) (hn : n ≤ 3) (w : World) :
    Calls Try.prog 7 #[.int .i64 n] w fun e w' => (∃ t g, e = .returned (.tuple #[.pointer (some ⟨t, 0, none⟩), .int .i64 0]) ∧ w.heap.size ≤ t ∧ w.heap.size ≤ g ∧ Tab w' t g n (startL n)) ∧ Below w.heap.size w w' := by
  have hcount := all_len (n : Int)
  have hsm := all_small (n : Int)
  obtain ⟨N, hN⟩ : ∃ N, (allV (n : Int)).length = N := ⟨_, rfl⟩
  rw [hN] at hcount hsm
  have hpos : 1 ≤ N := by
    rw [← hN]
    have : n = 0 ∨ n = 1 ∨ n = 2 ∨ n = 3 := by omega
    rcases this with rfl | rfl | rfl | rfl <;> decide +kernel
  have CN : Hid (∀ X : World, Calls Try.prog 17 #[.int .i64 n] X fun e w' => e = .returned (.int .i64 N) ∧ Below X.heap.size X w') := fun X => by
    have := count_any n X
    rw [← hcount] at this
    exact this
  have CR : Hid (∀ X : World, Calls Try.prog 18 #[.int .i64 n] X fun e w' => e = .returned (.agg #[.int .i64 n, .int .i64 0, .int .i64 0]) ∧ Below X.heap.size X w') := fun X => by
    have := root_any n X
    rw [show rootV (n : Int) = [(n : Int), 0, 0] by unfold rootV; rw [if_pos (depth_mk (by omega) (by omega))]] at this
    exact this
  have RK := Lib.hid (root_key hn)
  have HN := Lib.hid hN
  have hNz : ((N : Int) == 0) = false := by simp; omega
  have mk := run_make_bool N (by omega)
  clear hN hcount
  go_enter Try.func7, Try.ntmps7
  go_wp2_with fail
  refine (CN.out _).mono ?_
  rintro e w1 ⟨rfl, hb1⟩
  have L1 : Below w.heap.size w w1 := hb1
  clear hb1
  go_wp2_with fail
  refine (CN.out _).mono ?_
  rintro e w2 ⟨rfl, hb2⟩
  have L2 : Below w.heap.size w w2 := by repeat' (first | (with_reducible exact Below.refl _ _) | (with_reducible refine Rd.below_step ?_ (by assumption)) | (with_reducible refine Rd.below_alloc ?_ _) | (with_reducible refine Rd.below_drewN ?_ _) | (with_reducible refine Below.drew ?_) | (with_reducible refine Below.setCell ?_ ?_ _) | (with_reducible refine Rd.below_setRow ?_ ?_ _) | go_size | (simp only [World.size_alloc]; omega) | omega)
  clear hb2 L1
  go_upto_region 4 with (fail)
  refine Rd.name_world ?_
  intro w3 hw
  have hT : Tab w3 (w2.heap.size + 1) w2.heap.size n (List.replicate N false) := by
    refine ⟨?_, ?_, by rw [List.length_replicate, HN.out], hn⟩
    · rw [hw, List.length_replicate]
      exact blk2_1 _ _ _
    · rw [hw]
      exact blk2_0 _ _ _
  have L3 : Below w.heap.size w w3 := by
    rw [hw]
    repeat' (first | (with_reducible exact Below.refl _ _) | (with_reducible refine Rd.below_step ?_ (by assumption)) | (with_reducible refine Rd.below_alloc ?_ _) | (with_reducible refine Rd.below_drewN ?_ _) | (with_reducible refine Below.drew ?_) | (with_reducible refine Below.setCell ?_ ?_ _) | (with_reducible refine Rd.below_setRow ?_ ?_ _) | go_size | (simp only [World.size_alloc]; omega) | omega)
  have hs := L2.size
  obtain ⟨t, ht⟩ : ∃ t, w2.heap.size + 1 = t := ⟨_, rfl⟩
  obtain ⟨g, hg⟩ : ∃ g, w2.heap.size = g := ⟨_, rfl⟩
  have ht1 : w.heap.size ≤ t := by omega
  have hg1 : w.heap.size ≤ g := by omega
  rw [ht, hg] at hT
  rw [ht]
  clear hw ht hg L2 mk CN hs hNz
  go_wp2_with fail
  refine (CR.out _).mono ?_
  rintro e w4 ⟨rfl, hb4⟩
  have L4 : Below w.heap.size w w4 := by repeat' (first | (with_reducible exact Below.refl _ _) | (with_reducible refine Rd.below_step ?_ (by assumption)) | (with_reducible refine Rd.below_alloc ?_ _) | (with_reducible refine Rd.below_drewN ?_ _) | (with_reducible refine Below.drew ?_) | (with_reducible refine Below.setCell ?_ ?_ _) | (with_reducible refine Rd.below_setRow ?_ ?_ _) | go_size | (simp only [World.size_alloc]; omega) | omega)
  have hT4 := hT.bel hb4
  clear hb4 L3 hT CR
  go_wp2_with fail
  refine (set_any t g n (List.replicate N false) n 0 0 true w4 hT4).mono ?_
  have eB : setB n n 0 0 true = true := by unfold setB; rw [RK.out.1]; simp
  rw [eB, if_pos rfl, RK.out.2]
  rintro e w5 ⟨rfl, hT5, hg5⟩
  have hfin : Tab w5 t g n (startL n) := by
    unfold startL
    rw [HN.out]
    exact hT5
  have L5 : Below w.heap.size w w5 := L4.grown hg5 L4.size (fun j hj => by injection hj with hj; omega)
  clear hT5 hg5 eB
  go_wp2
  go_ret2
  exact ⟨⟨t, g, rfl, ht1, hg1, hfin⟩, L5⟩
end Go.Proofs.Ytikoajlncdcbcaa.TbD
